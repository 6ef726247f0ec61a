import PyProof.Rows.All
import Wide.All
import OpenK.AllK
import Wide.FinOn
import Lean
import PyProof.EqAt
import PyProof.EqKinds
import PyProof.TupleCall
import KE.KIntText
import KE.KRevSl
import PyProof.Rows.SeqMore
import PyProof.WalkInts
import PyProof.Rows.MinMaxN
import PyProof.ExcInit
import OpenK.KMake
import PyProof.InstStoreFacts
import PyProof.FString2
import PyProof.Rows.FStr
import PyProof.Rows.SetFrom
import PyProof.SeqRoads2
import PyProof.RangeFor
import PyProof.WalksMore
import PyProof.StrBlock2
import PyProof.Rows.SortShell
import PyProof.TupleOfSeq
import KE.KDictList
import KE.KDictOf
import PyProof.IsiH_tuple
import PyProof.Rows.RuleN_abs
import PyProof.Rows.Range3
import KE.KRevIter
import PyProof.StrLawsRepr
import PyProof.ReprStr
import PyProof.IsiH_list
import PyProof.Rows.TupDisplay
import PySem.Challenge.RW_chordbed_k41_rooms_as_they_come
set_option Elab.async false
set_option linter.all false
set_option maxRecDepth 100000
open Option renaming some->QB,none->QF,isSome_map->S7,getD_some->Xj,isSome_iff_exists->Yc,map_eq_some_iff->YE,isSome_some->ZU,toList_none->ZW
open PySem.W renaming Frag->QC,nsIn->QZ,findIn->Rr,kia_one->RH,kitOne->RL,mg_none_of->RM,mg_of->Sf,emptyDict->Sm,fnOf->So,subIn->Sz,keepIn->SI,instObj->S1,typeIn->Th,hasDictIn->TH,InstAt->TN,isFn->TY,specialIn->Uk,cellsFrom_some->Ul,plainGet->Ux,isClsIn->UO,callWith_K->UY,codeIn->UZ,methodCall_KW->VO,lookIn->VR,tailIn->VX,notCls->VY,plainGet_of->Wf,excIn->Wi,clsIn->Wj,methodObj->WC,plainOver->WE,kitx_list->WG,takerIn->Xo,makesIn->Xp,readsIn->Xs,findCls->Xt,nsOkIn->XG,kitAny->XI,pyHash_slot->Zb,kitx_tuple->Zi,tail_of_in->Zn,kitx_none->ZR,kitx_bool->ZS,kitx_dict->ZT,handedIn->Z8,kitx_int->Z9,kitx_str->aaa,OpenLaw->aat,mroIn->abj
open PySem renaming Value->QD,wpAny_bind->QE,Addr->QI,PyData->QJ,Shared->QL,wpAny_pure->QQ,sizeLine->QU,mainGlobals->QW,Program->Q7,starEach->Q9,NameKind->Ro,Around->Rp,World->Rv,wpAny_field->Ry,Expr->RN,bootBuiltins->RP,FuncData->RQ,Builtin->RY,wpAny_setField->Si,swapsWith->Ss,wpAny_seqItems->Sv,mem_of_lookup->SQ,wpAny_newObj_type->SS,wpAny_loadPart_at->SU,binaryOp->S0,compareOp->S3,cellsFrom->S4,sysModules->S8,Stmt->Tg,wpAny_truthy_bool->Tj,sizeLine_eq->Tn,codeAny_call_builtin->To,wpAny_standAt->Tt,wpAny_holding->Tu,wpAny_Call_Name_kw->TQ,wpAny_setField_rec->TR,wpAny_passesOwn->TX,Scope->Uc,wpAny_call_entry->Uh,wpAny_isSubtype_exc->Um,plainId_quiet->Uq,wpAny_execs_nil->Us,codeAny_builtin->Uv,DictEntry->UB,wpAny_callSpecial?_slot->UC,wpAny_letGo->UD,ExcBaseFacts->UN,wpAny_pyIter_list->Vi,codeAny_mono->Vj,wpAny_call->Vt,call_meets->Vu,wpAny_comprehension_free->VV,GenState->Wd,PassesOwn->We,BindsTo->Wr,wpAny_pyIter_tuple->WI,wpAny_updateSeq_pair->WZ,wpAny_tryCatch->W0,wpAny_onRaise->Xw,typeIs_int->XA,wpAny_rule->XD,tupleKind_room_in1->XF,Keyword->X4,ZipApart->X6,wpAny_Call_ofName->X7,eqIsQuiet_byValue->X8,plainObj_wpAny_Assign_Attribute->Yb,wpAny_execs_cons->Yf,Result->Yh,wpAny_isInstance->Yj,Model->YC,wpAny_of_eq->YD,Within->YK,pushCells_keeps->YL,wpAny_updateSeq->YN,OsState->Za,wpAny_loadPart->Zh,Code->Zj,ReadsAll->Zl,IsZip->Zm,wpAny_binaryOp_repeat_ref->ZV,Drawn->aas,wpAny_Assign_Subscript->aaC,wpAny_typeOf->aaD,wpAny_isTrue_Compare1->abi,builtinLookup_eq_fast->abm,Reads->abu,wpAny_raiseNew_none->ab2,wpAny_Name->acp,wpAny_Constant_int->acq,wpAny_load->acs,wpAny_getItem_heap->acv,wpAny_setItem_heap->acw,wpAny_entryPlaceOf->acx,passOn->acy,wpAny_assign_Name->ade,wpAny_frameOf_fun->adf,OwnTail->adg,wpAny_pyHash_int->adJ,wpAny_pyHash_str->adK,wpAny_lookBehind->adQ,pastItsLine_dict->adR,noFill_tuple_add->adS,call->adU,wpAny_pyIter_zip->adV,beq_builtin_none->adW,wpAny_specialOf->aeY,typeLookup_type->aeZ,wpAny_Expr_any->afV,refuseLoop_ref->af2,intBits_le_64->ahP,seq_tuple_add->ahQ,call_list_seq->ahR,eval_ListComp->ahS,wpAny_attempt->ahT,strLen_append->ahU,wpAny_newList->ahV,ItemsOf->ahW
open Bool renaming true->QG,false->QN,false_ne_true->QV,and_eq_true->Rn,and_self->TK,eq_iff_iff->Ug,false_eq_true->Ui,true_or->Uu,or_true->U3,false_and->Va,false_or->Vq,true_and->Vr,or_eq_true->VW,and_true->WJ,not_true->YG,or_eq_false_iff->ZX,or_false->acu
open List renaming length_map->QH,getElem?_eq_some_iff->QK,length_append->QM,replicate->QP,getElem?_eq_getElem->QR,getElem?_map->QT,map_cons->QY,length_cons->Q0,size_toArray->Q1,range->Q2,map_append->Q3,mem_cons_of_mem->Q4,lookup_cons->Q5,mem_cons_self->Q8,append_nil->Rf,getElem?_append_left->Rg,mem_singleton->Ri,append_assoc->Rj,mem_cons->Rk,length_replicate->Rt,getElem?_append_right->Ru,length_range->Rz,getElem?_set_ne->RA,find?_cons->RB,mem_of_getElem?->RD,map_map->RI,mem_append_right->RT,replicate_succ->RZ,mem_map->R0,length_set->R8,mem_append->R9,Nodup->Sb,getElem?_set->Sd,getElem?_set_self->Sh,length_take->SE,not_mem_nil->SG,nodup_cons->SK,length_nil->SM,flatten_cons->Tb,mem_range->Tq,getElem?_replicate->Tr,all_eq_true->Ts,lookup->TB,mem_filter->TF,lookup_cons_self->TL,take_add_one->TV,map_nil->T6,drop_eq_getElem_cons->T7,contains_cons->Uj,drop_eq_nil_of_le->Ut,mem_iff_getElem?->UH,any_cons->UM,mem_append_left->UQ,of_mem_zip->UU,forIn_cons->UW,map_congr_left->U0,mem_filterMap->Vb,pairwise_cons->Vc,pairwise_map->Vl,nodup_append->Vm,filter_cons->VH,prefix_refl->VI,foldl->VQ,foldl_cons->VS,length_singleton->V8,length_filter_le->V9,length->Wg,forIn_nil->Wh,nodup_nil->Wk,filterMap_cons->WB,getElem_mem->Xv,any_eq_true->Xx,take_length->Xy,nil_append->XZ,range_succ->X1,mem_of_find?_eq_some->Yk,filterMap_cons_none->YH,filterMap_cons_some->YI,getElem?_cons_succ->YM,getLast?_cons_cons->YO,getElem?_cons_zero->YQ,pairwise_lt_range->Zd,set_cons_zero->aau,set_cons_succ->aav,getElem_range->aaw,foldl_append->aaF,zipIdx_cons->abk,cons_append->abl,zipIdx_nil->abw,length_zip->aby,all_map->adh
open Nat renaming le_of_ble_eq_true->QO,le_refl->QS,lt_of_lt_of_le->Q6,ne_of_lt->Ra,le_trans->Rx,zero_le->RF,ne_of_gt->Se,lt_irrefl->Sg,zero_add->Td,lt_trans->Uy,lt_succ_self->UL,add_assoc->UR,le_of_lt->U6,le_of_eq->U7,le_of_succ_le->Vo,lt_succ_of_lt->Vp,add_sub_cancel_left->VP,mul_le_mul->Ws,lt_of_le_of_lt->WY,lt_of_le_of_ne->W2,add_comm->Xq,le_succ->XY,min_le_right->abv,le_add_right->abx,succ_mul->adT,sub_self->adX,max_le->af3
open Option.some renaming inj->QX
open PyProof.Rows renaming envOfC->Rb,callWith_type1->UA,callWith_builtin1->aeX,kws_cons->ae0,kws_nil->ae1
open Array renaming getElem?_eq_some_iff->Rh,getElem?_setIfInBounds_self_of_lt->SH,length_toList->SN,getElem?_setIfInBounds_ne->Uz,getElem?_toList->VT,find?_toList->Z7,forIn_toList->aab,toList->acr
open Int renaming toNat_natCast->Sj,le_refl->Vs,toNat_of_nonneg->WH,ofNat->XH,fdiv_eq_ediv_of_nonneg->Yg,toNat->Zc,emod_lt_of_pos->aaE,emod_nonneg->ab3
open PySem.F renaming plainAttrs_list->Sk,slot_list_append->Sx,type_list_append->Sy,attrBase_ValueError->TJ,excBase_ValueError->TU,slot_dict_values->Vd,plainAttrs_dict->Vk,slot_dict_getitem->X0,args_tuple_add_2->X5,type_dict_values->X9,entry_tuple_add->Yd,slot_tuple_add->Yi,slot_dict_pop->YF
open PySem.SeqAt renaming eqv_refl->Vv,compareEq_reads->afW,compareNe_reads->afX,in_list_reads->afY,in_tuple_reads->afZ,notIn_list_reads->af0,notIn_tuple_reads->af1
open List.Pairwise renaming nil->VU,filterMap->adY,filter->adZ
open List.Perm renaming refl->Xr,swap->aje
open Nat.le renaming dest->acz
open PySem.PassesOwn renaming never->acA
open PySem.EqMixed renaming eq_bool_str->adL,eq_int_str->adM,eq_str_bool->adN,eq_str_int->adO
open PySem.W.Looks renaming here->adP
open PySem.EqNone renaming eq_none_none->aeP,eq_none_bool->aeQ,eq_none_int->aeR,eq_none_str->aeS,eq_bool_none->aeT,eq_int_none->aeU,eq_str_none->aeV
open PySem.Within renaming cons->aeW
open List.Nodup renaming sublist->ahX
open PySem.IsL renaming update->ajd
open List.cons renaming injEq->ajg
namespace L2
open PySem PySem.Spec PyProof.Rows
abbrev cD:=Sum Int Str
noncomputable def uz:cD->QD->Bool
 | .inl k,v=>QD.isInt k v
 | .inr x,v=>QD.isStrOf x v
noncomputable def PK (w:Rv):cD->Int
 | .inl k=>hashInt k
 | .inr x=>hashStr w x
theorem cN:∀{k:cD} {v:QD},uz k v=QG->(∃i t,k=Sum.inl i/\v=QD.int i t)\/(∃x t,k=Sum.inr x/\v=QD.str x t)
 | .inl i,v,h=>by obtain⟨t,e⟩:=QD.isInt_shape h;exact .inl ⟨i,t,rfl,e⟩
 | .inr x,v,h=>by obtain⟨t,e⟩:=QD.isStrOf_shape h;exact .inr ⟨x,t,rfl,e⟩
theorem Di (i:Int) (t:Tok):uz (.inl i) (.int i t)=QG:=by simp[uz,QD.isInt]
theorem C1 (x:Str) (t:Tok):uz (.inr x) (.str x t)=QG:=by simp[uz,QD.isStrOf]
theorem NC (a b:Int):decide ((Sum.inl a:cD)=Sum.inl b)=(a==b):=by
 by_cases e:a=b
 ·subst e;simp
 ·have h:¬(Sum.inl a:cD)=Sum.inl b:=fun q=>e (Sum.inl.inj q);rw[decide_eq_false h];exact(beq_eq_false_iff_ne.mpr e).symm
theorem LH (a b:Str):decide ((Sum.inr a:cD)=Sum.inr b)=decide (a=b):=by
 by_cases e:a=b
 ·subst e;simp
 ·have h:¬(Sum.inr a:cD)=Sum.inr b:=fun q=>e (Sum.inr.inj q);rw[decide_eq_false h,decide_eq_false e]
theorem MZ (a:Int) (b:Str):decide ((Sum.inl a:cD)=Sum.inr b)=QN:=decide_eq_false (fun q=>nomatch q)
theorem Mh (a:Str) (b:Int):decide ((Sum.inr a:cD)=Sum.inl b)=QN:=decide_eq_false (fun q=>nomatch q)
noncomputable def cQ (prog:Q7) (w:Rv):PySem.KeyKind prog w cD where
 is:=uz
 hash:=PK w
 inj:=fun v a b ha g=>by
  rcases cN ha with⟨i,t,rfl,rfl⟩|⟨x,t,rfl,rfl⟩
  ·rcases cN g with⟨j,u,rfl,e⟩|⟨y,u,rfl,e⟩
   ·injection e with e1 _;rw[e1]
   ·exact nomatch e
  ·rcases cN g with⟨j,u,rfl,e⟩|⟨y,u,rfl,e⟩
   ·exact nomatch e
   ·injection e with e1 _;rw[e1]
 byValue:=fun k v h=>by rcases cN h with⟨i,t,rfl,rfl⟩|⟨x,t,rfl,rfl⟩<;>rfl
 pyHash:=fun f h=>by
  rcases cN f with⟨i,t,rfl,rfl⟩|⟨x,t,rfl,rfl⟩
  ·exact adJ h
  ·exact adK h
 eqBool:=fun l f h=>by
  rcases cN l with⟨i,t,rfl,rfl⟩|⟨x,t,rfl,rfl⟩
  ·rcases cN f with⟨j,u,rfl,rfl⟩|⟨y,u,rfl,rfl⟩
   ·rw[NC] at h;exact wpAny_eqBool_int h
   ·rw[MZ] at h;exact SeqAt.EqAt.int_str i t y u _ _ _ _ h
  ·rcases cN f with⟨j,u,rfl,rfl⟩|⟨y,u,rfl,rfl⟩
   ·rw[Mh] at h;exact SeqAt.EqAt.str_int x t j u _ _ _ _ h
   ·rw[LH] at h;exact wpAny_eqBool_str h
 «strs»:=fun k x t v h=>by
  rcases cN h with⟨i,u,rfl,e⟩|⟨y,u,rfl,e⟩
  ·exact nomatch e
  ·injection e with e1 _
   subst e1;cases v<;>rfl
theorem xQ (prog:Q7) (w:Rv) (i:Int) (t:Tok):(cQ prog w).is (.inl i) (.int i t)=QG:=Di i t
theorem wG (prog:Q7) (w:Rv) (x:Str) (t:Tok):(cQ prog w).is (.inr x) (.str x t)=QG:=C1 x t
inductive V where
 |Te|bl (b:Bool)|int (i:Int)|str (x:Str)|byt (b:Array UInt8)|flt (b:UInt64)|ref (a:QI)|ty (n:String)
 deriving DecidableEq
def RelV:V->QD->Prop
 | .Te,u=>u=QD.none
 | .bl b,u=>u=QD.bool b
 | .int i,u=>∃t,u=QD.int i t
 | .str x,u=>∃t,u=QD.str x t
 | .byt b,u=>∃t,u=QD.bytes b t
 | .flt b,u=>∃t,u=QD.float b t
 | .ref a,u=>u=QD.ref a
 | .ty n,u=>u=QD.type n
noncomputable abbrev Vals:List V->List QD->Prop:=Paired RelV
theorem Vals.length (r:Vals xs us):xs.length=us.length:=Paired.length r
theorem Vals.get:∀{xs:List V} {us:List QD} {i:Nat} {x:V},Vals xs us->xs[i]? =QB x->∃u,us[i]? =QB u/\RelV x u
 |_,_,_,_,.nil,e=>by simp at e
 |_,_,0,_,.cons r _,e=>by simp at e;subst e;exact⟨_,rfl,r⟩
 |_,_,i+1,x,.cons _ t,e=>by obtain⟨u,h1,h2⟩:=Vals.get t (by simpa using e);exact⟨u,by simpa using h1,h2⟩
theorem Vals.append:∀{xs ys:List V} {us ws:List QD},Vals xs us->Vals ys ws->Vals (xs++ys) (us++ws)
 |_,_,_,_,.nil,s=>s
 |_,_,_,_,.cons r t,s=> .cons r (Vals.append t s)
def Vf:Option V->Option QD->Prop
 |some v,QB u=>RelV v u
 |none,QF=>True
 |_,_=>False
def KV:List (κ×V)->List (κ×QD)->Prop:=Paired fun(p:κ×V) (q:κ×QD)=>p.1=q.1/\RelV p.2 q.2
noncomputable def kV:cD->V
 | .inl i=> .int i
 | .inr x=> .str x
inductive HO where
 |lst (xs:List V)
 |tup (xs:List V)
 |dK (Rc:List (cD×V))|dT (Rc:List (List cD×V))
 |set (S:Int->Bool) (n:Nat)
 |ins (C dx:QI) (fs:List (Str×V))
 |own (x:QI)
 |xd (fs:List (Str×V))
 |met (f x:QI)
 |rng (lo hi:Int)
 |frz (o:Obj) (u:HO)
 |tbl (ps:Array QD)
 |ext (φ:Heap->Prop)
 |exw (φ:Rv->Heap->Prop)
abbrev Hp:=QI->Option HO
noncomputable def bv (H:Hp) (a:QI) (o:HO):Hp:=fun b=>if b=a then QB o else H b
theorem aC:bv H a o a=QB o:=by unfold bv;rw[if_pos rfl]
theorem aA (h:b≠a):bv H a o b=H b:=by unfold bv;rw[if_neg h]
theorem OT {H:Hp} {a b:QI} {o u:HO} (h:H a=QB o) (h':H b=QB u) (d:o≠u):a≠b:=by intro e;subst e;rw[h] at h';exact d (QX h')
theorem bU {H:Hp} (h:H a=QB o) (h':H b=QF):a≠b:=by intro e;subst e;rw[h] at h';cases h'
def XJ (h:Heap) (a:QI) (items:Array QD):Prop:=∃o,h.get? a=QB o/\(o.cls= .type "tuple"/\∃n,o.data= .seq items n)/\o.dict=QF
theorem XJ.tup (x:XJ h a items):IsTup h a items:=let⟨o,e,c,_⟩:=x;⟨o,e,c⟩
theorem XJ.lt (x:XJ h a items):a<h.objs.size:=let⟨_,e,_⟩:=x;Heap.lt_size e
theorem XJ.new (h:Heap) (xs:Array QD):XJ (h.push {cls:= .type "tuple",data:= .seq xs}) h.objs.size xs:=⟨_,Heap.get?_push_size _ rfl,⟨rfl,_,rfl⟩,rfl⟩
section
variable (P:Q7) (w:Rv)
def ObjOk (H:Hp) (h:Heap) (a:QI):HO->Prop
 | .lst xs=>xs.length<=QU/\∃(RE:List QD) (n:Nat),Vals xs RE/\h.get? a=QB {cls:= .type "list",data:= .seq RE.toArray n}
 | .tup xs=>xs.length<=QU/\∃RE:List QD,Vals xs RE/\XJ h a RE.toArray
 | .dK Rc=>Rc.length<=QU/\(a==S8)=QN/\∃vs,KV Rc vs/\h.DictOf (cQ P w) a vs
 | .dT Rc=>Rc.length<=QU/\(a==S8)=QN/\∃xs:List (List cD×QI×QD),
   Paired (fun(p:List cD×V) (q:List cD×QI×QD)=>p.1=q.1/\H q.2.1=QB (.tup (p.1.map kV))/\RelV p.2 q.2.2) Rc xs/\
   ∃o es ep,h.get? a=QB o/\o.ExactDict/\o.data= .dict es ep/\es.toList=xs.map (entryOfKey (tupleKind (cQ P w)))/\(xs.map (·.1)).Nodup
 | .set S n=>h.SetOf (intKind P w) a S n
 | .ins C dx fs=>H dx=QB (.own a)/\fs.length<=1000/\dx≠a/\h.get? a=QB (S1 C dx)/\
   ∃mA,h.Ns1 dx mA/\(∀f,Vf (fs.lookup f) (mA f))/\YK mA (fs.map (·.1))
 | .own _=>∃o,h.get? a=QB o
 | .xd fs=>∃mA,h.Ns1 a mA/\∀f,Vf (fs.lookup f) (mA f)
 | .rng lo hi=>∃t u v,h.get? a=QB {cls:= .type "range",data:= .fields #[.int lo t,.int hi u,.int 1 v]}
 | .frz o u=>h.get? a=QB o/\ObjOk H h a u
 | .tbl ps=>h.get? a=QB {cls:= .none,data:= .fields ps}
 | .met f x=>h.get? a=QB (WC (.ref f) (.ref x))
 | .ext φ=>φ h/\(∃o,h.get? a=QB o)/\∀h1 h2:Heap,φ h1->(∀o,h1.get? a=QB o->h2.get? a=QB o)->φ h2
 | .exw φ=>φ w h/\(∃o,h.get? a=QB o)/\∀h1 h2:Heap,φ w h1->(∀o,h1.get? a=QB o->h2.get? a=QB o)->φ w h2
def Wb (H:Hp) (h:Heap):Prop:=∀a o,H a=QB o->ObjOk P w H h a o
end
section
variable {P:Q7} {w:Rv} {H H':Hp} {h h':Heap} {a:QI} {o:HO}
theorem ObjOk.lt (x:ObjOk P w H h a o):a<h.objs.size:=by
 cases o with
 |lst xs=>obtain⟨_,_,_,_,e⟩:=x;exact Heap.lt_size e
 |tup xs=>obtain⟨_,_,_,p⟩:=x;exact p.lt
 |dK Rc=>obtain⟨_,_,_,_,o,_,_,e,_⟩:=x;exact Heap.lt_size e
 |dT Rc=>obtain⟨_,_,_,_,o,_,_,e,_⟩:=x;exact Heap.lt_size e
 |set S n=>obtain⟨o,_,_,_,e,_⟩:=x;exact Heap.lt_size e
 |ins C dx fs=>obtain⟨_,_,_,e,_⟩:=x;exact Heap.lt_size e
 |own y=>obtain⟨_,e⟩:=x;exact Heap.lt_size e
 |xd fs=>obtain⟨_,⟨_,_,_,e,_⟩,_⟩:=x;exact Heap.lt_size e
 |rng lo hi=>obtain⟨_,_,_,e⟩:=x;exact Heap.lt_size e
 |frz ob u=>obtain⟨e,_⟩:=x;exact Heap.lt_size e
 |tbl ps=>exact Heap.lt_size (show h.get? a=QB _ from x)
 |met f y=>exact Heap.lt_size (show h.get? a=QB _ from x)
 |ext φ=>obtain⟨_,⟨_,e⟩,_⟩:=x;exact Heap.lt_size e
 |exw φ=>obtain⟨_,⟨_,e⟩,_⟩:=x;exact Heap.lt_size e
theorem Paired.Vg:∀{l₁:List α} {l₂:List β},Paired F l₁ l₂->(∀a b,F a b->G a b)->Paired G l₁ l₂
 |_,_,.nil,_=> .nil
 |_,_,.cons r t,f=> .cons (f _ _ r) (Paired.Vg t f)
theorem ObjOk.U9 (x:ObjOk P w H h a o) (k:∀b u,(b=a\/H b=QB (.own a))->h.get? b=QB u->h'.get? b=QB u)
  (j:∀b,H b=QB (.own a)->H' b=QB (.own a)) (i:∀b xs,H b=QB (.tup xs)->H' b=QB (.tup xs)):ObjOk P w H' h' a o:=by
 induction o with
 |lst xs=>obtain⟨z,RE,n,r,e⟩:=x;exact⟨z,RE,n,r,k _ _ (.inl rfl) e⟩
 |tup xs=>obtain⟨z,RE,r,ob,e,c⟩:=x;exact⟨z,RE,r,ob,k _ _ (.inl rfl) e,c⟩
 |dK Rc=>obtain⟨z,y,vs,r,ob,es,g,e,c⟩:=x;exact⟨z,y,vs,r,ob,es,g,k _ _ (.inl rfl) e,c⟩
 |dT Rc=>obtain⟨z,y,xs,r,ob,es,g,e,c⟩:=x;exact⟨z,y,xs,Paired.Vg r fun p q z=>⟨z.1,i _ _ z.2.1,z.2.2⟩,ob,es,g,k _ _ (.inl rfl) e,c⟩
 |set S n=>obtain⟨ob,es,g,t,e,c⟩:=x;exact⟨ob,es,g,t,k _ _ (.inl rfl) e,c⟩
 |ins C dx fs=>obtain⟨d,z,ne,e,mA,⟨od,es,g,l,c⟩,r⟩:=x;exact⟨j _ d,z,ne,k _ _ (.inl rfl) e,mA,⟨od,es,g,k _ _ (.inr d) l,c⟩,r⟩
 |own y=>obtain⟨ob,e⟩:=x;exact⟨ob,k _ _ (.inl rfl) e⟩
 |xd fs=>obtain⟨mA,⟨od,es,g,e,c⟩,r⟩:=x;exact⟨mA,⟨od,es,g,k _ _ (.inl rfl) e,c⟩,r⟩
 |rng lo hi=>obtain⟨t,u,v,e⟩:=x;exact⟨t,u,v,k _ _ (.inl rfl) e⟩
 |frz ob u ih=>obtain⟨e,q⟩:=x;exact⟨k _ _ (.inl rfl) e,ih q⟩
 |tbl ps=>have e:h.get? a=QB {cls:= .none,data:= .fields ps}:=x;show h'.get? a=QB {cls:= .none,data:= .fields ps};exact k a _ (.inl rfl) e
 |met f y=>have e:h.get? a=QB (WC (.ref f) (.ref y)):=x;show h'.get? a=QB (WC (.ref f) (.ref y));exact k a _ (.inl rfl) e
 |ext φ=>obtain⟨p,⟨o,e⟩,st⟩:=x;exact⟨st _ _ p fun o q=>k _ _ (.inl rfl) q,⟨o,k _ _ (.inl rfl) e⟩,st⟩
 |exw φ=>obtain⟨p,⟨o,e⟩,st⟩:=x;exact⟨st _ _ p fun o q=>k _ _ (.inl rfl) q,⟨o,k _ _ (.inl rfl) e⟩,st⟩
theorem Wb.lt (x:Wb P w H h) (e:H a=QB o):a<h.objs.size:=(x a o e).lt
theorem Wb.fresh (x:Wb P w H h) (e:h.objs.size<=a):H a=QF:=by
 cases q:H a with
 |none=>rfl
 |some u=>exact absurd (Q6 (x.lt q) e) (Sg _)
theorem Wb.kept (x:Wb P w H h) (k:∀b u,h.get? b=QB u->h'.get? b=QB u):Wb P w H h':=fun a o e=>
 (x a o e).U9 (fun b u _ q=>k b u q) (fun _ q=>q) fun _ _ q=>q
theorem Wb.laid (x:Wb P w H h) (k:∀b u,h.get? b=QB u->h'.get? b=QB u) (hp:h.objs.size<=a) (new:ObjOk P w (bv H a o) h' a o):Wb P w (bv H a o) h':=fun b u e=>by
 have hn:=x.fresh hp;by_cases hb:b=a
 ·subst hb;rw[aC] at e;cases e;exact new
 ·rw[aA hb] at e;exact(x b u e).U9 (fun c v _ q=>k c v q) (fun c q=>by rw[aA (bU q hn)];exact q) fun c xs q=>by rw[aA (bU q hn)];exact q
end
def Rd (H:Hp) (a:QI) (u:HO):Prop:=H a=QB u\/∃o,H a=QB (.frz o u)
theorem Rd.ok (r:Rd H a u) (x:Wb P w H h):ObjOk P w H h a u:=by
 rcases r with r|⟨o,r⟩
 ·exact x a u r
 ·obtain⟨_,q⟩:=x a _ r;exact q
def Oe:Option HO->Prop
 |some (.lst _)=>True
 |some (.dK _)=>True
 |some (.dT _)=>True
 |some (.set _ _)=>True
 |some (.ins _ _ _)=>True
 |some (.ext _)=>True
 |some (.exw _)=>True
 |_=>False
section
variable {P:Q7} {w:Rv} {H:Hp} {h h':Heap} {x e:QI} {o':HO}
theorem Wb.write (ok:Wb P w H h) (f:Oe (H x)) (m:e=x\/H e=QB (.own x)) (k:∀b u,b≠e->h.get? b=QB u->h'.get? b=QB u) (i:∃u,h'.get? e=QB u)
  (new:ObjOk P w (bv H x o') h' x o'):Wb P w (bv H x o') h':=fun b u q=>by
 have a:∀c y,H c=QB (.own y)->c≠x:=fun c y r z=>by subst z;rw[r] at f;exact f
 have j:∀c xs,H c=QB (.tup xs)->c≠x:=fun c xs r z=>by subst z;rw[r] at f;exact f
 by_cases hb:b=x
 ·subst hb;rw[aC] at q;cases q;exact new
 ·rw[aA hb] at q
  by_cases hbe:b=e
  ·have l:H b=QB (.own x):=by
    rcases m with z|z
    ·exact absurd (hbe.trans z) hb
    ·rw[hbe];exact z
   rw[q] at l;cases l;obtain⟨v,n⟩:=i;exact⟨v,by rw[hbe];exact n⟩
  ·refine(ok b u q).U9 (fun c v g r=>k c v ?_ r) (fun c r=>by rw[aA (a c b r)];exact r) fun c xs r=>by rw[aA (j c xs r)];exact r
   rcases g with rfl|g
   ·exact hbe
   ·rintro rfl
    rcases m with z|z
    ·exact a c b g z
    ·rw[g] at z;cases z;exact hb rfl
end
structure Un (fs ex:List QI) (H H':Hp) (h h':Heap):Prop where
 keep:∀b o,h.get? b=QB o->H b=QF->b∉fs->b∉ex->h'.get? b=QB o
 slot:∀b o,h.get? b=QB o->H b=QF->b∈fs->b∉ex->∃sl,h'.get? b=QB {o with slots:=sl}
 free:∀b o,h.get? b=QB o->H b=QF->b∉ex->H' b=QF
 there:∀b o,h.get? b=QB o->b∉ex->∃o',h'.get? b=QB o'
 W6:∀b xs,H b=QB (.tup xs)->H' b=QB (.tup xs)
 WO:∀b o u,H b=QB (.frz o u)->H' b=QB (.frz o u)
 Xe:∀b ps,H b=QB (.tbl ps)->∃more,H' b=QB (.tbl (ps++more))
section
variable {fs fs' ex ex':List QI} {H H1 H2:Hp} {h h1 h2 h':Heap} {a x e:QI} {o:HO}
theorem Un.any (u:Un fs ex H H1 h h1) (q:h.get? b=QB ob) (n:H b=QF) (a:b∉ex):∃sl,h1.get? b=QB {ob with slots:=sl}:=by
 by_cases hb:b∈fs
 ·exact u.slot b ob q n hb a
 ·exact⟨ob.slots,u.keep b ob q n hb a⟩
theorem Un.kept (k:∀b u,h.get? b=QB u->h'.get? b=QB u):Un fs ex H H h h':=
 ⟨fun b ob q _ _ _=>k b ob q,fun b ob q _ _ _=>⟨ob.slots,k b ob q⟩,fun _ _ _ n _=>n,fun b ob q _=>⟨ob,k b ob q⟩,fun _ _ q=>q,fun _ _ _ q=>q,fun _ ps q=>⟨#[],by rw[q];simp⟩⟩
theorem Un.refl:Un fs ex H H h h:=Un.kept fun _ _ q=>q
theorem Un.laid (k:∀b u,h.get? b=QB u->h'.get? b=QB u) (hp:h.objs.size<=a) (hn:H a=QF):Un fs ex H (bv H a o) h h' where
 keep:=fun b u q _ _ _=>k b u q
 slot:=fun b u q _ _ _=>⟨u.slots,k b u q⟩
 free:=fun b u q n _=>by rw[aA (Ra (Q6 (Heap.lt_size q) hp))];exact n
 there:=fun b u q _=>⟨u,k b u q⟩
 W6:=fun b xs q=>by rw[aA (bU q hn)];exact q
 WO:=fun b u xs q=>by rw[aA (bU q hn)];exact q
 Xe:=fun b ps q=>⟨#[],by rw[aA (bU q hn),q];simp⟩
theorem Un.write (a:Oe (H x)) (j:e=x\/H e=QB (.own x)) (k:∀b u,b≠e->h.get? b=QB u->h'.get? b=QB u) (f:∃u,h'.get? e=QB u):Un fs ex H (bv H x o) h h':=by
 have g:∀b,H b=QF->b≠x:=fun b n z=>by subst z;rw[n] at a;exact a
 have i:∀b,H b=QF->b≠e:=fun b n z=>by
  subst z;rcases j with r|r
  ·exact g b n r
  ·rw[n] at r;cases r
 have hm:∀b u,H b=QB u->¬Oe (QB u)->b≠x:=fun b u q nm z=>by subst z;rw[q] at a;exact nm a
 refine⟨fun b u q n _ _=>k b u (i b n) q,fun b u q n _ _=>⟨u.slots,k b u (i b n) q⟩,fun b u q n _=>by rw[aA (g b n)];exact n,fun b u q _=> ?_,
  fun b xs q=>by rw[aA (hm b _ q fun z=>z)];exact q,fun b u xs q=>by rw[aA (hm b _ q fun z=>z)];exact q,fun b ps q=>⟨#[],by rw[aA (hm b _ q fun z=>z),q];simp⟩⟩
 by_cases hbe:b=e
 ·subst hbe;exact f
 ·exact⟨u,k b u hbe q⟩
end
noncomputable def Pm (h:Heap) (H:Hp):List QI:=(Q2 h.objs.size).filter fun a=>(H a).isSome
noncomputable def vQ (h:Heap) (H:Hp):Heap:=PySem.W.hideAll h (Pm h H)
theorem Dg (h:Heap) (H:Hp):(vQ h H).objs.size=h.objs.size:=PySem.W.hideAll_size _ _
theorem Fu (e:h.get? b=QB o) (n:H b=QF):(vQ h H).get? b=QB o:=
 PySem.W.hideAll_get _ e fun hm=>by have q:=(TF.mp hm).2;rw[n] at q;simp at q
theorem Jz (e:(vQ h H).get? b=QB o):h.get? b=QB o/\H b=QF:=by
 have a:=PySem.W.of_hideAll (Pm h H) e;refine⟨a,?_⟩;cases q:H b with
 |none=>rfl
 |some x=>have hm:b∈Pm h H:=TF.mpr ⟨Tq.mpr (Heap.lt_size a),by simp[q]⟩;have z:(vQ h H).get? b=QF:=PySem.W.hideAll_none (Pm h H) hm;rw[z] at e;cases e
structure Mod (K:QC) (mg:Str->Option QD) (base:Heap):Prop where
 kin:K.In base
 glob:base.Ns QW mg
 blt:∃mb,base.Ns builtinsNs mb/\∀x:Str,x≠ "__name__"->mb x=RP x
 nolimit:base.NoLimit
structure Cx where
 prog:Q7
 w:Rv
 K:QC
 mg:Str->Option QD
 base:Heap
 A:Rp
 N:List Str
 s₀:QL
 H₀:Hp
 env:Env
 outer:List Env
 stack:List Env
 ex:List QI
 fn:Str->Bool
 calm:Bool
 pn:List (QI×Obj)
 xe:QD->QL->Prop
noncomputable def wB (l:List Env):List QI:=l.filterMap (·.frame)
noncomputable abbrev Cx.fs (X:Cx):List QI:=wB X.outer
def PH (sc:Uc) (x:Str):Prop:=sc.names.lookup x=QB .local\/sc.names.lookup x=QB .cell\/sc.names.lookup x=QB .free
def Py (sc:Uc) (x:Str):Prop:=sc.names.lookup x=QB .local\/sc.names.lookup x=QB .cell
def P3 (env:Env) (h:Heap) (m:Str->Option QD) (x:Str) (u:QD):Prop:=
 (env.kindOf x=QB .local/\m x=QB u)\/((env.kindOf x=QB .cell\/env.kindOf x=QB .free)/\∃c,env.cells.lookup x=QB c/\h.IsCell c (QB u))
structure Cx.Ok (X:Cx):Prop where
 mod:Mod X.K X.mg X.base
 kind:X.env.scope.kind= .function
 glob:X.env.globals=QW
 blt:X.env.builtins=builtinsNs
 above:X.s₀.heap.objs.size<=X.env.locals
 inj:∀x y c,X.env.cells.lookup x=QB c->X.env.cells.lookup y=QB c->x=y
 has:∀x,(X.env.kindOf x=QB .cell\/X.env.kindOf x=QB .free)->∃c,X.env.cells.lookup x=QB c
 cab:∀x c,X.fn x=QG->X.env.cells.lookup x=QB c->X.s₀.heap.objs.size<=c
 hd:X.calm=QG->X.A.handled=QF
 frames:X.A.frames=QB X.stack
 stk:X.stack=X.outer\/(X.stack=X.env::X.outer/\X.env.frame=QB X.env.locals)
 exf:∀b∈X.ex,b≠X.env.locals/\∀x c,X.env.cells.lookup x=QB c->c≠b
 bs:∀b o,X.base.get? b=QB o->X.s₀.heap.get? b=QB o/\X.H₀ b=QF
 bsz:X.base.objs.size<=X.s₀.heap.objs.size
 Y6:∀b o,X.base.get? b=QB o->b∉X.ex
 YU:∀b∈X.ex,b∉X.fs
 WA:X.s₀.heap.FunFrames X.base X.outer
 frf:∀b∈X.fs,X.H₀ b=QF
structure Inv (X:Cx) (pins:List (QI×Obj)) (σ:List (Option V)) (H:Hp) (s:QL):Prop where
 ok:X.Ok
 os:s.os=X.s₀.os
 bare:AllBare s.gens
 base:Un X.fs X.ex X.H₀ H X.s₀.heap s.heap
 loc:∃m,s.heap.Ns X.env.locals m/\∀(i:Nat) (x:Str) (v:V),X.N[i]? =QB x->σ[i]? =QB (QB v)->PH X.env.scope x->∃u,RelV v u/\P3 X.env s.heap m x u
 cell:∀x c,X.env.cells.lookup x=QB c->∃v,s.heap.IsCell c v
 free:H X.env.locals=QF
 Uw:∀x c,X.env.cells.lookup x=QB c->H c=QF
 pin:∀p∈X.pn++pins,s.heap.get? p.1=QB p.2/\H p.1=QF/\p.1≠X.env.locals/\p.1∉X.fs/\∀v,p.2.data≠ .cell v
 Sa:Wb X.prog X.w H s.heap
 len:σ.length=X.N.length
section
variable {X:Cx} {pins:List (QI×Obj)} {σ:List (Option V)} {H H':Hp} {s:QL} {h':Heap}
theorem Cx.Ok.ahE (ok:X.Ok) (e:X.base.get? b=QB o):b∉X.fs:=fun a=>by have:=(ok.WA.mem a).1;rw[e] at this;cases this
theorem Inv.bs (I:Inv X pins σ H s):∀b o,X.base.get? b=QB o->s.heap.get? b=QB o/\H b=QF:=fun b o e=>
 ⟨I.base.keep b o (I.ok.bs b o e).1 (I.ok.bs b o e).2 (I.ok.ahE e) (I.ok.Y6 b o e),I.base.free b o (I.ok.bs b o e).1 (I.ok.bs b o e).2 (I.ok.Y6 b o e)⟩
theorem Inv.bk (I:Inv X pins σ H s):∀b o,X.base.get? b=QB o->s.heap.get? b=QB o:=fun b o e=>(I.bs b o e).1
theorem Inv.mod (I:Inv X pins σ H s):Mod X.K X.mg X.base:=I.ok.mod
theorem Inv.UT (I:Inv X pins σ H s):X.K.In s.heap:=I.ok.mod.kin.keeps I.bk
theorem Inv.lt (I:Inv X pins σ H s):X.env.locals<s.heap.objs.size:=let⟨_,hn,_⟩:=I.loc;hn.lt
theorem Inv.sz (I:Inv X pins σ H s):X.s₀.heap.objs.size<=s.heap.objs.size:=Rx I.ok.above (U6 I.lt)
theorem Inv.agd (I:Inv X pins σ H s) (h:s.heap.objs.size<=a):a∉X.fs:=fun e=>by obtain⟨_,o,b,_⟩:=I.ok.WA.mem e;exact absurd (Q6 (Heap.lt_size b) (Rx I.sz h)) (Sg _)
theorem Inv.cne (I:Inv X pins σ H s):∀x c,X.env.cells.lookup x=QB c->c≠X.env.locals:=fun x c e z=>by obtain⟨v,o,f,hd⟩:=I.cell x c e;obtain⟨m,⟨o',es,g,a,b,_⟩,_⟩:=I.loc;rw[z,a] at f;cases f;rw[b] at hd;cases hd
theorem Inv.WA (I:Inv X pins σ H s):s.heap.FunFrames X.base X.outer:=by
 have all:∀(l:List Env),(∀b∈wB l,b∈X.fs)->X.s₀.heap.FunFrames X.base l->s.heap.FunFrames X.base l:=by
  intro l
  induction l with
  |nil=>intro _ _;trivial
  |cons env r ih=>intro h m;obtain⟨n,⟨L,o,a,hn,j,hd⟩,i⟩:=m;have g:=h L (by unfold wB;rw[WB,a];exact Q8);obtain⟨sl,e⟩:=I.base.slot L o j (I.ok.frf L g) g fun z=>I.ok.YU L z g;exact⟨n,⟨L,_,a,hn,e,hd⟩,ih (fun b f=>h b (by unfold wB;rw[WB,a];exact Q4 _ f)) i⟩
 exact all X.outer (fun _ f=>f) I.ok.WA
theorem Inv.stack (I:Inv X pins σ H s):s.heap.FunFrames X.base X.stack:=by
 rcases I.ok.stk with e|⟨e,hf⟩
 ·rw[e];exact I.WA
 ·rw[e];obtain⟨m,hn,_⟩:=I.loc;refine .cons (by rw[I.ok.kind];decide) hf hn ?_ I.WA;exact Heap.get?_none_of_le (Rx I.ok.bsz I.ok.above)
theorem Inv.Wz (I:Inv X pins σ H s):∀b∈wB X.stack,b∈X.env.locals::X.fs:=fun b a=>by
 rcases I.ok.stk with e|⟨e,hf⟩
 ·rw[e] at a;exact Q4 _ a
 ·rw[e] at a;unfold wB at a;rw[WB,hf] at a;exact a
theorem Inv.WQ (I:Inv X pins σ H s):∀b∈wB X.stack,H b=QF:=fun b a=>by
 rcases Rk.mp (I.Wz b a) with e|a
 ·rw[e];exact I.free
 ·obtain⟨_,o,f,_⟩:=I.ok.WA.mem a;exact I.base.free b o f (I.ok.frf b a) fun z=>I.ok.YU b z a
theorem Inv.step {g':Array Wd} {t':Nat} {d':aas} {ch:List QI} (I:Inv X pins σ H s)
  (g:∀b∈ch,(b∈X.ex\/X.s₀.heap.objs.size<=b)/\b≠X.env.locals/\(∀x c,X.env.cells.lookup x=QB c->c≠b)/\∀p∈X.pn++pins,p.1≠b)
  (keep:∀b o,b≠X.env.locals->b∉X.fs->b∉ch->s.heap.get? b=QB o->H b=QF->h'.get? b=QB o)
  (slot:∀b o,b≠X.env.locals->b∈X.fs->b∉ch->s.heap.get? b=QB o->H b=QF->∃sl,h'.get? b=QB {o with slots:=sl}) (free:∀b o,b∉ch->s.heap.get? b=QB o->H b=QF->H' b=QF)
  (there:∀b o,b∉ch->s.heap.get? b=QB o->∃o',h'.get? b=QB o')
  (W6:∀b xs,H b=QB (.tup xs)->H' b=QB (.tup xs)) (WO:∀b o u,H b=QB (.frz o u)->H' b=QB (.frz o u)) (Xe:∀b ps,H b=QB (.tbl ps)->∃more,H' b=QB (.tbl (ps++more)))
  (ns:∀m,s.heap.Ns X.env.locals m->h'.Ns X.env.locals m) (Sa:Wb X.prog X.w H' h') (K:AllBare g'):
  Inv X pins σ H' {s with heap:=h',gens:=g',drawn:=d',toks:=t'}:=by
 have B:∀b o,X.s₀.heap.get? b=QB o->b≠X.env.locals:=fun b o e=>Ra (Q6 (Heap.lt_size e) I.ok.above);have j:∀b o,X.s₀.heap.get? b=QB o->b∉X.ex->b∉ch:=fun b o e a y=>by
  rcases(g b y).1 with z|z
  ·exact a z
  ·exact absurd (Q6 (Heap.lt_size e) z) (Sg _)
 have h:∀x c,X.env.cells.lookup x=QB c->∀v,s.heap.IsCell c v->h'.IsCell c v:=fun x c e v ⟨o,A,hd⟩=>by
  have f:c∉ch:=fun z=>(g c z).2.2.1 x c e rfl;by_cases hc:c∈X.fs
  ·obtain⟨sl,q⟩:=slot c o (I.cne x c e) hc f A (I.Uw x c e);exact⟨_,q,hd⟩
  ·exact⟨o,keep c o (I.cne x c e) hc f A (I.Uw x c e),hd⟩
 refine⟨I.ok,I.os,K,⟨fun b o e n y a=> ?_,fun b o e n y a=> ?_,fun b o e n a=> ?_,fun b o e a=> ?_,fun b xs e=>W6 b xs (I.base.W6 b xs e),fun b o xs e=>WO b o xs (I.base.WO b o xs e),fun b ps e=> ?_⟩,?_,fun x c e=> ?_,?_,fun x c e=> ?_,fun p hp=> ?_,Sa,I.len⟩
 ·exact keep b o (B b o e) y (j b o e a) (I.base.keep b o e n y a) (I.base.free b o e n a)
 ·obtain⟨sl,t⟩:=I.base.slot b o e n y a;obtain⟨E,C⟩:=slot b _ (B b o e) y (j b o e a) t (I.base.free b o e n a);exact⟨E,C⟩
 ·obtain⟨o',t⟩:=I.base.there b o e a;exact free b o' (j b o e a) t (I.base.free b o e n a)
 ·obtain⟨o',t⟩:=I.base.there b o e a;exact there b o' (j b o e a) t
 ·obtain⟨m1,t⟩:=I.base.Xe b ps e;obtain⟨G,C⟩:=Xe b _ t;exact⟨m1++G,by rw[C,Array.append_assoc]⟩
 ·obtain⟨m,hn,J⟩:=I.loc
  refine⟨m,ns m hn,fun i x v t C L=> ?_⟩;obtain⟨u,r,l⟩:=J i x v t C L;refine⟨u,r,?_⟩;rcases l with l|⟨k,c,e,z⟩
  ·exact .inl l
  ·exact .inr ⟨k,c,e,h x c e _ z⟩
 ·obtain⟨v,z⟩:=I.cell x c e;exact⟨v,h x c e v z⟩
 ·obtain⟨m,⟨o,_,_,A,_⟩,_⟩:=I.loc;exact free _ o (fun z=>(g _ z).2.1 rfl) A I.free
 ·obtain⟨v,o,A,hd⟩:=I.cell x c e;exact free c o (fun z=>(g c z).2.2.1 x c e rfl) A (I.Uw x c e)
 ·obtain⟨e,n,ne,F,d⟩:=I.pin p hp;have f:p.1∉ch:=fun z=>(g p.1 z).2.2.2 p hp rfl;exact⟨keep p.1 p.2 ne F f e n,free p.1 p.2 f e n,ne,F,d⟩
theorem Inv.un {t':Nat} (I:Inv X pins σ H s) (u:Un X.fs [] H H' s.heap h') (Sa:Wb X.prog X.w H' h'):Inv X pins σ H' {s with heap:=h',toks:=t'}:=by obtain⟨m,⟨o,es,p,i,r⟩,_⟩:=id I.loc;obtain⟨sl,j⟩:=u.any i I.free (by simp);exact I.step (g':=s.gens) (d':=s.drawn) (ch:=[]) (fun _ z=>nomatch z) (fun b o _ f _ e n=>u.keep b o e n f (by simp)) (fun b o _ f _ e n=>u.slot b o e n f (by simp)) (fun b o _ e n=>u.free b o e n (by simp)) (fun b o _ e=>u.there b o e (by simp)) u.W6 u.WO u.Xe (fun l hm=>by obtain⟨o',g,h,a,r'⟩:=hm;rw[i] at a;cases a;exact⟨_,g,h,j,r'⟩) Sa I.bare
theorem Inv.call {g':Array Wd} {t':Nat} {d':aas} {ch:List QI} (I:Inv X pins σ H s) (u:Un (wB X.stack) ch H H' s.heap h') (Sa:Wb X.prog X.w H' h') (q:AllBare g')
  (g:∀b∈ch,(b∈X.ex\/X.s₀.heap.objs.size<=b)/\b≠X.env.locals/\(∀x c,X.env.cells.lookup x=QB c->c≠b)/\∀p∈X.pn++pins,p.1≠b):
  Inv X pins σ H' {s with heap:=h',gens:=g',drawn:=d',toks:=t'}:=by
 obtain⟨m,⟨o,es,y,l,r⟩,_⟩:=id I.loc;obtain⟨sl,h⟩:=u.any l I.free fun z=>(g _ z).2.1 rfl;exact I.step (ch:=ch) g (fun b o h t a e n=>u.keep b o e n (fun z=>(Rk.mp (I.Wz b z)).elim h t) a) (fun b o _ _ a e n=>u.any e n a) (fun b o a e n=>u.free b o e n a) (fun b o a e=>u.there b o e a) u.W6 u.WO u.Xe (fun v hm=>by obtain⟨o',i,j,f,r'⟩:=hm;rw[l] at f;cases f;exact⟨_,i,j,h,r'⟩) Sa q
theorem Inv.turned {t':Nat} {it:QI} (I:Inv X pins σ H s) (k:∀b o,b≠it->s.heap.get? b=QB o->h'.get? b=QB o) (hn:H it=QF) (g:it≠X.env.locals)
  (h1:it∈X.ex\/X.s₀.heap.objs.size<=it) (h2:∀x c,X.env.cells.lookup x=QB c->c≠it) (j:∀p∈X.pn++pins,p.1≠it):Inv X pins σ H {s with heap:=h',toks:=t'}:=by
 have f:∀b u,H b=QB u->b≠it:=fun b u e z=>by rw[z,hn] at e;cases e
 refine I.step (g':=s.gens) (d':=s.drawn) (ch:=[it]) (fun b i=> ?_) (fun b o _ _ a e _=>k b o (fun z=>a (by simp[z])) e) (fun b o _ _ a e _=>⟨o.slots,k b o (fun z=>a (by simp[z])) e⟩) (fun _ _ _ _ n=>n)
  (fun b o a e=>⟨o,k b o (fun z=>a (by simp[z])) e⟩) (fun _ _ e=>e) (fun _ _ _ e=>e) (fun b ps e=>⟨#[],by rw[e];simp⟩) (fun m hm=> ?_) (fun b u e=> ?_) I.bare
 ·have e:b=it:=by simpa using i
  subst e;exact⟨h1,g,h2,j⟩
 ·obtain⟨o,es,l,h,r⟩:=hm;exact⟨o,es,l,k _ o (Ne.symm g) h,r⟩
 ·refine(I.Sa b u e).U9 (fun c v a q=>k c v ?_ q) (fun _ q=>q) fun _ _ q=>q
  rcases a with z|z
  ·rw[z];exact f b u e
  ·exact f c _ z
theorem Inv.tok (I:Inv X pins σ H s) (t:Nat):Inv X pins σ H {s with toks:=t}:=I.un Un.refl I.Sa
theorem Inv.kept {t':Nat} (I:Inv X pins σ H s) (k:∀b u,s.heap.get? b=QB u->h'.get? b=QB u):Inv X pins σ H {s with heap:=h',toks:=t'}:=I.un (Un.kept k) (I.Sa.kept k)
theorem Inv.laid {a:QI} {o:HO} {t':Nat} (I:Inv X pins σ H s) (k:∀b u,s.heap.get? b=QB u->h'.get? b=QB u) (hp:s.heap.objs.size<=a) (new:ObjOk X.prog X.w (bv H a o) h' a o):
  Inv X pins σ (bv H a o) {s with heap:=h',toks:=t'}:=I.un (Un.laid k hp (I.Sa.fresh hp)) (I.Sa.laid k hp new)
theorem Inv.write {x e:QI} {o:HO} {t':Nat} (I:Inv X pins σ H s) (f:Oe (H x)) (g:e=x\/H e=QB (.own x)) (k:∀b u,b≠e->s.heap.get? b=QB u->h'.get? b=QB u) (a:∃u,h'.get? e=QB u)
  (new:ObjOk X.prog X.w (bv H x o) h' x o):Inv X pins σ (bv H x o) {s with heap:=h',toks:=t'}:=I.un (Un.write f g k a) (I.Sa.write f g k a new)
theorem Inv.Ym (I:Inv X pins σ H s) (h:∀p∈aec,s.heap.get? p.1=QB p.2/\H p.1=QF/\p.1≠X.env.locals/\p.1∉X.fs/\∀v,p.2.data≠ .cell v):Inv X aec σ H s:=
 ⟨I.ok,I.os,I.bare,I.base,I.loc,I.cell,I.free,I.Uw,fun p hp=>(R9.mp hp).elim (fun z=>I.pin p (UQ _ z)) (h p),I.Sa,I.len⟩
theorem su {N:List Str} (e:N.Nodup) {i j:Nat} (a:N[i]? =QB x) (b:N[j]? =QB x):i=j:=by obtain⟨h1,g⟩:=QK.mp a;obtain⟨h2,f⟩:=QK.mp b;exact(List.getElem_inj e).mp (g.trans f.symm)
theorem tV {M:YC} {A:Rp} {E:QD->QL->Prop} {i:Nat} {x:Str} {v:V} {u:QD} {Q:Unit->QL->Prop} (I:Inv X pins σ H s) (hN:X.N.Nodup) (hi:X.N[i]? =QB x) (hx:Py X.env.scope x) (r:RelV v u)
  (h:∀s',Inv X pins (σ.set i (QB v)) H s'->(∃a,Heap.SameBut a s.heap s'.heap/\(a=X.env.locals\/X.env.cells.lookup x=QB a))->Q () s') (hf:X.fn x=QG\/X.env.scope.names.lookup x=QB .local:=by first|exact .inl rfl|exact .inr rfl|assumption):wpAny M A (storeName X.env x u) Q E s:=by
 obtain⟨m,hn,hl⟩:=id I.loc;have adb:(X.env.scope.kind== .class||(X.env.scope.kind== .module&&X.env.locals !=X.env.globals))=QN:=by rw[I.ok.kind];rfl
 have hiσ:i<σ.length:=by rw[I.len];exact(QK.mp hi).1
 have cne:=I.cne;have tracked:∀{a:QI} {h':Heap},(∃o,s.heap.get? a=QB o/\H a=QF)->Heap.SameBut a s.heap h'->Wb X.prog X.w H h':=fun{a h'} ha hs b ob e=>by
  obtain⟨_,_,acg⟩:=ha;refine(I.Sa b ob e).U9 (fun c w' hc q=>(hs.2 c ?_).trans q) (fun _ q=>q) fun _ _ q=>q;rintro rfl;rcases hc with rfl|hc
  ·rw[acg] at e;cases e
  ·rw[acg] at hc;cases hc
 rcases hx with hk|hk
 ·refine wpAny_storeName_local hk hn (fun h' hn' hs=> ?_) adb
  obtain⟨oL,_,_,hoL,_⟩:=id hn;refine h _ ⟨I.ok,I.os,I.bare,⟨fun b o e n hb hx=> ?_,fun b o e n hb hx=> ?_,I.base.free,fun b o e hx=> ?_,I.base.W6,I.base.WO,I.base.Xe⟩,⟨_,hn',fun j y v' e1 e2 e3=> ?_⟩,fun y c e=> ?_,I.free,I.Uw,fun p hp=> ?_,tracked ⟨oL,hoL,I.free⟩ hs,by simpa using I.len⟩ ⟨_,hs,.inl rfl⟩
  ·exact(hs.2 b (Ra (Q6 (Heap.lt_size e) I.ok.above))).trans (I.base.keep b o e n hb hx)
  ·obtain⟨sl,e1⟩:=I.base.slot b o e n hb hx;exact⟨sl,(hs.2 b (Ra (Q6 (Heap.lt_size e) I.ok.above))).trans e1⟩
  ·obtain⟨o',e1⟩:=I.base.there b o e hx;exact⟨o',(hs.2 b (Ra (Q6 (Heap.lt_size e) I.ok.above))).trans e1⟩
  ·by_cases hj:j=i
   ·subst hj;rw[hi] at e1;cases e1;rw[Sh hiσ] at e2;cases e2;exact⟨u,r,.inl ⟨hk,by simp⟩⟩
   ·rw[RA (Ne.symm hj)] at e2
    obtain⟨u',r',q⟩:=hl j y v' e1 e2 e3;refine⟨u',r',?_⟩;rcases q with⟨k,e⟩|⟨k,c,e,z⟩
    ·refine .inl ⟨k,?_⟩;have:y≠x:=fun e=>hj (su hN e1 (e▸hi));simp[this,e]
    ·exact .inr ⟨k,c,e,z.sameBut hs (cne y c e)⟩
  ·obtain⟨w',z⟩:=I.cell y c e;exact⟨w',z.sameBut hs (cne y c e)⟩
  ·obtain⟨e,n,ne,nf,d⟩:=I.pin p hp;exact⟨(hs.2 p.1 ne).trans e,n,ne,nf,d⟩
 ·have hfn:X.fn x=QG:=by
   rcases hf with z|z
   ·exact z
   ·rw[z] at hk;cases hk
  obtain⟨c,hc⟩:=I.ok.has x (.inl hk);obtain⟨w',z⟩:=I.cell x c hc;refine wpAny_storeName_cell I.ok.kind hk hc z (fun h' Zg hs=> ?_);obtain⟨oc,hoc,agi⟩:=id z;refine h {s with heap:=h'} ⟨I.ok,I.os,I.bare,⟨fun b o e n hb hx=> ?_,fun b o e n hb hx=> ?_,I.base.free,fun b o e hx=> ?_,I.base.W6,I.base.WO,I.base.Xe⟩,⟨m,hn.sameBut hs (Ne.symm (cne x c hc)),fun j y v' e1 e2 e3=> ?_⟩,fun y c' e=> ?_,I.free,I.Uw,fun p hp=> ?_,tracked ⟨oc,hoc,I.Uw x c hc⟩ hs,by simpa using I.len⟩ ⟨c,hs,.inr hc⟩
  ·exact(hs.2 b (Ra (Q6 (Heap.lt_size e) (I.ok.cab x c hfn hc)))).trans (I.base.keep b o e n hb hx)
  ·obtain⟨sl,e1⟩:=I.base.slot b o e n hb hx;exact⟨sl,(hs.2 b (Ra (Q6 (Heap.lt_size e) (I.ok.cab x c hfn hc)))).trans e1⟩
  ·obtain⟨o',e1⟩:=I.base.there b o e hx;exact⟨o',(hs.2 b (Ra (Q6 (Heap.lt_size e) (I.ok.cab x c hfn hc)))).trans e1⟩
  ·by_cases hj:j=i
   ·subst hj;rw[hi] at e1;cases e1;rw[Sh hiσ] at e2;cases e2;exact⟨u,r,.inr ⟨.inl hk,c,hc,Zg⟩⟩
   ·rw[RA (Ne.symm hj)] at e2
    obtain⟨u',r',q⟩:=hl j y v' e1 e2 e3;refine⟨u',r',?_⟩;rcases q with q|⟨k,c',e,z'⟩
    ·exact .inl q
    ·refine .inr ⟨k,c',e,z'.sameBut hs ?_⟩;rintro rfl;exact hj (su hN e1 (I.ok.inj _ _ _ e hc▸hi))
  ·by_cases hcc:c'=c
   ·subst hcc;exact⟨_,Zg⟩
   ·obtain⟨w2,z2⟩:=I.cell y c' e;exact⟨w2,z2.sameBut hs hcc⟩
  ·obtain⟨e,n,ne,nf,d⟩:=I.pin p hp;refine⟨(hs.2 p.1 ?_).trans e,n,ne,nf,d⟩;intro q;rw[q,hoc] at e;have q':oc=p.2:=QX e;exact d w' (by rw[<-q'];exact agi)
theorem qV {i:Nat} {v:V} {u:QD} {Q:Unit->QL->Prop} (I:Inv X pins σ H s) (hN:X.N.Nodup) (hi:X.N[i]? =QB x) (hx:Py X.env.scope x) (r:RelV v u)
  (h:∀s',Inv X pins (σ.set i (QB v)) H s'->Q () s') (hf:X.fn x=QG\/X.env.scope.names.lookup x=QB .local:=by first|exact .inl rfl|exact .inr rfl|assumption):wpAny M A (storeName X.env x u) Q E s:=
 tV I hN hi hx r (fun s' I' _=>h s' I') hf
theorem Inv.YV {s':QL} {ch:List QI} (I:Inv X pins σ H s) (f:s'.os=s.os) (u:Un (wB X.stack) ch H H' s.heap s'.heap) (Sa:Wb X.prog X.w H' s'.heap) (g:AllBare s'.gens)
  (a:∀b∈ch,(b∈X.ex\/X.s₀.heap.objs.size<=b)/\b≠X.env.locals/\(∀x c,X.env.cells.lookup x=QB c->c≠b)/\∀p∈X.pn++pins,p.1≠b):Inv X pins σ H' s':=by
 obtain⟨h',g',d',t',o'⟩:=s';have e:o'=s.os:=f;subst e;exact I.call (g':=g') (t':=t') (d':=d') u Sa g a
end
abbrev XK:=QD->Option QI->Hp->Prop
abbrev St:=List (Option V)
abbrev VK:=V->Hp->Prop
abbrev TE:=St->Hp->VK->Prop
abbrev TT:=St->Hp->(Bool->Hp->Prop)->Prop
abbrev TA:=St->Hp->(List V->Hp->Prop)->Prop
structure Ends where
 nx:St->Hp->Prop
 rt:VK
 bk:St->Hp->Prop:=fun _ _=>False
 ct:St->Hp->Prop:=fun _ _=>False
abbrev TS:=Ends->St->Hp->Prop
def EP (X:Cx) (pins:List (QI×Obj)) (σ:St) (Q:VK) (u:QD) (s':QL):Prop:=∃v H',Inv X pins σ H' s'/\RelV v u/\Q v H'
def TP (X:Cx) (pins:List (QI×Obj)) (σ:St) (Q:Bool->Hp->Prop) (b:Bool) (s':QL):Prop:=∃H',Inv X pins σ H' s'/\Q b H'
def AP (X:Cx) (pins:List (QI×Obj)) (σ:St) (Q:List V->Hp->Prop) (us:List QD) (s':QL):Prop:=∃vs H',Inv X pins σ H' s'/\Vals vs us/\Q vs H'
def SP (X:Cx) (pins:List (QI×Obj)) (D:Ends) (f:Flow) (s':QL):Prop:=
 match f with
 | .next=>∃σ' H',Inv X pins σ' H' s'/\D.nx σ' H'
 | .brk=>∃σ' H',Inv X pins σ' H' s'/\D.bk σ' H'
 | .cont=>∃σ' H',Inv X pins σ' H' s'/\D.ct σ' H'
 | .ret u=>∃v σ' H',Inv X pins σ' H' s'/\RelV v u/\D.rt v H'
def PE (X:Cx) (e:RN) (t:TE):Prop:=
 ∀(pins:List (QI×Obj)) (s:QL) (σ:St) (H:Hp) (Q:VK),Inv X pins σ H s->t σ H Q->wpAny (model X.prog X.w) X.A (eval e X.env) (EP X pins σ Q) X.xe s
def PT (X:Cx) (e:RN) (t:TT):Prop:=
 ∀(pins:List (QI×Obj)) (s:QL) (σ:St) (H:Hp) (Q:Bool->Hp->Prop),Inv X pins σ H s->t σ H Q->wpAny (model X.prog X.w) X.A (isTrue e X.env (eval e X.env)) (TP X pins σ Q) X.xe s
def PW (X:Cx) (e:RN) (t:TT):Prop:=
 ∀(a:Sem QD) (pins:List (QI×Obj)) (s:QL) (σ:St) (H:Hp) (Q:Bool->Hp->Prop),Inv X pins σ H s->t σ H Q->wpAny (model X.prog X.w) X.A (isTrue e X.env a) (TP X pins σ Q) X.xe s
theorem PW.pt (h:PW X e t):PT X e t:=h _
def PA (X:Cx) (es:List RN) (t:TA):Prop:=
 ∀(pos:Pos) (pins:List (QI×Obj)) (s:QL) (σ:St) (H:Hp) (Q:List V->Hp->Prop),Inv X pins σ H s->t σ H Q->wpAny (model X.prog X.w) X.A (spliced (backTo pos (Q9 es X.env))) (AP X pins σ Q) X.xe s
def PS (X:Cx) (st:Tg) (t:TS):Prop:=
 ∀(pins:List (QI×Obj)) (s:QL) (σ:St) (H:Hp) (D:Ends),Inv X pins σ H s->t D σ H->wpAny (model X.prog X.w) X.A (exec st X.env) (SP X pins D) X.xe s
def Xg (X:Cx) (st:List Tg) (t:TS):Prop:=
 ∀(pins:List (QI×Obj)) (s:QL) (σ:St) (H:Hp) (D:Ends),Inv X pins σ H s->t D σ H->wpAny (model X.prog X.w) X.A (execs st X.env) (SP X pins D) X.xe s
theorem cG {α:Type} {t:Sem α} {Q b:α->QL->Prop} {M:YC} {A:Rp} {E:QD->QL->Prop} {s:QL} (h:wpAny M A t Q E s) (e:∀a s,Q a s->b a s):wpAny M A t b E s:=wpAny_mono h e fun _ _ x=>x
section
variable {X:Cx}
def x4 (i:Nat):TE:=fun σ H Q=>∃v,σ[i]? =QB (QB v)/\Q v H
def tC (v:V):TE:=fun _ H Q=>Q v H
theorem MB (g:X.N[i]? =QB x) (b:PH X.env.scope x) (hd:(x==("__debug__":Str))=QN:=by decide) (j:(x==("__classdict__":Str))=QN:=by decide):PE X (.Name x pos) (x4 i):=by
 intro pins s σ H Q I h;obtain⟨v,e,h⟩:=h;obtain⟨m,hn,f⟩:=I.loc;obtain⟨u,r,l⟩:=f i x v g e b;have a:EP X pins σ Q u s:=⟨v,H,I,r,h⟩;rcases l with⟨hk,hm⟩|⟨hk,c,hc,ach⟩
 ·exact acp (wpAny_loadName_local I.ok.kind hk hn hm a) hd
 ·rcases hk with hk|hk
  ·exact acp (wpAny_loadName_cell I.ok.kind hk hc ach a) hd
  ·exact acp (wpAny_loadName_free I.ok.kind hk hc ach a j) hd
theorem bp {i j pos}:PE X (.Constant (.int i) j pos) (tC (.int i)):=fun _ _ _ H _ I h=>acq ⟨.int i,H,I.tok _,⟨_,rfl⟩,h⟩
theorem xz {b j pos}:PE X (.Constant (.bool b) j pos) (tC (.bl b)):=fun _ _ _ H _ I h=>Constant_bool ⟨.bl b,H,I,rfl,h⟩
theorem gm {j pos}:PE X (.Constant .none j pos) (tC .Te):=fun _ _ _ H _ I h=>Constant_none ⟨.Te,H,I,rfl,h⟩
theorem nW {x j pos}:PE X (.Constant (.str x) j pos) (tC (.str x)):=fun _ _ _ H _ I h=>Calls.Constant_str ⟨.str x,H,I.tok _,⟨_,rfl⟩,h⟩
def Gl (X:Cx) (x:Str):Prop:=X.env.kindOf x=QB .globalImplicit
theorem jb (I:Inv X pins σ H s) (a:Gl X x) (hm:X.mg x=QB u) (h:Q u s)
  (hd:(x==("__debug__":Str))=QN:=by decide):wpAny (model X.prog X.w) X.A (eval (.Name x pos) X.env) Q E s:=
 Calls.Name_function_global I.ok.kind a (Calls.loadGlobal_global (by rw[I.ok.glob];exact I.mod.glob.keeps I.bk) hm h) hd
theorem nU (I:Inv X pins σ H s) (b:Gl X x) (hm:X.mg x=QF) (a:RP x=QB u) (h:Q u s)
  (hn:x≠ "__name__":=by decide) (hd:(x==("__debug__":Str))=QN:=by decide):wpAny (model X.prog X.w) X.A (eval (.Name x pos) X.env) Q E s:=by
 obtain⟨mb,h1,h2⟩:=I.mod.blt;exact Calls.Name_function_global I.ok.kind b (Calls.loadGlobal_builtin (by rw[I.ok.glob];exact I.mod.glob.keeps I.bk) hm (by rw[I.ok.blt];exact h1.keeps I.bk) ((h2 x hn).trans a) h) hd
theorem jm {x:Str} {v:V} {u:QD} {pos:Pos} (a:Gl X x) (hm:X.mg x=QB u) (r:RelV v u) (hd:(x==("__debug__":Str))=QN:=by decide):PE X (.Name x pos) (tC v):=
 fun _ _ _ H _ I h=>jb I a hm ⟨v,H,I,r,h⟩ hd
theorem kO (b:Gl X x) (hm:X.mg x=QF) (a:RP x=QB u) (r:RelV v u) (hn:x≠ "__name__":=by decide) (hd:(x==("__debug__":Str))=QN:=by decide):PE X (.Name x pos) (tC v):=
 fun _ _ _ H _ I h=>nU I b hm a ⟨v,H,I,r,h⟩ hn hd
variable {a b:RN} {ta tb:TE} {pos:Pos}
def PC (X:Cx) (g:CmpOp) (a b:RN) (t:TE):Prop:=
 ∀(pins:List (QI×Obj)) (s:QL) (σ:St) (H:Hp) (Q:VK),Inv X pins σ H s->t σ H Q->
  wpAny (model X.prog X.w) X.A (eval a X.env) (fun v f=>wpAny (model X.prog X.w) X.A (eval b X.env) (fun u e=>wpAny (model X.prog X.w) X.A (S3 g v u) (EP X pins σ Q) X.xe e) X.xe f) X.xe s
def tB (t:TE):TT:=fun σ H Q=>t σ H fun x H1=>∃c,x= .bl c/\Q c H1
theorem Aj (h:PC X op a b t) (h1:behindInMarks op b=QN:=by first|exact aeh _ (by decide) (by decide)|rfl):PT X (.Compare a [op] [b] pos) (tB t):=by intro pins s σ H Q I e;refine abi (cG (h pins s σ H _ I e) fun v s1 h1=>cG h1 fun u s2 h2=>cG h2 fun c g ⟨x,H1,f,r1,q1⟩=> ?_) h1;obtain⟨d,rfl,q⟩:=q1;cases r1;exact Tj ⟨H1,f,q⟩
theorem lS {e:RN} {t:TE} (h:PE X e t) (b:∀whole,isTrue e X.env whole=(do let v<-whole;standAt e.pos;holding [v] (truthy v)):=by intro _;rfl):PT X e (tB t):=by intro pins s σ H Q I a;refine isTrue_plain (cG (h pins s σ H _ I a) fun v s1 ⟨x,H1,f,r1,q1⟩=> ?_) (b _);obtain⟨d,rfl,q⟩:=q1;cases r1;exact Tj ⟨H1,f,q⟩
variable {tA tB':TT} {rest:List RN}
def LS (t u:TT):TT:=fun σ H Q=>t σ H fun c H1=>if c=QG then u σ H1 Q else Q QN H1
def Pt (t u:TT):TT:=fun σ H Q=>t σ H fun c H1=>if c=QG then Q QG H1 else u σ H1 Q
def LM (t:TT):TT:=fun σ H Q=>t σ H fun c H1=>Q (!c) H1
theorem HD (ha:PT X a tA):PW X (.BoolOp .And [a] pos) tA:=by
 intro b pins s σ H Q I h;refine isTrue_and (cG (ha pins s σ H Q I h) fun c s1 e=> ?_);cases c with
 |true=>exact isTrue_and_nil e
 |false=>exact e
theorem yW (ha:PT X a tA):PW X (.BoolOp .Or [a] pos) tA:=by
 intro b pins s σ H Q I h;refine isTrue_or (cG (ha pins s σ H Q I h) fun c s1 e=> ?_);cases c with
 |false=>exact isTrue_or_nil e
 |true=>exact e
theorem LC (ha:PT X a tA) (g:PW X (.BoolOp .And (b::rest) pos) tB'):PW X (.BoolOp .And (a::b::rest) pos) (LS tA tB'):=by
 intro f pins s σ H Q I h;refine isTrue_and (cG (ha pins s σ H _ I h) fun c s1 ⟨H1,e,q1⟩=> ?_);cases c with
 |true=>exact g f pins s1 σ H1 Q e q1
 |false=>exact⟨H1,e,q1⟩
theorem xY (ha:PT X a tA) (g:PW X (.BoolOp .Or (b::rest) pos) tB'):PW X (.BoolOp .Or (a::b::rest) pos) (Pt tA tB'):=by
 intro f pins s σ H Q I h;refine isTrue_or (cG (ha pins s σ H _ I h) fun c s1 ⟨H1,e,q1⟩=> ?_);cases c with
 |true=>exact⟨H1,e,q1⟩
 |false=>exact g f pins s1 σ H1 Q e q1
theorem sK (ha:PT X a tA):PT X (.UnaryOp .Not a pos) (LM tA):=by intro pins s σ H Q I h;exact isTrue_not (ha pins s σ H (fun c H1=>Q (!c) H1) I h)
def B8 (ta tb:TE):TE:=fun σ H Q=>ta σ H fun x H1=>∃c,x= .bl c/\if c=QG then tb σ H1 Q else Q (.bl QN) H1
def KW (ta:TE):TE:=fun σ H Q=>ta σ H fun x H1=>∃c,x= .bl c/\Q (.bl (!c)) H1
theorem nF {op} (h:PE X a t):PE X (.BoolOp op [a] pos) t:=fun pins s σ H Q I b=>BoolOp_one (h pins s σ H Q I b)
theorem lC (ha:PE X a ta) (f:PE X (.BoolOp .And (b::rest) pos) tb):PE X (.BoolOp .And (a::b::rest) pos) (B8 ta tb):=by
 intro pins s σ H Q I h;refine BoolOp_and (cG (ha pins s σ H _ I h) fun v s1 ⟨x,H1,e,r1,q1⟩=> ?_);obtain⟨c,rfl,q1⟩:=q1;cases r1;refine Tj ?_;cases c with
 |true=>exact f pins s1 σ H1 Q e q1
 |false=>exact⟨.bl QN,H1,e,rfl,q1⟩
theorem Gq (ha:PE X a ta):PE X (.UnaryOp .Not a pos) (KW ta):=by intro pins s σ H Q I h;refine UnaryOp_ (cG (ha pins s σ H _ I h) fun v s1 ⟨x,H1,b,r1,q1⟩=> ?_);obtain⟨c,rfl,q1⟩:=q1;cases r1;exact not_of (Tj ⟨.bl (!c),H1,b,rfl,q1⟩)
def P6 (t:TT) (ta tb:TE):TE:=fun σ H Q=>t σ H fun c H1=>if c=QG then ta σ H1 Q else tb σ H1 Q
theorem DZ (f:PT X c tA) (ha:PE X a ta) (g:PE X b tb):PE X (.IfExp c a b pos) (P6 tA ta tb):=by
 intro pins s σ H Q I h;refine wpAny_IfExp (cG (f pins s σ H _ I h) fun d s1 ⟨H1,e,q1⟩=> ?_);cases d with
 |true=>exact ha pins s1 σ H1 Q e q1
 |false=>exact g pins s1 σ H1 Q e q1
end
def VD (K:QC) (H:Hp) (a:QI) (xs:List V):Prop:=
 Rd H a (.lst xs)\/
  ∃(o:Obj) (RE:Array QD) (n:Nat),K.lookup a=QB o/\o.cls= .type "list"/\o.dict=QF/\o.data= .seq RE n/\RE.size<=QU/\Vals xs RE.toList
def Vx (K:QC) (H:Hp) (a:QI) (xs:List V):Prop:=
 Rd H a (.tup xs)\/
  ∃(o:Obj) (RE:Array QD) (n:Nat),K.lookup a=QB o/\(o.cls= .type "tuple"/\o.dict=QF)/\o.data= .seq RE n/\RE.size<=QU/\Vals xs RE.toList
noncomputable def P8:QD->Option V
 | .none=>QB .Te
 | .bool b=>QB (.bl b)
 | .int i _=>QB (.int i)
 | .str x _=>QB (.str x)
 | .bytes b _=>QB (.byt b)
 | .float b _=>QB (.flt b)
 | .ref a=>QB (.ref a)
 | .type n=>QB (.ty n)
 |_=>QF
theorem RelV.abs (r:RelV x u):P8 u=QB x:=by
 cases x with
 |Te=>cases r;rfl
 |bl _=>cases r;rfl
 |int _=>obtain⟨t,rfl⟩:=r;rfl
 |str _=>obtain⟨t,rfl⟩:=r;rfl
 |byt _=>obtain⟨t,rfl⟩:=r;rfl
 |flt _=>obtain⟨t,rfl⟩:=r;rfl
 |ref _=>cases r;rfl
 |ty _=>cases r;rfl
theorem RelV.inj (r:RelV x u) (q:RelV y u):x=y:=QX (r.abs.symm.trans q.abs)
theorem Vals.inj:∀{xs ys:List V} {us:List QD},Vals xs us->Vals ys us->xs=ys
 |_,_,_,.nil,.nil=>rfl
 |_,_,_,.cons r t,.cons r' t'=>by rw[r.inj r',Vals.inj t t']
section
variable {X:Cx} {pins:List (QI×Obj)} {σ:St} {H:Hp} {s:QL} {a:QI} {xs ys:List V}
theorem VD.of {K:QC} (h:H a=QB (.lst xs)):VD K H a xs:= .inl (.inl h)
theorem Vx.of {K:QC} (h:H a=QB (.tup xs)):Vx K H a xs:= .inl (.inl h)
theorem Inv.list (I:Inv X pins σ H s) (h:VD X.K H a xs):∃RE:List QD,Vals xs RE/\PlainL s.heap a RE.toArray/\xs.length<=QU:=by
 rcases h with h|⟨o,RE,n,hk,hc,hd,hs,hz,r⟩
 ·obtain⟨z,RE,n,r,e⟩:=h.ok I.Sa;exact⟨RE,r,⟨_,n,e,rfl,rfl,rfl⟩,z⟩
 ·refine⟨RE.toList,r,⟨o,n,I.UT a o hk,hc,hd,by simpa using hs⟩,?_⟩;have e:=r.length;simp only[SN] at e;omega
theorem Inv.tuple (I:Inv X pins σ H s) (h:Vx X.K H a xs):∃RE:List QD,Vals xs RE/\IsTup s.heap a RE.toArray/\xs.length<=QU:=by
 rcases h with h|⟨o,RE,n,hk,hc,hs,hz,r⟩
 ·obtain⟨z,RE,r,p⟩:=h.ok I.Sa;exact⟨RE,r,p.tup,z⟩
 ·refine⟨RE.toList,r,⟨o,I.UT a o hk,hc.1,n,by simpa using hs⟩,?_⟩;have e:=r.length;simp only[SN] at e;omega
theorem Inv.ac9 (I:Inv X pins σ H s) (h:Vx X.K H a xs):∃RE:List QD,Vals xs RE/\XJ s.heap a RE.toArray/\xs.length<=QU:=by
 rcases h with h|⟨o,RE,n,hk,hc,hs,hz,r⟩
 ·obtain⟨z,RE,r,p⟩:=h.ok I.Sa;exact⟨RE,r,p,z⟩
 ·refine⟨RE.toList,r,⟨o,I.UT a o hk,⟨hc.1,n,by simpa using hs⟩,hc.2⟩,?_⟩;have e:=r.length;simp only[SN] at e;omega
theorem Inv.abe (I:Inv X pins σ H s) (h:VD X.K H a xs) (h':VD X.K H a ys):xs=ys:=by
 obtain⟨RE,r,⟨o,n,e,_,_,d⟩,_⟩:=I.list h;obtain⟨g,r',⟨o',i,b,_,_,f⟩,_⟩:=I.list h';rw[e] at b;cases b;rw[d] at f;injection f with d1 _;have:RE=g:=by simpa using congrArg acr d1
 subst this;exact r.inj r'
theorem Inv.aai (I:Inv X pins σ H s) (h:Vx X.K H a xs) (h':Vx X.K H a ys):xs=ys:=by
 obtain⟨RE,r,⟨o,e,_,n,d⟩,_⟩:=I.tuple h;obtain⟨g,r',⟨o',b,_,i,f⟩,_⟩:=I.tuple h';rw[e] at b;cases b;rw[d] at f;injection f with d1 _;have:RE=g:=by simpa using congrArg acr d1
 subst this;exact r.inj r'
end
noncomputable abbrev Cx.VF (X:Cx) (E:QD->QL->Prop):Cx:={X with xe:=E}
noncomputable abbrev Cx.nox (X:Cx):Cx:=X.VF fun _ _=>False
theorem Cx.Ok.VF {X:Cx} (ok:X.Ok) (E:QD->QL->Prop):(X.VF E).Ok:=
 ⟨ok.mod,ok.kind,ok.glob,ok.blt,ok.above,ok.inj,ok.has,ok.cab,ok.hd,ok.frames,ok.stk,ok.exf,ok.bs,ok.bsz,ok.Y6,ok.YU,ok.WA,ok.frf⟩
theorem Cx.Ok.UP {X:Cx} (ok:(X.VF E).Ok):X.Ok:=
 ⟨ok.mod,ok.kind,ok.glob,ok.blt,ok.above,ok.inj,ok.has,ok.cab,ok.hd,ok.frames,ok.stk,ok.exf,ok.bs,ok.bsz,ok.Y6,ok.YU,ok.WA,ok.frf⟩
section
variable {X:Cx} {pins:List (QI×Obj)} {σ:St} {H:Hp} {s:QL} {E:QD->QL->Prop}
theorem Inv.VF (I:Inv X pins σ H s) (E:QD->QL->Prop):Inv (X.VF E) pins σ H s:=⟨I.ok.VF E,I.os,I.bare,I.base,I.loc,I.cell,I.free,I.Uw,I.pin,I.Sa,I.len⟩
theorem Inv.UP (I:Inv (X.VF E) pins σ H s):Inv X pins σ H s:=⟨I.ok.UP,I.os,I.bare,I.base,I.loc,I.cell,I.free,I.Uw,I.pin,I.Sa,I.len⟩
theorem SP.UP (h:SP (X.VF E) pins D f s'):SP X pins D f s':=by
 cases f with
 |next=>obtain⟨a,H',I,q⟩:=h;exact⟨a,H',I.UP,q⟩
 |brk=>obtain⟨a,H',I,q⟩:=h;exact⟨a,H',I.UP,q⟩
 |cont=>obtain⟨a,H',I,q⟩:=h;exact⟨a,H',I.UP,q⟩
 |ret u=>obtain⟨v,a,H',I,r,q⟩:=h;exact⟨v,a,H',I.UP,r,q⟩
theorem Xg.nox {st:List Tg} (h:Xg X.nox st t):Xg X st t:=fun pins s σ H D I a=>
 wpAny_mono (h pins s σ H D (I.VF _) a) (fun _ _ q=>q.UP) fun _ _ z=>False.elim z
end
section
variable {X:Cx} {st:Tg} {rest:List Tg} {t u:TS} {e:RN} {te:TE} {pos:Pos}
def AC:TS:=fun D σ H=>D.nx σ H
def Iq (t u:TS):TS:=fun D σ H=>t {D with nx:=u D} σ H
theorem io:Xg X [] AC:=fun _ _ σ H _ I h=>Us ⟨σ,H,I,h⟩
theorem am (h1:PS X st t) (h2:Xg X rest u):Xg X (st::rest) (Iq t u):=by
 intro pins s σ H D I h;refine Yf (cG (h1 pins s σ H {D with nx:=u D} I h) fun f s1 q=> ?_);cases f with
 |next=>obtain⟨a,H',b,q⟩:=q;exact h2 pins s1 a H' D b q
 |ret v=>exact q
 |brk=>exact q
 |cont=>exact q
theorem aV (h1:PS X st t):Xg X [st] t:=by
 intro pins s σ H D I h;refine Yf (cG (h1 pins s σ H D I h) fun f s1 q=> ?_);cases f with
 |next=>exact Us q
 |ret v=>exact q
 |brk=>exact q
 |cont=>exact q
theorem Inv.quiet {pins:List (QI×Obj)} {σ:St} {H:Hp} {s:QL} (I:Inv X pins σ H s):interactive X.env=QN:=by simp[interactive,I.ok.kind]
def x5 (te:TE):TS:=fun D σ H=>te σ H fun _ H1=>D.nx σ H1
theorem fS (b:PE X e te) (a:Ss e QF pos.line X.env=pure QN:=by rfl):PS X (.Expr e pos) (x5 te):=by intro pins s σ H D I h;exact afV (cG (b pins s σ H _ I h) fun v s1 ⟨x,H1,f,r1,q1⟩=>⟨σ,H1,f,q1⟩) I.quiet a
def IW (te:TE):TS:=fun D σ H=>te σ H D.rt
theorem cU (a:PE X e te):PS X (.Return (QB e) pos) (IW te):=by intro pins s σ H D I h;exact wpAny_Return_some (cG (a pins s σ H _ I h) fun v s1 ⟨x,H1,b,r1,q1⟩=>⟨x,σ,H1,b,r1,q1⟩)
def Lk:TS:=fun D _ H=>D.rt .Te H
theorem Ka:PS X (.Return QF pos) Lk:=fun _ _ σ H _ I h=>wpAny_Return_none ⟨.Te,σ,H,I,rfl,h⟩
def Ir (c:TT) (t u:TS):TS:=fun D σ H=>c σ H fun b H1=>if b=QG then t D σ H1 else u D σ H1
theorem oK (f:PT X c tc) (ha:Xg X a t) (g:Xg X b u):PS X (.If c a b pos) (Ir tc t u):=by
 intro pins s σ H D I h;refine wpAny_If (cG (f pins s σ H _ I h) fun d s1 ⟨H1,e,q1⟩=> ?_);cases d with
 |true=>exact ha pins s1 σ H1 D e q1
 |false=>exact g pins s1 σ H1 D e q1
end
abbrev TG:=V->St->Hp->(St->Hp->Prop)->Prop
abbrev MV:=List V->St->Hp->(St->Hp->Prop)->Prop
def PG (X:Cx) (a:RN) (t:TG):Prop:=
 ∀(pins:List (QI×Obj)) (s:QL) (σ:St) (H:Hp) (v:V) (u:QD) (Q:St->Hp->Prop),Inv X pins σ H s->RelV v u->t v σ H Q->
  wpAny (model X.prog X.w) X.A (assign a X.env u) (fun _ s'=>∃σ' H',Inv X pins σ' H' s'/\Q σ' H') X.xe s
def Px (X:Cx) (a:List RN) (t:MV):Prop:=
 ∀(pins:List (QI×Obj)) (s:QL) (σ:St) (H:Hp) (vs:List V) (us:List QD) (Q:St->Hp->Prop),Inv X pins σ H s->Vals vs us->t vs σ H Q->
  wpAny (model X.prog X.w) X.A (assignInOrder ((assignEach a X.env).map (·.2)) us) (fun _ s'=>∃σ' H',Inv X pins σ' H' s'/\Q σ' H') X.xe s
section
variable {X:Cx} {pos:Pos}
def uB (i:Nat):TG:=fun v σ H Q=>Q (σ.set i (QB v)) H
theorem bZ (hN:X.N.Nodup) (hi:X.N[i]? =QB x) (hx:Py X.env.scope x) (hf:X.fn x=QG\/X.env.scope.names.lookup x=QB .local:=by first|exact .inl rfl|exact .inr rfl|assumption):PG X (.Name x pos) (uB i):=by intro pins s σ H v u Q I r h;exact ade (qV I hN hi hx r (fun s' I'=>⟨_,H,I',h⟩) hf)
noncomputable def L7:MV:=fun vs σ H Q=>vs=[]/\Q σ H
noncomputable def FO (t:TG) (u:MV):MV:=fun vs σ H Q=>∃v r,vs=v::r/\t v σ H fun a H'=>u r a H' Q
theorem ve:Px X [] L7:=by intro pins s σ H vs us Q I r h;obtain⟨e,h⟩:=h;subst e;cases r;exact assignInOrder_nil ⟨σ,H,I,h⟩
theorem jU (h1:PG X e t) (h2:Px X es u)
  (b:(assignEach (e::es) X.env).map (·.2)=assign e X.env::(assignEach es X.env).map (·.2):=by rfl):Px X (e::es) (FO t u):=by
 intro pins s σ H vs us Q I r h;obtain⟨v,i,f,h⟩:=h;subst f;cases r with
 |cons r rr=>rw[b];refine assignInOrder_cons (cG (h1 pins s σ H _ _ _ I r h) fun _ s1 ⟨a,H1,g,q1⟩=> ?_);exact h2 pins s1 a H1 _ _ Q g rr q1
def MW (K:QC) (n:Nat) (t:MV):TG:=fun v σ H Q=>∃a xs,v= .ref a/\Vx K H a xs/\xs.length=n/\t xs σ H Q
theorem Ah (m:X.calm=QG) (h:Px X es t)
  (hn:(assignEach es X.env).length=n:=by rfl) (dg:(assignEach es X.env).findIdx? (·.1)=QF:=by rfl):PG X (.Tuple es k pos) (MW X.K n t):=by
 intro pins s σ H v u Q I r f;obtain⟨a,xs,p,j,l,f⟩:=f;subst p;cases r;obtain⟨RE,rv,i,w⟩:=I.tuple j;refine assign_Tuple_tuple (I.ok.hd m) i (by simp[hn,<-l,rv.length]) dg fun h' g=> ?_;have q:=I.kept (t':=s.toks) fun b o e=>g b o (Ra (Heap.lt_size e)) e;exact h pins _ σ H xs _ Q q (by simpa using rv) f
def Dw (te:TE) (g:TG):TS:=fun D σ H=>te σ H fun x H1=>g x σ H1 D.nx
theorem dD {i:Nat} {x:Str} {e:RN} {te:TE} {pos':Pos} (hN:X.N.Nodup) (hi:X.N[i]? =QB x) (hx:Py X.env.scope x) (he:PE X e te) (hs:Ss e (QB (.Name x pos')) pos.line X.env=pure QN:=by rfl) (hf:X.fn x=QG\/X.env.scope.names.lookup x=QB .local:=by first|exact .inl rfl|exact .inr rfl|assumption):
  PS X (.Assign [.Name x pos'] e pos) (Dw te (uB i)):=by
 intro pins s σ H D I h;refine wpAny_Assign_Name (cG (he pins s σ H _ I h) fun v s1 ⟨y,H1,I1,r1,q1⟩=> ?_) hs;exact qV I1 hN hi hx r1 (fun s2 I2=>⟨_,H1,I2,q1⟩) hf
end
section
variable {X:Cx} {pos:Pos}
def Eg (c:TT) (tb:TS):TS:=fun D σ H=>∃W:Nat->St->Hp->Prop,(∃m,W m σ H)/\∀m σ H,W m σ H->
 c σ H fun b H1=>if b=QG then∃N:St->Hp->Prop,(∀σ' H',N σ' H'->∃m',m'<m/\W m' σ' H')/\tb {D with nx:=N,ct:=N,bk:=D.nx} σ H1 else D.nx σ H1
theorem rX (hp:We (model X.prog X.w) X.A X.env X.xe) (y:PT X c tc) (z:Xg X body tb):PS X (.While c body [] pos) (Eg tc tb):=by
 intro pins s σ H D I h;obtain⟨W,⟨u,t⟩,turn⟩:=h;refine wpAny_While (codeAny_whileLoop (fun n s'=>∃σ' H',Inv X pins σ' H' s'/\W n σ' H') ?_ u ⟨σ,H,I,t⟩);rintro n s1 ⟨e,H1,B,w1⟩;refine TX hp (cG (y pins s1 e H1 _ B (turn n e H1 w1)) fun b s2 ⟨H2,r,j⟩=> ?_);cases b with
 |true=>
  obtain⟨N,q,j⟩:=j;rw[if_pos rfl];refine TX hp (cG (z pins s2 e H2 _ r j) fun f C i=> ?_);cases f with
  |next=>obtain⟨a,g,p,m⟩:=i;obtain⟨o,hm,l⟩:=q a g m;exact⟨o,hm,a,g,p,l⟩
  |cont=>obtain⟨a,g,p,m⟩:=i;obtain⟨o,hm,l⟩:=q a g m;exact⟨o,hm,a,g,p,l⟩
  |brk=>exact i
  |ret v=>exact i
 |false=>rw[if_neg QV];exact Us ⟨e,H2,r,j⟩
end
structure It where
 go:Nat->Hp->Prop
 yld:Nat->Hp->V->Hp->Prop
 stop:Nat->Hp->Prop
def oi (X:Cx) (pins:List (QI×Obj)) (H:Hp) (b:QI):Prop:=
 H b=QF/\b≠X.env.locals/\b∉X.fs/\(b∈X.ex\/X.s₀.heap.objs.size<=b)/\(∀x c,X.env.cells.lookup x=QB c->c≠b)/\∀p∈X.pn++pins,p.1≠b
theorem Inv.Yn (I:Inv X pins σ H s) (a:s.heap.objs.size<=b) (hn:H' b=QF):oi X pins H' b:=by
 refine⟨hn,Se (Q6 I.lt a),I.agd a,.inr (Rx I.sz a),fun x c e z=> ?_,fun p hp z=> ?_⟩
 ·obtain⟨v,q⟩:=I.cell x c e;exact absurd (Q6 q.lt (by rw[z];exact a)) (Sg _)
 ·exact absurd (Q6 (Heap.lt_size (I.pin p hp).1) (by rw[z];exact a)) (Sg _)
structure Turn (P:Q7) (w:Rv) (K:QC) (tg:RN) (J:It) (fp:List QI) (it:QI) (tn:Nat->Heap->Prop):Prop where
 mem:it∈fp
 obj:∀i h,tn i h->∀b∈fp,∃o,h.get? b=QB o/\∀v,o.data≠ .cell v
 keep:∀i h h',tn i h->(∀b∈fp,∀o,h.get? b=QB o->h'.get? b=QB o)->tn i h'
 item:∀(X:Cx),X.prog=P->X.w=w->X.K=K->X.calm=QG->∀(i:Nat) (pins:List (QI×Obj)) (s:QL) (σ:St) (H:Hp) (E:QD->QL->Prop),Inv X pins σ H s->(∀b∈fp,oi X pins H b)->tn i s.heap->J.go i H->
  wpAny (model P w) X.A (pyNext (.ref it)) (fun r s1=>∃u,r=QB u/\
   wpAny (model P w) X.A (letOwnedTupleGo tg (.ref it) u) (fun _ s2=>∃x H',Inv X pins σ H' s2/\RelV x u/\J.yld i H x H'/\tn (i+1) s2.heap/\∀b∈fp,H' b=QF) E s1) E s
 done:∀(X:Cx),X.prog=P->X.w=w->X.K=K->X.calm=QG->∀(i:Nat) (pins:List (QI×Obj)) (s:QL) (σ:St) (H:Hp) (E:QD->QL->Prop),Inv X pins σ H s->(∀b∈fp,oi X pins H b)->tn i s.heap->J.stop i H->
  wpAny (model P w) X.A (pyNext (.ref it)) (fun r s1=>r=QF/\Inv X pins σ H s1) E s
 self:∀(A:Rp) (i:Nat) (s:QL) (Q:QD->QL->Prop) (E:QD->QL->Prop),tn i s.heap->Q (.ref it) s->wpAny (model P w) A (pyIter (.ref it)) Q E s
abbrev TI:=St->Hp->(It->Hp->Prop)->Prop
def Qk (X:Cx) (pins:List (QI×Obj)) (σ:St) (tg:RN) (R:It->Hp->Prop) (a:QD) (s2:QL):Prop:=
 ∃(it:QI) (fp:List QI) (tn:Nat->Heap->Prop) (J:It) (H':Hp),a= .ref it/\Inv X pins σ H' s2/\Turn X.prog X.w X.K tg J fp it tn/\tn 0 s2.heap/\(∀b∈fp,oi X pins H' b)/\R J H'
def PI (X:Cx) (tg a:RN) (b:TI):Prop:=
 ∀(pins:List (QI×Obj)) (s:QL) (σ:St) (H:Hp) (R:It->Hp->Prop),Inv X pins σ H s->b σ H R->
  wpAny (model X.prog X.w) X.A (eval a X.env) (fun v s1=>wpAny (model X.prog X.w) X.A (pyIter v) (Qk X pins σ tg R) X.xe s1) X.xe s
theorem Fa {M:YC} {A:Rp} {E:QD->QL->Prop} {s:QL} {tg:RN} {it:QI} {u:QD} {o:Obj} {n:String} {vs:Array QD} {Q:Unit->QL->Prop} (b:s.heap.get? it=QB o) (e:o.cls= .type n) (hd:o.data= .fields vs)
  (hn:["enumerate","zip","dict_itemiterator","dict_reverseitemiterator","odict_iterator","itertools.zip_longest","itertools.pairwise"].contains n=QN) (a:Q () s):wpAny M A (letOwnedTupleGo tg (.ref it) u) Q E s:=by
 unfold letOwnedTupleGo;cases tg<;>first
  |exact QQ a
  |(cases u<;>first
    |exact QQ a
    |(refine QE (acs b ?_)
      rw[e,hd];show wpAny M A (if(["enumerate","zip","dict_itemiterator","dict_reverseitemiterator","odict_iterator","itertools.zip_longest","itertools.pairwise"].contains n&&vs[0]? ==QB (rawInt _))=QG then _ else _) Q E s;rw[if_neg (by intro h;rw[hn,Va] at h;cases h)];exact QQ a))
noncomputable def PB (K:QC) (a:QI):It:=
 ⟨fun i H=>∃xs x,VD K H a xs/\xs[i]? =QB x,fun i H x H'=>H'=H/\∀xs,VD K H a xs->xs[i]? =QB x,fun i H=>∃xs,VD K H a xs/\xs.length<=i⟩
noncomputable def Pz (K:QC) (a:QI):It:=
 ⟨fun i H=>∃xs x,Vx K H a xs/\xs[i]? =QB x,fun i H x H'=>H'=H/\∀xs,Vx K H a xs->xs[i]? =QB x,fun i H=>∃xs,Vx K H a xs/\xs.length<=i⟩
noncomputable def Pf (lo:Int) (n:Nat):It:=⟨fun i _=>i<n,fun i H x H'=>H'=H/\x= .int (lo+i),fun i _=>n<=i⟩
theorem CU {K:QC} (a it:QI):Turn P w K tg (PB K a) [it] it (fun i h=>h.IsListIter it a i) where
 mem:=by simp
 obj:=fun i h st b f=>by
  have e:b=it:=by simpa using f
  subst e;obtain⟨o,e,c,d⟩:=st;exact⟨o,e,fun v z=>by rw[d] at z;cases z⟩
 keep:=fun i h h' st k=>st.at fun o e=>k it (by simp) o e
 item:=by intro X r n t G i pins s σ H E I l st q;subst r n t;obtain⟨xs,x,j,m⟩:=q;obtain⟨RE,rv,p,M⟩:=I.list j;obtain⟨u,O,L⟩:=rv.get m;obtain⟨F,C,Q,B,A,y⟩:=l it (by simp);refine wpAny_pyNext_list_item st p.isList (by simpa using O) fun h' g J=> ?_;have S:=I.turned (t':=s.toks) (fun b o f e=>(J.2 b f).trans e) F C B A y;obtain⟨o,e,c,d⟩:=id g;exact⟨u,rfl,Fa e c d (by decide) ⟨x,H,S,L,⟨rfl,fun ys N=>by rw[I.abe N j];exact m⟩,g,fun b f=>(l b f).1⟩⟩
 done:=by intro X r n t G i pins s σ H E I l st q;subst r n t;obtain⟨xs,j,m⟩:=q;obtain⟨RE,rv,p,M⟩:=I.list j;obtain⟨F,C,Q,B,A,y⟩:=l it (by simp);have T:=rv.length;exact wpAny_pyNext_list_end (I.ok.hd G) st p.isList (by simp;omega) fun h' R=>⟨rfl,I.turned (fun b o f e=>R b o f e) F C B A y⟩
 self:=fun _ _ _ _ _ st h=>wpAny_pyIter_listiter st h
theorem zk {K:QC} (a it:QI):Turn P w K tg (Pz K a) [it] it (fun i h=>h.IsTupleIter it a i) where
 mem:=by simp
 obj:=fun i h st b f=>by
  have e:b=it:=by simpa using f
  subst e;obtain⟨o,e,c,d⟩:=st;exact⟨o,e,fun v z=>by rw[d] at z;cases z⟩
 keep:=fun i h h' st k=>st.at fun o e=>k it (by simp) o e
 item:=by intro X r n t G i pins s σ H E I l st q;subst r n t;obtain⟨xs,x,j,m⟩:=q;obtain⟨RE,rv,p,M⟩:=I.tuple j;obtain⟨u,O,L⟩:=rv.get m;obtain⟨F,C,Q,B,A,y⟩:=l it (by simp);refine wpAny_pyNext_tuple_item st (show s.heap.IsTuple a RE.toArray from p) (by simpa using O) fun h' g J=> ?_;have S:=I.turned (t':=s.toks) (fun b o f e=>(J.2 b f).trans e) F C B A y;obtain⟨o,e,c,d⟩:=id g;exact⟨u,rfl,Fa e c d (by decide) ⟨x,H,S,L,⟨rfl,fun ys N=>by rw[I.aai N j];exact m⟩,g,fun b f=>(l b f).1⟩⟩
 done:=by intro X r n t G i pins s σ H E I l st q;subst r n t;obtain⟨xs,j,m⟩:=q;obtain⟨RE,rv,p,M⟩:=I.tuple j;obtain⟨F,C,Q,B,A,y⟩:=l it (by simp);have T:=rv.length;exact wpAny_pyNext_tuple_end (I.ok.hd G) st (show s.heap.IsTuple a RE.toArray from p) (by simp;omega) fun h' R=>⟨rfl,I.turned (fun b o f e=>R b o f e) F C B A y⟩
 self:=fun _ _ _ _ _ st h=>wpAny_pyIter_tupleiter st h
theorem zj {K:QC} (it:QI) (lo:Int) (n:Nat):Turn P w K tg (Pf lo n) [it] it (fun i h=>IsRangeIter h it (lo+(i:Nat)*1) ((n:Int) - (i:Nat)) 1) where
 mem:=by simp
 obj:=fun i h st b a=>by
  have e:b=it:=by simpa using a
  subst e;exact⟨_,st,fun v z=>by have C:=z;cases C⟩
 keep:=fun i h h' st k=>k it (by simp) _ st
 item:=by intro X p j q m i pins s σ H E I g st l;subst p j q;obtain⟨B,A,J,y,u,r⟩:=g it (by simp);have W:=Walks.range (prog:=X.prog) (w:=X.w) (I.ok.hd m) it lo 1 n;refine W.item i s _ _ l st fun v h' tk G f F=> ?_;obtain⟨t,rfl⟩:=G;have M:Inv X pins σ H {s with heap:=h',toks:=tk}:=I.turned (fun b o a e=>F b o (by simpa using a) e) B A y u r;refine⟨_,rfl,Fa f rfl rfl (by decide) ⟨.int (lo+i),H,M,⟨t,?_⟩,⟨rfl,rfl⟩,f,fun b a=>(g b a).1⟩⟩;rw[Int.mul_one]
 done:=by intro X p j q m i pins s σ H E I g st l;subst p j q;obtain⟨B,A,J,y,u,r⟩:=g it (by simp);exact wpAny_pyNext_range_end (I.ok.hd m) st (by have:n<=i:=l;omega) fun h' L=>⟨rfl,I.turned (fun b o a e=>L b o a e) B A y u r⟩
 self:=fun _ _ _ _ _ st h=>wpAny_pyIter_rangeiter st h
section
variable {X:Cx} {tg:RN}
theorem Ex {pins:List (QI×Obj)} {σ:St} {H:Hp} {s:QL} {R:It->Hp->Prop} {E:QD->QL->Prop} {lo hi:Int} {t u v:Tok} {tk:Nat} (I:Inv X pins σ H s) (h1: -(2^62)<=lo) (h2:lo<2^62) (h: -(2^62)<=hi) (g:hi<2^62)
  (q:R (Pf lo (hi - lo).toNat) H):wpAny (model X.prog X.w) X.A (pyIter (.ref s.heap.objs.size)) (Qk X pins σ tg R) E {s with heap:=s.heap.push {cls:= .type "range",data:= .fields #[.int lo t,.int hi u,.int 1 v]},toks:=tk}:=by
 refine wpAny_pyIter_range (IsRange.new ..) (small_one h1 h2 h g) ?_;have a:Inv X pins σ H {s with heap:=s.heap.push {cls:= .type "range",data:= .fields #[.int lo t,.int hi u,.int 1 v]},toks:=tk}:=I.kept fun b o e=>Heap.get?_push_of_some _ e;refine⟨(s.heap.push {cls:= .type "range",data:= .fields #[.int lo t,.int hi u,.int 1 v]}).objs.size,[(s.heap.push {cls:= .type "range",data:= .fields #[.int lo t,.int hi u,.int 1 v]}).objs.size],_,_,H,rfl,
  a.kept (t':=tk) fun b o e=>Heap.get?_push_of_some _ e,zj _ lo (hi - lo).toNat,?_,fun b f=> ?_,q⟩
 ·have j:lo+((0:Nat):Int)*1=lo:=by simp
  have i:(((hi - lo).toNat:Nat):Int) - ((0:Nat):Int)=RY.Range.rangeSize lo hi 1:=by rw[rangeSize_one];split<;>omega
  show IsRangeIter _ _ (lo+((0:Nat):Int)*1) ((((hi - lo).toNat:Nat):Int) - ((0:Nat):Int)) 1;rw[j,i];exact Heap.get?_push_size _ rfl
 ·have e:b=(s.heap.push {cls:= .type "range",data:= .fields #[.int lo t,.int hi u,.int 1 v]}).objs.size:=by simpa using f
  subst e;exact a.Yn (QS _) (a.Sa.fresh (QS _))
def K8 (ta:TA):TI:=fun σ H R=>ta σ H fun vs H1=>∃j:Int,vs=[.int j]/\ -(2^62)<=j/\j<2^62/\R (Pf 0 j.toNat) H1
theorem fG (g:Gl X "range") (hm:X.mg "range"=QF) (ha:PA X [a] ta) (f:Q9 [a] X.env=[(QN,eval a X.env)]:=by rfl):PI X tg (.Call (.Name "range" p) [a] [] pos) (K8 ta):=by
 intro pins s σ H R I h;refine Call_ (nU I g hm boot_range (UA (cG (ha pos pins s σ H _ I h) fun us s1 ⟨vs,H1,i,r1,q1⟩=> ?_) f rfl));obtain⟨j,e,q1,b,q⟩:=q1;subst e;cases r1 with
 |cons r rr=>cases rr;obtain⟨t,rfl⟩:=r;exact call_range_1 (Ex i (by omega) (by omega) q1 b (by simpa using q))
def MR (b:TI) (g:TG) (tb:TS):TS:=fun D σ H=>b σ H fun J H1=>∃W:Nat->Nat->St->Hp->Prop,(∃m,W 0 m σ H1)/\∀i m σ H,W i m σ H->
 (J.stop i H/\D.nx σ H)\/(J.go i H/\∃N:St->Hp->Prop,(∀σ' H',N σ' H'->∃m',m'<m/\W (i+1) m' σ' H')/\∀x H',J.yld i H x H'->g x σ H' fun a H2=>tb {D with nx:=N,ct:=N,bk:=D.nx} a H2)
noncomputable def qI (fp:List QI) (h:Heap):List (QI×Obj):=fp.filterMap fun b=>(h.get? b).map fun o=>(b,o)
theorem jh (a:b∈fp) (e:h.get? b=QB o):(b,o)∈qI fp h:=Vb.mpr ⟨b,a,by rw[e];rfl⟩
theorem CK (hp:p∈qI fp h):p.1∈fp/\h.get? p.1=QB p.2:=by
 obtain⟨b,a,e⟩:=Vb.mp hp;cases q:h.get? b with
 |none=>rw[q] at e;cases e
 |some o=>rw[q] at e;have f:=QX e;subst f;exact⟨a,q⟩
theorem Inv.pinned (I:Inv X pins σ H s) (h:∀b∈fp,oi X pins H b) (g:∀b∈fp,∃o,s.heap.get? b=QB o/\∀v,o.data≠ .cell v):Inv X (pins++qI fp s.heap) σ H s:=
 I.Ym fun p hp=>(R9.mp hp).elim (fun z=>I.pin p (RT _ z)) fun z=>by obtain⟨a,e⟩:=CK z;obtain⟨l,j,i,_⟩:=h p.1 a;obtain⟨o,f,d⟩:=g p.1 a;rw[e] at f;cases f;exact⟨e,l,j,i,d⟩
theorem Inv.WX (I:Inv X (pins++pl) σ H s):Inv X pins σ H s:=I.Ym fun p hp=>I.pin p (RT _ (UQ _ hp))
theorem vJ (hp:We (model X.prog X.w) X.A X.env X.xe) (U:X.calm=QG) (hi:PI X tg iter wi) (hg:PG X tg g) (l:Xg X body tb)
  (hs:∀x,foldedSetIterable iter X.env x=pure x:=by intro _;rfl):PS X (.For tg iter body [] pos) (MR wi g tb):=by
 intro pins s σ H D I h;refine wpAny_For (cG (hi pins s σ H _ I h) fun v s1 h1=>cG h1 fun itv s2 h2=> ?_) hs;obtain⟨it,fp,tn,J,H2,e,I2,T,L,Y,W,⟨m0,w0⟩,turn⟩:=h2;subst e;have B:∀{H':Hp},(∀b∈fp,H' b=QF)->∀b∈fp,oi X pins H' b:=fun hn b l=>⟨hn b l,(Y b l).2⟩;refine codeAny_forLoop_any (fun n s'=>∃i σ' H',Inv X pins σ' H' s'/\tn i s'.heap/\(∀b∈fp,H' b=QF)/\W i n σ' H') ?_ m0 ⟨0,σ,H2,I2,L,fun b l=>(Y b l).1,w0⟩;rintro n S ⟨i,j,G,Z,C,F,w3⟩;rcases turn i n j G w3 with⟨stop,qn⟩|⟨go,N,hN,step⟩
 ·refine TX hp (cG (T.done X rfl rfl rfl U i pins S j G X.xe Z (B F) C stop) fun r s4 ⟨O,I4⟩=> ?_);subst O;exact Us ⟨j,G,I4,qn⟩
 ·refine TX hp (cG (T.item X rfl rfl rfl U i pins S j G X.xe Z (B F) C go) fun r s4 ⟨u,O,h4⟩=> ?_)
  subst O;refine TX hp (cG h4 fun _ R ⟨x,H5,I5,r5,y5,z,P⟩=> ?_);have Q:=I5.pinned (B P) (T.obj _ _ z);refine TX hp (cG (hg _ R j H5 x u _ Q r5 (step x H5 y5)) fun _ s6 ⟨K,H6,I6,q6⟩=> ?_);refine TX hp (cG (l _ s6 K H6 _ I6 q6) fun f M y=> ?_);have p:∀{a:St} {t:Hp},Inv X (pins++qI fp R.heap) a t M->N a t->∃m,m<n/\∃i σ' H',Inv X pins σ' H' M/\tn i M.heap/\(∀b∈fp,H' b=QF)/\W i m σ' H':=fun{a t} q E=>by obtain⟨m',hm,w7⟩:=hN a t E;refine⟨m',hm,i+1,a,t,q.WX,T.keep _ _ _ z fun b l o e=>(q.pin (b,o) (RT _ (RT _ (jh l e)))).1,fun b l=> ?_,w7⟩;obtain⟨o,e,d⟩:=T.obj _ _ z b l;exact(q.pin (b,o) (RT _ (RT _ (jh l e)))).2.1
  cases f with
  |next=>obtain⟨a,t,q,E⟩:=y;exact p q E
  |cont=>obtain⟨a,t,q,E⟩:=y;exact p q E
  |brk=>obtain⟨a,t,q,y⟩:=y;exact⟨a,t,q.WX,y⟩
  |ret v=>obtain⟨x7,a,t,q,r7,y⟩:=y;exact⟨x7,a,t,q.WX,r7,y⟩
end
abbrev R2:=V->V->Hp->VK->Prop
def OpR (X:Cx) (f:QD->QD->Sem QD) (r:R2):Prop:=
 ∀(pins:List (QI×Obj)) (s:QL) (σ:St) (H:Hp) (x y:V) (v u:QD) (Q:VK),Inv X pins σ H s->RelV x v->RelV y u->r x y H Q->
  wpAny (model X.prog X.w) X.A (f v u) (EP X pins σ Q) X.xe s
def T4 (X:Cx) (f:QD) (r:List V->Hp->VK->Prop):Prop:=
 ∀(pins:List (QI×Obj)) (s:QL) (σ:St) (H:Hp) (xs:List V) (us:List QD) (Q:VK),Inv X pins σ H s->Vals xs us->r xs H Q->
  wpAny (model X.prog X.w) X.A (call f us) (EP X pins σ Q) X.xe s
def KS (r:R2) (ta tb:TE):TE:=fun σ H Q=>ta σ H fun x H1=>tb σ H1 fun y H2=>r x y H2 Q
def rI (C:Int->Int->Prop) (g:Int->Int->V):R2:=fun x y H Q=>∃i j,x= .int i/\y= .int j/\C i j/\Q (g i j) H
def yx (g:Int->Int->V):R2:=fun x y H Q=>∃i j,x= .int i/\y= .int j/\Q (g i j) H
section
variable {X:Cx} {a b c:RN} {ta tb tc:TE} {pos:Pos}
theorem ME (ha:PE X a ta) (j:PE X b tb) {R:V->V->Hp->Prop} (I:Inv X pins σ H s)
  (h:ta σ H fun x H1=>tb σ H1 fun y H2=>R x y H2) {f:QD->QD->Sem QD}
  (i:∀v u s2 x y H2,Inv X pins σ H2 s2->RelV x v->RelV y u->R x y H2->wpAny (model X.prog X.w) X.A (f v u) Q X.xe s2):
  wpAny (model X.prog X.w) X.A (eval a X.env) (fun v s₁=>wpAny (model X.prog X.w) X.A (eval b X.env) (fun u s₂=>wpAny (model X.prog X.w) X.A (f v u) Q X.xe s₂) X.xe s₁) X.xe s:=by
 refine cG (ha pins s σ H _ I h) fun v s1 ⟨x,H1,m,r1,q1⟩=> ?_;refine cG (j pins s1 σ H1 _ m q1) fun u s2 ⟨y,H2,l,e,g⟩=> ?_;exact i v u s2 x y H2 l r1 e g
theorem lm (g:OpR X (S0 op) r) (ha:PE X a ta) (i:PE X b tb):PE X (.BinOp a op b pos) (KS r ta tb):=by intro pins s σ H Q I h;exact wpAny_BinOp (ME ha i I h fun v u s2 x y H2 j f e q=>g pins s2 σ H2 x y v u Q j f e q)
theorem N6 {g:Int->Int->Int}
  (a:∀(i j:Int) (t u:Tok) (s:QL) (Q:QD->QL->Prop) (E:QD->QL->Prop),C i j->Q (.int (g i j) s.toks) {s with toks:=s.toks+1}->wpAny (model X.prog X.w) X.A (f (.int i t) (.int j u)) Q E s):
  OpR X f (rI C fun i j=> .int (g i j)):=by
 intro pins s σ H x y v u Q I l e h;obtain⟨i,j,rfl,rfl,m,q⟩:=h;obtain⟨t,rfl⟩:=l;obtain⟨b,rfl⟩:=e;exact a i j t b s _ _ m ⟨.int (g i j),H,I.tok _,⟨_,rfl⟩,q⟩
theorem Mj {g:Int->Int->Int}
  (a:∀(i j:Int) (t u:Tok) (s:QL) (Q:QD->QL->Prop) (E:QD->QL->Prop),Q (.int (g i j) s.toks) {s with toks:=s.toks+1}->wpAny (model X.prog X.w) X.A (f (.int i t) (.int j u)) Q E s):
  OpR X f (yx fun i j=> .int (g i j)):=by
 intro pins s σ H x y v u Q I l e h;obtain⟨i,j,rfl,rfl,q⟩:=h;obtain⟨t,rfl⟩:=l;obtain⟨b,rfl⟩:=e;exact a i j t b s _ _ ⟨.int (g i j),H,I.tok _,⟨_,rfl⟩,q⟩
theorem Nk {g:Int->Int->Bool}
  (a:∀(i j:Int) (t u:Tok) (s:QL) (Q:QD->QL->Prop) (E:QD->QL->Prop),Q (.bool (g i j)) s->wpAny (model X.prog X.w) X.A (f (.int i t) (.int j u)) Q E s):
  OpR X f (yx fun i j=> .bl (g i j)):=by
 intro pins s σ H x y v u Q I l e h;obtain⟨i,j,rfl,rfl,q⟩:=h;obtain⟨t,rfl⟩:=l;obtain⟨b,rfl⟩:=e;exact a i j t b s _ _ ⟨.bl (g i j),H,I,rfl,q⟩
def Hi (i j:Int):Prop:=0<=j/\j<=1000000/\i.natAbs<2^64
def abK (i j:Int):Prop:=(-(2^64)<i/\i<2^64)\/(-(2^64)<j/\j<2^64)
theorem abK.ok (h:abK i j):IntMulOk i j:=by
 rcases h with⟨h1,h2⟩|⟨h1,h2⟩
 ·exact .of_left (ahP h1 h2)
 ·exact .of_right (ahP h1 h2)
theorem two_pow_nn (k:Nat):(0:Int)<=2^k:=by rw[two_pow_cast];exact Int.natCast_nonneg _
theorem Nl:OpR X (S0 .Add) (yx fun i j=> .int (i+j)):=Mj fun _ _ _ _ _ _ _ q=>add_int q
theorem FY:OpR X (S0 .Sub) (yx fun i j=> .int (i - j)):=Mj fun _ _ _ _ _ _ _ q=>sub_int q
theorem Mb:OpR X (S0 .Mult) (rI abK fun i j=> .int (i*j)):=N6 fun _ _ _ _ _ _ _ a q=>mul_int q a.ok
theorem LI:OpR X (S0 .Mod) (rI (fun _ j=>0<j) fun i j=> .int (i % j)):=N6 fun i j _ _ _ _ _ a q=>by have h1:(0:Int)<j:=a;exact mod_int' (by omega) (by rw[Int.fmod_eq_emod_of_nonneg i (by omega)];exact q)
theorem Mr:OpR X (S0 .Pow) (rI Hi fun i j=> .int (i^j.toNat)):=N6 fun _ _ _ _ _ _ _ a q=>pow_int_small a.1 a.2.1 a.2.2 q
theorem Hd:OpR X (S0 .LShift) (rI Hi fun i j=> .int (i*2^j.toNat)):=N6 fun _ _ _ _ _ _ _ a q=>lshift_int_small a.1 a.2.1 a.2.2 q
theorem F8:OpR X (S0 .RShift) (rI (fun _ j=>0<=j) fun i j=> .int (i/2^j.toNat)):=N6 fun i j _ _ _ _ _ a q=>
 rshift_int a (by rw[Yg i (two_pow_nn _)];exact q)
theorem Dy:OpR X (S0 .BitAnd) (yx fun i j=> .int (RY.bitAnd i j)):=Mj fun _ _ _ _ _ _ _ q=>and_int q
end
noncomputable def zr:V->V->Bool
 | .Te,.Te=>QG| .Te,.int _=>QG| .int _,.Te=>QG| .Te,.bl _=>QG| .bl _,.Te=>QG| .Te,.str _=>QG| .str _,.Te=>QG
 | .int _,.int _=>QG| .bl _,.bl _=>QG| .str _,.str _=>QG| .byt _,.byt _=>QG
 | .int _,.str _=>QG| .str _,.int _=>QG| .bl _,.str _=>QG| .str _,.bl _=>QG
 |_,_=>QN
def Qi:R2:=fun x y H Q=>zr x y=QG/\Q (.bl (decide (x=y))) H
theorem JR:decide (V.int i=V.int j)=(i==j):=by rw[Ug];simp
theorem Mc:decide (V.bl i=V.bl j)=(i==j):=by rw[Ug];simp
theorem Io:decide (V.str i=V.str j)=(i==j):=by rw[Ug];simp
theorem Kn:decide (V.byt i=V.byt j)=(i.toList==j.toList):=by rw[Ug];cases i;cases j;simp
section
variable {X:Cx} {a b c:RN} {ta tb tc:TE} {pos:Pos}
theorem dR (I:Inv X pins σ H s) (q:Q (.bl k) H) (e:k=k'):EP X pins σ Q (.bool k') s:=by subst e;exact⟨.bl k,H,I,rfl,q⟩
theorem Ot:OpR X (S3 .Eq) Qi:=by
 intro pins s σ H x y v u Q I f a h;obtain⟨e,q⟩:=h;cases x with
 |Te=>
  cases f;cases y with
  |Te=>cases a;exact aeP (dR I q (by simp))
  |bl j=>cases a;exact aeQ (dR I q (by simp))
  |int j=>obtain⟨b,rfl⟩:=a;exact aeR (dR I q (by simp))
  |str j=>obtain⟨b,rfl⟩:=a;exact aeS (dR I q (by simp))
  |_=>exact absurd (show QN=QG from e) QV
 |bl i=>
  cases f;cases y with
  |Te=>cases a;exact aeT (dR I q (by simp))
  |bl j=>cases a;exact eq_bool (dR I q Mc)
  |str j=>obtain⟨b,rfl⟩:=a;exact adL (dR I q (by simp))
  |_=>exact absurd (show QN=QG from e) QV
 |int i=>
  obtain⟨t,rfl⟩:=f;cases y with
  |Te=>cases a;exact aeU (dR I q (by simp))
  |int j=>obtain⟨b,rfl⟩:=a;exact eq_int (dR I q JR)
  |str j=>obtain⟨b,rfl⟩:=a;exact adM (dR I q (by simp))
  |_=>exact absurd (show QN=QG from e) QV
 |str i=>
  obtain⟨t,rfl⟩:=f;cases y with
  |Te=>cases a;exact aeV (dR I q (by simp))
  |bl j=>cases a;exact adN (dR I q (by simp))
  |int j=>obtain⟨b,rfl⟩:=a;exact adO (dR I q (by simp))
  |str j=>obtain⟨b,rfl⟩:=a;exact eq_str (dR I q Io)
  |_=>exact absurd (show QN=QG from e) QV
 |byt i=>
  obtain⟨t,rfl⟩:=f;cases y with
  |byt j=>obtain⟨b,rfl⟩:=a;exact PySem.W.eq_bytes (dR I q Kn)
  |_=>exact absurd (show QN=QG from e) QV
 |_=>cases y<;>exact absurd (show QN=QG from e) QV
theorem E8:OpR X (S3 .Lt) (yx fun i j=> .bl (decide (i<j))):=Nk fun _ _ _ _ _ _ _ q=>lt_int q
theorem GP:OpR X (S3 .Gt) (yx fun i j=> .bl (decide (j<i))):=Nk fun _ _ _ _ _ _ _ q=>gt_int q
theorem Ll:OpR X (S3 .GtE) (yx fun i j=> .bl (decide (j<=i))):=Nk fun _ _ _ _ _ _ _ q=>ge_int q
theorem Nx:OpR X (S3 .Is) (fun x y H Q=>y= .Te/\Q (.bl (decide (x= .Te))) H):=by
 intro pins s σ H x y v u Q I a b h;obtain⟨rfl,q⟩:=h;cases b;refine is_none_gen (dR I q ?_);cases x<;>first
  |(cases a;rfl)
  |(obtain⟨t,rfl⟩:=a;rfl)
theorem vD:OpR X (S3 .IsNot) (fun x y H Q=>y= .Te/\Q (.bl (!decide (x= .Te))) H):=by
 intro pins s σ H x y v u Q I a b h;obtain⟨rfl,q⟩:=h;cases b;refine isnot_none_gen (dR I q ?_);cases x<;>first
  |(cases a;rfl)
  |(obtain⟨t,rfl⟩:=a;rfl)
theorem eZ (b:RN) (h:op≠ .In:=by decide) (h2:op≠ .NotIn:=by decide):behindInMarks op b=QN:=by
 have e:(op==CmpOp.In)=QN:=by cases op<;>first|rfl|exact absurd rfl h
 have a:(op==CmpOp.NotIn)=QN:=by cases op<;>first|rfl|exact absurd rfl h2
 cases b<;>simp[behindInMarks,e,a]
theorem fR {e:CmpOp} {r:R2} (i:OpR X (S3 e) r) (ha:PE X a ta) (j:PE X b tb) (hm:behindInMarks e b=QN):PE X (.Compare a [e] [b] pos) (KS r ta tb):=by intro pins s σ H Q I h;exact wpAny_Compare1 (ME ha j I h fun v u s2 x y H2 l g f q=>i pins s2 σ H2 x y v u Q l g f q) hm
def GY (t:TE):TT:=fun σ H Q=>t σ H fun x H'=>∃k,x= .bl k/\Q k H'
theorem gI (l:OpR X (S3 op) r) (ha:PE X a ta) (m:PE X b tb) (hm:behindInMarks op b=QN):PT X (.Compare a [op] [b] pos) (GY (KS r ta tb)):=by
 intro pins s σ H Q I h;refine abi (cG (ha pins s σ H _ I h) fun v s1 ⟨x,H1,p,r1,q1⟩=>cG (m pins s1 σ H1 _ p q1) fun u s2 ⟨y,H2,o,g,j⟩=>
  cG (l pins s2 σ H2 x y v u _ o r1 g j) fun c t ⟨z,q,n,f,k,e,i⟩=> ?_) hm
 subst e;cases f;exact Tj ⟨q,n,i⟩
theorem u6:(QU:Nat)<2^63:=by rw[Tn];decide
theorem lz (r:Vals [x] us):∃u,us=[u]/\RelV x u:=by
 cases r with
 |cons r1 r2=>cases r2;exact⟨_,rfl,r1⟩
theorem oB (r:Vals [x,y] us):∃u w',us=[u,w']/\RelV x u/\RelV y w':=by
 cases r with
 |cons r1 r2=>
  cases r2 with
  |cons r3 r4=>cases r4;exact⟨_,_,rfl,r1,r3⟩
theorem CL (a:X.calm=QG):T4 X (.builtin "max") (fun xs H Q=>∃i j,xs=[.int i,.int j]/\Q (.int (if j>i then j else i)) H):=by
 intro pins s σ H xs us Q I r h;obtain⟨i,j,rfl,q⟩:=h;obtain⟨u,b,rfl,⟨t,rfl⟩,⟨e,rfl⟩⟩:=oB r;refine max_two_ints (I.ok.hd a) fun h' tk k=>⟨_,H,I.kept k,?_,q⟩;by_cases hj:j>i
 ·rw[if_pos hj,if_pos hj];exact⟨_,rfl⟩
 ·rw[if_neg hj,if_neg hj];exact⟨_,rfl⟩
def OM (K:QC) (x:V) (H:Hp) (n:Nat):Prop:=
 match x with
 | .str y=>y.length<=QU/\n=y.length
 | .byt y=>y.size<=QU/\n=y.size
 | .ref p=>(∃xs,VD K H p xs/\n=xs.length)\/∃xs,Vx K H p xs/\n=xs.length
 |_=>False
theorem dc:T4 X (.builtin "len") (fun xs H Q=>∃x n,xs=[x]/\OM X.K x H n/\Q (.int n) H):=by
 intro pins s σ H xs us Q I r h;obtain⟨x,n,rfl,e,q⟩:=h;obtain⟨u,rfl,f⟩:=lz r;have l:=u6;have j:=Tn;cases x with
 |str y=>obtain⟨t,rfl⟩:=f;obtain⟨i,b⟩:=e;subst b;exact len_str (by omega) ⟨.int _,H,I.tok _,⟨_,rfl⟩,q⟩
 |byt y=>obtain⟨t,rfl⟩:=f;obtain⟨i,b⟩:=e;subst b;exact PySem.W.len_bytes (by omega) ⟨.int _,H,I.tok _,⟨_,rfl⟩,q⟩
 |ref p=>
  cases f;have b:=e;rcases b with⟨xs,hx,b⟩|⟨xs,hx,b⟩
  ·subst b;obtain⟨RE,r',pl,g⟩:=I.list hx;have a:=r'.length;exact Calls.call_len_list pl.isList (by simp only[Q1];omega) ⟨.int xs.length,H,I.tok _,⟨_,by simp only[Q1];rw[a]⟩,q⟩
  ·subst b;obtain⟨RE,r',pl,g⟩:=I.tuple hx;have a:=r'.length;exact len_tuple pl (by simp only[Q1];omega) ⟨.int xs.length,H,I.tok _,⟨_,by simp only[Q1];rw[a]⟩,q⟩
 |_=>exact(show False from e).elim
end
structure Zv (h:Heap) (x dx C:QI) (mA:Str->Option QD):Prop where
 obj:h.get? x=QB (S1 C dx)
 ns:h.Ns1 dx mA
 ne:dx≠x
theorem ub {h:Heap} (n:h.Ns1 dx mA):∃od,h.get? dx=QB od/\∀name,VR name od=QB (mA name):=by
 obtain⟨o,es,l,g,hd,i,_,hm⟩:=n;refine⟨o,g,fun name=> ?_⟩;have e:=hm name;unfold nsFind findBy at e;rw[<-Z7] at e;unfold VR;rw[hd];dsimp only;split
 ·rename_i y q;rw[q] at e;exact congrArg QB e
 ·rename_i q
  rw[q] at e;have a:es.toList.any (·.refKey)=QN:=by rw[List.any_eq_false];intro y f;obtain⟨z,t,b⟩:=i y (Array.mem_toList_iff.mp f);simp[UB.refKey,b]
  have j:¬es.toList.any (·.refKey)=QG:=by rw[a];exact QV
  rw[if_neg j];exact congrArg QB e
theorem Zv.look (I:Zv h x dx C mA):∃od,TN h x (S1 C dx) C (QB od)/\∀name,VR name od=QB (mA name):=
 let⟨od,ho,hl⟩:=ub I.ns
 ⟨od,⟨I.obj,rfl,rfl,ho⟩,hl⟩
section
variable {prog:Q7} {w:Rv} {A:Rp} {E:QD->QL->Prop} {s:QL} {K:QC} {x dx C f:QI} {mA:Str->Option QD} {name:Str} {v:QD}
theorem Jw (X:K.In s.heap) (I:Zv s.heap x dx C mA) (g:Ux K C name=QG) (f:TH K C=QG)
  (ha:Rr K (.ref C) name=QB QF) (b:mA name=QB v) (a:Z8 v=QG) (h:Q v {s with toks:=s.toks+1}):
  wpAny (model prog w) A (getAttr (.ref x) name expr) Q E s:=by
 obtain⟨od,J,e⟩:=I.look;exact PySem.W.get_value X J (Wf g).1 (PySem.W.findObj_own f ha rfl (by rw[e,b])) a h
theorem G8 (X:K.In s.heap) (I:Zv s.heap x dx C mA) (a:Ux K C name=QG)
  (i:Rr K (.ref C) name=QB (QB (.ref f))) (e:TY K (.ref f)=QG) (b:mA name=QF) (h:Q (.ref f,[.ref x]) s):
  wpAny (model prog w) A (getMethod (.ref x) name pl) Q E s:=by
 obtain⟨od,J,g⟩:=I.look;exact PySem.W.method_fn X J (Wf a).1 (Wf a).2 i (beq_iff_eq.mp e) (by show(VR name od).map (·.isSome)=QB QN;rw[g,b];rfl) h
theorem JY (X:K.In s.heap) (I:Zv s.heap x dx C mA)
  (o:Rr K (.ref C) "__setattr__"=QB (QB (.builtin "object.__setattr__"))) (hp:WE K C=QG) (n:Xo K C name=QB QF) (p:TH K C=QG)
  (m:YK mA ns) (hsz:ns.length<=QU)
  (h:∀h',Zv h' x dx C (fun y=>if y=name then QB v else mA y)->Heap.SameBut dx s.heap h'->Q () {s with heap:=h',toks:=s.toks+2}):
  wpAny (model prog w) A (setAttr (.ref x) name v) Q E s:=by
 obtain⟨od,J,z⟩:=I.look;refine PySem.W.set_plain X J o (PySem.W.osa_open X J hp n fun b=> ?_);obtain⟨cd,q,g⟩:=PySem.W.any_some p;have l:=I.obj;refine QE (QQ (QE (QE (Zh l (QE (adP (PySem.W.looks_clsIn X q) ?_))))));rw[g];refine QQ (QE (QQ (QE ?_)));refine wpAny_nsSet1 I.ns fun h' a j=> ?_;obtain⟨u,r,t,e,f,i⟩:=a.count (aeW name v m);refine QE (adQ e (by rw[f];exact adR (Rx i (by rw[Q0];omega))) ?_);exact QQ (h _ ⟨(j.2 _ (Ne.symm I.ne)).trans I.obj,a,I.ne⟩ j)
theorem Ep {R:Yh->QL->Prop} {vs:List QD} {a:List (Str×QD)} (X:K.In s.heap) (hm:Xp K C=QG)
  (hi:Rr K (.ref C) "__init__"=QB (QB (.ref f))) (b:Th K (.ref f)=QB (.type "function"))
  (h:codeAny (model prog w) (A.under (.builtin "type.__call__" ⟨.ref C::vs,a⟩)) (.call (.ref f) ⟨.ref (s.heap.objs.size+1)::vs,a⟩) (PySem.W.InitBack (s.heap.objs.size+1) R)
   {s with heap:=(s.heap.push Sm).push (S1 C s.heap.objs.size)}):
  codeAny (model prog w) A (.call (.ref C) ⟨vs,a⟩) R s:=by
 obtain⟨e,g,d,t,os⟩:=s;exact PySem.W.make_core (PySem.W.makes_of X hm) (PySem.W.looks_findIn X hi) (fun self=>PySem.W.bind_fn X self b) (.inl rfl) h
end
noncomputable def iw (f:Str) (v:V):List (Str×V)->List (Str×V)
 |[]=>[(f,v)]
 |(g,x)::r=>if g=f then(g,v)::r else(g,x)::iw f v r
theorem oE (f g:Str) (v:V):∀fs:List (Str×V),(iw f v fs).lookup g=if g=f then QB v else fs.lookup g
 |[]=>by
  show TB g [(f,v)]=_;by_cases h:g=f
  ·have a:=beq_iff_eq.mpr h;simp only[TB,a,if_pos h]
  ·have a:=beq_eq_false_iff_ne.mpr h;simp only[TB,a,if_neg h]
 |(k,x)::r=>by
  have b:=oE f g v r;rw[show iw f v ((k,x)::r)=(if k=f then(k,v)::r else(k,x)::iw f v r) from rfl];by_cases hk:k=f
  ·rw[if_pos hk]
   by_cases h:g=k
   ·have a:=beq_iff_eq.mpr h;simp only[TB,a,if_pos (h.trans hk)]
   ·have a:=beq_eq_false_iff_ne.mpr h;simp only[TB,a,if_neg (fun e:g=f=>h (e.trans hk.symm))]
  ·rw[if_neg hk]
   by_cases h:g=k
   ·have a:=beq_iff_eq.mpr h;simp only[TB,a,if_neg (fun e:g=f=>hk (h.symm.trans e))]
   ·have a:=beq_eq_false_iff_ne.mpr h;simp only[TB,a];exact b
theorem nV (f:Str) (v:V):∀fs:List (Str×V),f∈(iw f v fs).map (·.1)/\∀g,g∈fs.map (·.1)->g∈(iw f v fs).map (·.1)
 |[]=>⟨by simp[iw],fun g h=>by simp at h⟩
 |(k,x)::r=>by
  obtain⟨i1,i2⟩:=nV f v r;rw[show iw f v ((k,x)::r)=(if k=f then(k,v)::r else(k,x)::iw f v r) from rfl];by_cases hk:k=f
  ·rw[if_pos hk];subst hk;exact⟨by simp,fun g h=>by simpa using h⟩
  ·rw[if_neg hk]
   refine⟨?_,fun g h=> ?_⟩
   ·rw[QY];exact Q4 _ i1
   ·rw[QY] at h⊢
    rcases Rk.mp h with e|e
    ·exact Rk.mpr (.inl e)
    ·exact Q4 _ (i2 g e)
theorem oA (f:Str) (v:V):∀fs:List (Str×V),(iw f v fs).length<=fs.length+1
 |[]=>by simp[iw]
 |(k,x)::r=>by
  have a:=oA f v r;rw[show iw f v ((k,x)::r)=(if k=f then(k,v)::r else(k,x)::iw f v r) from rfl];by_cases hk:k=f
  ·rw[if_pos hk,Q0,Q0];omega
  ·rw[if_neg hk,Q0,Q0];omega
theorem Vf.some_of (r:Vf (QB v) o):∃u,o=QB u/\RelV v u:=by
 cases o with
 |none=>exact(show False from r).elim
 |some u=>exact⟨u,rfl,r⟩
theorem Vf.none_of (r:Vf QF o):o=QF:=by
 cases o with
 |none=>rfl
 |some u=>exact(show False from r).elim
theorem tZ (r:RelV v u):Z8 u=QG:=by
 cases v with
 |Te=>cases(show u=QD.none from r);rfl
 |bl b=>cases(show u=QD.bool b from r);rfl
 |int i=>obtain⟨t,e⟩:=(show∃t,u=QD.int i t from r);cases e;rfl
 |str x=>obtain⟨t,e⟩:=(show∃t,u=QD.str x t from r);cases e;rfl
 |byt b=>obtain⟨t,e⟩:=(show∃t,u=QD.bytes b t from r);cases e;rfl
 |flt b=>obtain⟨t,e⟩:=(show∃t,u=QD.float b t from r);cases e;rfl
 |ref a=>cases(show u=QD.ref a from r);rfl
 |ty n=>cases(show u=QD.type n from r);rfl
section
variable {P:Q7} {w:Rv} {H H':Hp} {h h':Heap} {a C dx:QI} {fs fs':List (Str×V)}
theorem pO (Sa:Wb P w H h) (e:H a=QB (.ins C dx fs)):∃mA,Zv h a dx C mA/\(∀f,Vf (fs.lookup f) (mA f))/\YK mA (fs.map (·.1))/\fs.length<=1000/\H dx=QB (.own a):=by obtain⟨d,z,ne,ob,mA,n,r,q⟩:=(show ObjOk P w H h a (.ins C dx fs) from Sa a _ e);exact⟨mA,⟨ob,n,ne⟩,r,q,z,d⟩
end
structure ZE (K:QC) (C:QI):Prop where
 pg:Ux K C Str.empty=QG
 hd:TH K C=QG
 po:WE K C=QG
 sa:Rr K (.ref C) "__setattr__"=QB (QB (.builtin "object.__setattr__"))
theorem ZE.get {K:QC} (c:ZE K C) (f:Str):Ux K C f=QG:=c.pg
def Vh (K:QC) (C:QI) (f:Str):Prop:=Rr K (.ref C) f=QB QF
theorem Vh.aeE {K:QC} (n:Vh K C f):Xo K C f=QB QF:=by unfold Xo;rw[show Rr K (.ref C) f=QB QF from n];rfl
structure Con (K:QC) (C:QI) (f:Str) (v:V) (u:QD):Prop where
 at_:Rr K (.ref C) f=QB (QB u)
 rel:RelV v u
 get:Uk K u "__get__"=QB QF
 cp:PySem.W.copiedNames.contains f=QN
structure Meth (K:QC) (C:QI) (m:Str) (f:QI):Prop where
 at_:Rr K (.ref C) m=QB (QB (.ref f))
 fn:TY K (.ref f)=QG
 kp:SI K (.ref f)=QG
section
variable {X:Cx} {pins:List (QI×Obj)} {σ:St} {H:Hp} {s:QL} {a C dx:QI} {fs:List (Str×V)} {f:Str} {v:V} {A:Rp} {E:QD->QL->Prop}
theorem zc (I:Inv X pins σ H s) (e:H a=QB (.ins C dx fs)) (c:ZE X.K C) (n:Vh X.K C f) (l:fs.lookup f=QB v)
  (h:∀u s',Inv X pins σ H s'->RelV v u->Q u s'):wpAny (model X.prog X.w) A (getAttr (.ref a) f b) Q E s:=by
 obtain⟨mA,O,r,_,_,_⟩:=pO I.Sa e;obtain⟨u,i,g⟩:=Vf.some_of (by rw[<-l];exact r f);exact Jw I.UT O (c.get f) c.hd n i (tZ g) (h u _ (I.tok _) g)
theorem qJ (I:Inv X pins σ H s) (e:H a=QB (.ins C dx fs)) (c:ZE X.K C) (k:Meth X.K C m g) (l:fs.lookup m=QF)
  (h:Q (.ref g,[.ref a]) s):wpAny (model X.prog X.w) A (getMethod (.ref a) m pl) Q E s:=by
 obtain⟨mA,O,r,_,_,_⟩:=pO I.Sa e;have hn:=Vf.none_of (by rw[<-l];exact r m);exact G8 I.UT O (c.get m) k.at_ k.fn hn h
theorem zK (I:Inv X pins σ H s) (e:H a=QB (.ins C dx fs)) (c:ZE X.K C) (n:Vh X.K C f) (B:fs.length<1000) (m:RelV y u)
  (h:∀s',Inv X pins σ (bv H a (.ins C dx (iw f y fs))) s'->Q () s'):wpAny (model X.prog X.w) A (setAttr (.ref a) f u) Q E s:=by
 obtain⟨mA,O,r,i,_,j⟩:=pO I.Sa e;have p:(fs.map (·.1)).length<=QU:=by rw[QH,Tn];omega
 refine JY I.UT O c.sa c.po n.aeE c.hd i p fun h' O' l=>h _ ?_;have hd:∃o,h'.get? dx=QB o:=let⟨o,_,_,e',_⟩:=O'.ns;⟨o,e'⟩
 refine I.write (by rw[e];exact True.intro) (.inr j) (fun b q v z=>(l.2 b v).trans z) hd ?_;refine⟨by rw[aA O.ne];exact j,?_,O.ne,O'.obj,_,O'.ns,fun g=> ?_,fun g t=> ?_⟩
 ·have:=oA f y fs;omega
 ·show Vf ((iw f y fs).lookup g) (if g=f then QB u else mA g)
  rw[oE];by_cases q:g=f
  ·rw[if_pos q,if_pos q];exact m
  ·rw[if_neg q,if_neg q];exact r g
 ·by_cases q:g=f
  ·rw[q];exact(nV f y fs).1
  ·refine(nV f y fs).2 g (i g fun z=>t ?_);show(if g=f then QB u else mA g)=QF;rw[if_neg q];exact z
theorem Inv.made (I:Inv X pins σ H s):Inv X pins σ (bv (bv H s.heap.objs.size (.own (s.heap.objs.size+1))) (s.heap.objs.size+1) (.ins C s.heap.objs.size []))
  {s with heap:=(s.heap.push Sm).push (S1 C s.heap.objs.size)}:=by
 have f:(s.heap.push Sm).get? s.heap.objs.size=QB Sm:=Heap.get?_push_size s.heap rfl;have j:((s.heap.push Sm).push (S1 C s.heap.objs.size)).get? (s.heap.objs.size+1)=QB (S1 C s.heap.objs.size):=by have:=Heap.get?_push_size (s.heap.push Sm) (o:=S1 C s.heap.objs.size) rfl;rwa [Heap.size_push] at this
 have i:(s.heap.push Sm).Ns s.heap.objs.size (fun _=>QF):=⟨Sm,#[],_,f,rfl,(fun e h=>absurd h (by simp)),fun _=>rfl⟩;have l:=I.laid (a:=s.heap.objs.size) (o:= .own (s.heap.objs.size+1)) (h':=s.heap.push Sm) (t':=s.toks) (fun b u q=>Heap.get?_push_of_some _ q) (QS _) ⟨_,f⟩;refine l.laid (a:=s.heap.objs.size+1) (o:= .ins C s.heap.objs.size []) (t':=s.toks) (fun b u q=>Heap.get?_push_of_some _ q) (U7 (Heap.size_push _ _)) ?_;have ne:s.heap.objs.size≠s.heap.objs.size+1:=Ra (UL _);refine⟨by rw[aA ne,aC],RF _,ne,j,fun _=>QF,(Heap.Ns1.of_empty i).at fun o q=>Heap.get?_push_of_some _ q,fun _=>True.intro,fun y g=>absurd rfl g⟩
theorem BR {prog:Q7} {w:Rv} {env:Env} {e:RN} {f:Str} {pos:Pos} {s:QL} {Q:QD->QL->Prop} (a:attributeBase e f env (eval e env)=eval e env)
  (h:wpAny (model prog w) A (eval e env) (fun o s₁=>wpAny (model prog w) A (getAttr o f QG) Q E s₁) E s):wpAny (model prog w) A (eval (.Attribute e f pos) env) Q E s:=
 Attribute_any_ h (by rw[arm_eval_Attribute,a])
end
def LG (K:QC) (ta:TE) (f:Str):TE:=fun σ H Q=>ta σ H fun x H1=>∃a C dx fs v,x= .ref a/\H1 a=QB (.ins C dx fs)/\ZE K C/\Vh K C f/\fs.lookup f=QB v/\Q v H1
def Ny (K:QC) (ta tv:TE) (f:Str):TS:=fun D σ H=>tv σ H fun y H1=>ta σ H1 fun x H2=>∃a C dx fs,x= .ref a/\H2 a=QB (.ins C dx fs)/\ZE K C/\Vh K C f/\fs.length<1000/\
 D.nx σ (bv H2 a (.ins C dx (iw f y fs)))
section
variable {X:Cx} {o e value:RN} {f:Str} {pos pos' agl:Pos} {ta tv:TE}
theorem df (i:PE X e ta) (j:attributeBase e f X.env (eval e X.env)=eval e X.env):PE X (.Attribute e f pos) (LG X.K ta f):=by intro pins s σ H Q I h;refine BR j (cG (i pins s σ H _ I h) fun u s1 ⟨x,H1,p,b,a,C,dx,fs,v,ex,m,c,n,l,q⟩=> ?_);subst ex;obtain rfl:=b;exact zc p m c n l fun r s2 o g=>⟨v,H1,o,g,q⟩
theorem mZ (ha:PE X o ta) (i:PE X value tv) (j:Ss value (QB (.Attribute o f pos')) pos.line X.env=pure QN):PS X (.Assign [.Attribute o f pos'] value pos) (Ny X.K ta tv f):=by intro pins s σ H D I h;refine Yb (cG (i pins s σ H _ I h) fun u s1 ⟨y,H1,t,b,q⟩=>cG (ha pins s1 σ H1 _ t q) fun w s2 ⟨x,H2,r,e,a,C,dx,fs,ex,m,c,n,l,g⟩=> ?_) j;subst ex;obtain rfl:=e;exact zK r m c n l b fun v p=>⟨σ,_,p,g⟩
end
section
variable {X:Cx} {pins:List (QI×Obj)} {σ:St} {H:Hp} {s:QL} {A:Rp} {E:QD->QL->Prop} {Q:QD->QL->Prop} {c:QD} {b:Bool}
inductive W4 (K:QC) (H:Hp):V->QD->Prop where
 |Te:W4 K H .Te (.type "NoneType")
 |bl (x:Bool):W4 K H (.bl x) (.type "bool")
 |int (i:Int):W4 K H (.int i) (.type "int")
 |str (x:Str):W4 K H (.str x) (.type "str")
 |flt (x:UInt64):W4 K H (.flt x) (.type "float")
 |lst {a:QI} {xs:List V} (e:H a=QB (.lst xs)):W4 K H (.ref a) (.type "list")
 |frz {a:QI} {o:Obj} {xs:List V} (e:H a=QB (.frz o (.lst xs))):W4 K H (.ref a) (.type "list")
 |tup {a:QI} {xs:List V} (e:H a=QB (.tup xs)):W4 K H (.ref a) (.type "tuple")
 |dK {a:QI} {Rc:List (cD×V)} (e:H a=QB (.dK Rc)):W4 K H (.ref a) (.type "dict")
 |dT {a:QI} {Rc:List (List cD×V)} (e:H a=QB (.dT Rc)):W4 K H (.ref a) (.type "dict")
 |ins {a C dx:QI} {fs:List (Str×V)} (e:H a=QB (.ins C dx fs)) (cl:ZE K C) (ha:Rr K (.ref C) "__class__"=QB (QB (.builtin "object.__class__")))
   (hn:Uk K (.builtin "object.__class__") "__get__"=QB (QB (.builtin "getset_descriptor.__get__"))) (htk:PySem.W.takesIn K (.builtin "object.__class__")=QB QG)
   (hm:abj K C (.type "object")=QB QG):W4 K H (.ref a) (.ref C)
theorem De {x:V} {u t:QD} (I:Inv X pins σ H s) (f:RelV x u) (ty:W4 X.K H x t) (e:RL X.K t c=QB b) (h:∀tk,Q (.bool b) {s with toks:=tk}):
  wpAny (model X.prog X.w) A (call (.builtin "isinstance") [u,c]) Q E s:=by
 cases ty with
 |Te=>cases(show u=QD.none from f);exact RH ZR I.UT True.intro e (fun z=>nomatch z) h
 |bl y=>cases(show u=QD.bool y from f);exact RH ZS I.UT True.intro e (fun z=>nomatch z) h
 |int i=>obtain⟨t,q⟩:=(show∃t,u=QD.int i t from f);cases q;exact RH Z9 I.UT True.intro e (fun z=>nomatch z) h
 |str y=>obtain⟨t,q⟩:=(show∃t,u=QD.str y t from f);cases q;exact RH aaa I.UT True.intro e (fun z=>nomatch z) h
 |flt y=>obtain⟨t,q⟩:=(show∃t,u=QD.float y t from f);cases q;exact RH PySem.W.kitx_float I.UT True.intro e (fun z=>nomatch z) h
 | @lst a xs ea=>cases(show u=QD.ref a from f);obtain⟨_,_,n,_,h1⟩:=(show ObjOk X.prog X.w H s.heap a (.lst xs) from I.Sa a _ ea);exact RH WG I.UT ⟨_,h1,rfl⟩ e (fun z=>nomatch z) h
 | @frz a ob xs ea=>cases(show u=QD.ref a from f);obtain⟨_,_,_,n,_,h1⟩:=(show ObjOk X.prog X.w H s.heap a (.frz ob (.lst xs)) from I.Sa a _ ea);exact RH WG I.UT ⟨_,h1,rfl⟩ e (fun z=>nomatch z) h
 | @tup a xs ea=>cases(show u=QD.ref a from f);obtain⟨_,_,_,p⟩:=(show ObjOk X.prog X.w H s.heap a (.tup xs) from I.Sa a _ ea);obtain⟨o,h1,⟨h2,_⟩,_⟩:=p;exact RH Zi I.UT ⟨o,h1,h2⟩ e (fun z=>nomatch z) h
 | @dK a Rc ea=>cases(show u=QD.ref a from f);obtain⟨_,_,vs,_,p⟩:=(show ObjOk X.prog X.w H s.heap a (.dK Rc) from I.Sa a _ ea);obtain⟨o,es,g,h1,h2,_⟩:=p;exact RH ZT I.UT ⟨o,h1,h2.1⟩ e (fun z=>nomatch z) h
 | @dT a Rc ea=>cases(show u=QD.ref a from f);obtain⟨_,_,xs,_,o,es,g,h1,h2,_⟩:=(show ObjOk X.prog X.w H s.heap a (.dT Rc) from I.Sa a _ ea);exact RH ZT I.UT ⟨o,h1,h2.1⟩ e (fun z=>nomatch z) h
 | @ins a C dx fs ea cl ha hn htk hm=>cases(show u=QD.ref a from f);obtain⟨mA,O,_⟩:=pO I.Sa ea;obtain⟨od,J,_⟩:=O.look;exact RH (PySem.W.kitx_own (cl.get _) cl.hd ha hn htk hm) I.UT J e (fun z=>nomatch z) h
end
structure S9 (k:Nat) (A:Rp):Prop where
 hd:A.handled=QF
 dp:A.depth+3*k+5<recursionLimit
 un:A.units+16*k+200<cLine
theorem S9.mono (r:S9 k A) (h:j<=k):S9 j A:=⟨r.hd,by have:=r.dp;omega,by have:=r.un;omega⟩
theorem S9.deeper (r:S9 (k+1) A) (env:Env):S9 k (A.deeper env):=
 ⟨r.hd,by have:=r.dp;show A.depth+1+3*k+5<_;omega,by have:=r.un;show A.units+3+16*k+200<_;omega⟩
theorem yI {A:Rp}:(A.under (.builtin "type.__call__" ⟨.ref C::us,kw⟩)).depth=A.depth+1:=by
 first|rfl|simp[Rp.under,Zj.weight,Zj.isCreation,Zj.isGuard,Zj.isCaller,Zj.frames,Zj.isFrame,guardIds]
theorem yJ {A:Rp}:(A.under (.builtin "type.__call__" ⟨.ref C::us,kw⟩)).units=A.units+1:=by
 first|rfl|simp[Rp.under,Zj.cUnits,Zj.frames,Zj.isFrame]
theorem S9.make (r:S9 (k+1) A) (C:QI) (us:List QD) (a:List (Str×QD)):S9 k (A.under (.builtin "type.__call__" ⟨.ref C::us,a⟩)):=
 ⟨r.hd,by have:=r.dp;rw[yI];omega,by have:=r.un;rw[yJ];omega⟩
theorem S9.depth (r:S9 k A):A.depth<recursionLimit:=by have:=r.dp;omega
theorem S9.units (r:S9 k A):A.units+64<cLine:=by have:=r.un;omega
def mO:TA:=fun _ H Q=>Q [] H
def iq (ta:TE) (a:TA):TA:=fun σ H Q=>ta σ H fun x H1=>a σ H1 fun xs H2=>Q (x::xs) H2
section
variable {X:Cx} {e:RN} {es:List RN} {te:TE} {t:TA} {pos:Pos}
theorem az:PA X [] mO:=fun _ _ _ _ H Q I h=>Calls.spliced_nil ⟨[],H,I,.nil,h⟩
theorem ag (ha:PE X e te) (g:PA X es t) (f:Q9 (e::es) X.env=(QN,eval e X.env)::Q9 es X.env:=by rfl):PA X (e::es) (iq te t):=by intro pos pins s σ H Q I h;rw[f];refine Calls.spliced_cons (cG (ha pins s σ H _ I h) fun u s1 ⟨x,H1,j,r1,q1⟩=> ?_);exact cG (g pos pins s1 σ H1 _ j q1) fun us s2 ⟨xs,H2,i,a,b⟩=>⟨x::xs,H2,i,.cons r1 a,b⟩
def Je (t:TA):TE:=fun σ H Q=>t σ H fun xs H1=>xs.length<=QU/\∀p,H1 p=QF->Q (.ref p) (bv H1 p (.tup xs))
def OD (t:TA):TE:=fun σ H Q=>t σ H fun xs H1=>xs.length<=QU/\∀p,H1 p=QF->Q (.ref p) (bv H1 p (.lst xs))
theorem gl {x1} (h:PA X es t):PE X (.Tuple es x1 pos) (Je t):=by intro pins s σ H Q I f;refine wpAny_Tuple_spliced (cG (h pos pins s σ H _ I f) fun us s1 ⟨xs,H1,a,r,z,q⟩=>⟨by rw[<-r.length];exact z,?_⟩);have g:=a.Sa.fresh (QS _);refine⟨.ref s1.heap.objs.size,bv H1 s1.heap.objs.size (.tup xs),a.laid (fun b u e=>Heap.get?_push_of_some _ e) (QS _) ?_,rfl,q _ g⟩;exact⟨z,us,r,⟨_,Heap.get?_push_size _ rfl,⟨rfl,_,rfl⟩,rfl⟩⟩
theorem j8 (h:PA X es t):PE X (.List es pos) (OD t):=by intro pins s σ H Q I f;refine wpAny_List_spliced (cG (h pos pins s σ H _ I f) fun us s1 ⟨xs,H1,a,r,z,q⟩=>⟨by rw[<-r.length];exact z,?_⟩);have g:=a.Sa.fresh (QS _);refine⟨.ref s1.heap.objs.size,bv H1 s1.heap.objs.size (.lst xs),a.laid (fun b u e=>Heap.get?_push_of_some _ e) (QS _) ?_,rfl,q _ g⟩;exact⟨z,us,0,r,Heap.get?_push_size _ rfl⟩
end
abbrev Sp:=List V->Hp->VK->XK->Prop
abbrev wA:=List Env->Hp->QL->XK->QD->QL->Prop
structure Env0 (P:Q7) (w:Rv) (K:QC) (mg:Str->Option QD) (base:Heap) (A:Rp) (outer:List Env) (s:QL) (H:Hp):Prop where
 frames:A.frames=QB outer
 mod:Mod K mg base
 bs:∀b o,base.get? b=QB o->s.heap.get? b=QB o/\H b=QF
 bsz:base.objs.size<=s.heap.objs.size
 WA:s.heap.FunFrames base outer
 frf:∀b∈wB outer,H b=QF
 Sa:Wb P w H s.heap
 bare:AllBare s.gens
def CE (outer:List Env) (P:Q7) (w:Rv) (H:Hp) (s:QL) (Q:VK) (u:QD) (s':QL):Prop:=
 ∃v H',s'.os=s.os/\AllBare s'.gens/\Un (wB outer) [] H H' s.heap s'.heap/\Wb P w H' s'.heap/\RelV v u/\Q v H'
def CR (CX:wA) (outer:List Env) (P:Q7) (w:Rv) (H:Hp) (s:QL) (Q:VK) (E:XK) (r:Yh) (s':QL):Prop:=
 match r with
 | .ok (.ret u)=>CE outer P w H s Q u s'
 | .ok _=>False
 | .error e=>CX outer H s E e s'
structure FnOk (P:Q7) (w:Rv) (K:QC) (mg:Str->Option QD) (base:Heap) (CX:wA) (k:Nat) (f:QI) (fd:RQ) (ps:List Str) (sp:Sp):Prop where
 len:∀vs H Q E,sp vs H Q E->vs.length=ps.length
 run:∀(A:Rp) (outer:List Env) (s:QL) (H:Hp) (args:Args) (us:List QD) (vs:List V) (Q:VK) (E:XK),S9 k A->Env0 P w K mg base A outer s H->Wr s fd args (ps.zip us)->Vals vs us->sp vs H Q E->
  codeAny (model P w) A (.call (.ref f) args) (CR CX outer P w H s Q E) s
theorem FnOk.imp {P:Q7} {w:Rv} {K:QC} {mg:Str->Option QD} {base:Heap} {CX:wA} {k:Nat} {f:QI} {fd:RQ} {ps:List Str} {sp sp':Sp} (F:FnOk P w K mg base CX k f fd ps sp)
  (h:∀vs H Q E,sp' vs H Q E->sp vs H Q E):FnOk P w K mg base CX k f fd ps sp':=
 ⟨fun vs H Q E q=>F.len vs H Q E (h _ _ _ _ q),fun A outer s H args us vs Q E e g i a b=>F.run A outer s H args us vs Q E e g i a (h _ _ _ _ b)⟩
theorem Env0.make {K:QC} (e:Env0 P w K mg base A outer s H) (C:QI) (us:List QD) (a:List (Str×QD)):
  Env0 P w K mg base (A.under (.builtin "type.__call__" ⟨.ref C::us,a⟩)) outer s H:=⟨by first|exact e.frames|(simpa [Rp.under,Zj.envs,Zj.isFrame,pushEnvs] using e.frames),e.mod,e.bs,e.bsz,e.WA,e.frf,e.Sa,e.bare⟩
section
variable {X:Cx} {pins:List (QI×Obj)} {σ:St} {H:Hp} {s s':QL}
theorem Inv.abM (I:Inv X pins σ H s):Env0 X.prog X.w X.K X.mg X.base X.A X.stack s H:=
 ⟨I.ok.frames,I.ok.mod,I.bs,Rx I.ok.bsz I.sz,I.stack,I.WQ,I.Sa,I.bare⟩
theorem Inv.after {Q:VK} {u:QD} (I:Inv X pins σ H s) (h:CE X.stack X.prog X.w H s Q u s'):EP X pins σ Q u s':=by obtain⟨v,H',os,bare,un,Sa,r,q⟩:=h;obtain⟨e,g,d,t,a⟩:=s';obtain rfl:a=s.os:=os;exact⟨v,H',I.call (h':=e) (g':=g) (d':=d) (t':=t) (ch:=[]) un Sa bare (fun b z=>absurd z (by simp)),r,q⟩
end
def jQ (sp:Sp) (dvs:List V) (E:XK) (t:TA):TE:=fun σ H Q=>t σ H fun vs H1=>sp (vs++dvs) H1 Q E
def uj (C:QI) (m:Str) (sp:Sp) (dvs:List V) (E:XK) (ta:TE) (t:TA):TE:=fun σ H Q=>ta σ H fun x H1=>∃a dx fs,x= .ref a/\H1 a=QB (.ins C dx fs)/\fs.lookup m=QF/\
 t σ H1 fun vs H2=>sp (x::(vs++dvs)) H2 Q E
def wV (C:QI) (sp:Sp) (dvs:List V) (E:XK) (t:TA):TE:=fun σ H Q=>t σ H fun vs H1=>∀x dx,H1 x=QF->H1 dx=QF->dx≠x->
 sp (.ref x::(vs++dvs)) (bv (bv H1 dx (.own x)) x (.ins C dx [])) (fun v H2=>v= .Te/\Q (.ref x) H2) E
def Binds (K:QC) (fd:RQ) (ps:List Str) (ds:List QD):Prop:=
 ∀(s:QL) (us:List QD),K.In s.heap->(us++ds).length=ps.length->Wr s fd ⟨us,[]⟩ (ps.zip (us++ds))
theorem Binds.all {K:QC} {fd:RQ} {ps:List Str} (h:∀us:List QD,us.length=ps.length->bindArgs fd ⟨us,[]⟩=pure (ps.zip us)):Binds K fd ps []:=fun s us _ a=>by rw[Rf] at a⊢;exact .of_eq (h us a)
def fE (CX:wA) (X:Cx) (E:XK):Prop:=∀(pins:List (QI×Obj)) (σ:St) (H:Hp) (s:QL) (e:QD) (s':QL),Inv X pins σ H s->CX X.stack H s E e s'->X.xe e s'
section
variable {X:Cx} {CX:wA} {k:Nat} {f C:QI} {fd:RQ} {ps:List Str} {sp:Sp} {dvs:List V} {ds:List QD} {E:XK} {x m:Str} {p pos apos:Pos} {e o:RN} {es:List RN} {ta:TE} {t:TA}
theorem Ai {pins:List (QI×Obj)} {σ:St} {H:Hp} {s:QL} {Q:VK} {us:List QD} {vs:List V} (F:FnOk X.prog X.w X.K X.mg X.base CX k f fd ps sp) (i:S9 k X.A) (l:Binds X.K fd ps ds) (hd:Vals dvs ds) (g:fE CX X E)
  (I:Inv X pins σ H s) (r:Vals vs us) (h:sp (vs++dvs) H Q E):wpAny (model X.prog X.w) X.A (call (.ref f) us) (EP X pins σ Q) X.xe s:=by
 have b:Vals (vs++dvs) (us++ds):=r.append hd;have j:(us++ds).length=ps.length:=by rw[<-b.length];exact F.len _ _ _ _ h
 refine Vt (Vj (F.run X.A X.stack s H ⟨us,[]⟩ (us++ds) (vs++dvs) Q E i I.abM (l s us I.UT j) b h) fun r s' a=> ?_);cases r with
 |error e=>exact g pins σ H s e s' I a
 |ok fl=>
  cases fl with
  |ret u=>exact I.after a
  |next=>exact False.elim a
  |brk=>exact False.elim a
  |cont=>exact False.elim a
theorem A0 (F:FnOk X.prog X.w X.K X.mg X.base CX k f fd ps sp) (g:S9 k X.A) (j:Gl X x) (hm:X.mg x=QB (.ref f)) (i:SI X.K (.ref f)=QG) (m:Binds X.K fd ps ds) (hd:Vals dvs ds) (b:fE CX X E)
  (ha:PA X (e::es) t) (n:(x==("__debug__":Str))=QN:=by decide) (l:Q9 (e::es) X.env=(QN,eval e X.env)::Q9 es X.env:=by rfl) (o:(backTo pos (Q9 es X.env)).any (·.1)=QN:=by rfl):
  PE X (.Call (.Name x p) (e::es) [] pos) (jQ sp dvs E t):=by
 intro pins s σ H Q I h;refine TQ (jb I j hm ?_ n);refine UY I.ok.mod.kin i (cG (ha pos pins s σ H _ I h) fun us s1 ⟨vs,H1,a,r,q⟩=>⟨a.UT,?_⟩) l o;exact Ai F g m hd b a r q
theorem Ji {pl:Sem Bool} (y:PE X o ta) (c:ZE X.K C) (hm:Meth X.K C m f) (F:FnOk X.prog X.w X.K X.mg X.base CX k f fd ps sp) (v:S9 k X.A) (z:Binds X.K fd ps ds) (hd:Vals dvs ds) (n:fE CX X E) (ha:PA X (e::es) t)
  (dg:Q9 (e::es) X.env=(QN,eval e X.env)::Q9 es X.env:=by rfl) (G:(backTo pos (Q9 es X.env)).any (·.1)=QN:=by rfl)
  (p:eval (.Call (.Attribute o m apos) (e::es) [] pos) X.env=(do
   let ov<-eval o X.env
   standAt apos.atName
   let(f,first)<-holding [ov] (getMethod ov m pl)
   callWith pos f first (backTo pos (Q9 (e::es) X.env)) (backToKw pos (keywordEach [] X.env))):=by rfl):
  PE X (.Call (.Attribute o m apos) (e::es) [] pos) (uj C m sp dvs E ta t):=by
 intro pins s σ H Q I h;refine VO (pl:=pl) (cG (y pins s σ H _ I h) fun u s1 ⟨x,H1,g,i,a,dx,fs,ex,B,l,q⟩=> ?_) p;subst ex;obtain rfl:u=QD.ref a:=i;refine qJ g B c hm l ?_;refine UY (first:=[.ref a]) (h₀:=X.base) I.ok.mod.kin hm.kp (cG (ha pos pins s1 σ H1 _ g q) fun us s2 ⟨vs,H2,b,r,j⟩=>⟨b.UT,?_⟩) dg G;exact Ai (us:= .ref a::us) (vs:= .ref a::vs) F v z hd n b (.cons rfl r) j
theorem Ee {pl:Sem Bool} (n:PE X o ta) (c:ZE X.K C) (hm:Meth X.K C m f) (F:FnOk X.prog X.w X.K X.mg X.base CX k f fd ps sp) (j:S9 k X.A) (p:Binds X.K fd ps ds) (hd:Vals dvs ds) (g:fE CX X E)
  (i:eval (.Call (.Attribute o m apos) [] [] pos) X.env=(do
   let ov<-eval o X.env
   standAt apos.atName
   let(f,first)<-holding [ov] (getMethod ov m pl)
   callWith pos f first (backTo pos (Q9 [] X.env)) (backToKw pos (keywordEach [] X.env))):=by rfl):
  PE X (.Call (.Attribute o m apos) [] [] pos) (uj C m sp dvs E ta mO):=by
 intro pins s σ H Q I h;refine VO (pl:=pl) (cG (n pins s σ H _ I h) fun u s1 ⟨x,H1,b,e,a,dx,fs,ex,r,l,q⟩=> ?_) i;subst ex;obtain rfl:u=QD.ref a:=e;refine qJ b r c hm l ?_;exact PySem.W.callWith_K0 (first:=[.ref a]) b.UT hm.kp (Ai (us:=[.ref a]) (vs:=[.ref a]) F j p hd g b (.cons rfl .nil) q)
structure Mk (K:QC) (C f:QI):Prop where
 makes:Xp K C=QG
 init:Rr K (.ref C) "__init__"=QB (QB (.ref f))
 fn:TY K (.ref f)=QG
 kp:SI K (.ref C)=QG
theorem Eo (M:Mk X.K C f) (F:FnOk X.prog X.w X.K X.mg X.base CX k f fd ps sp) (m:S9 (k+1) X.A) (o:Binds X.K fd ps ds) (hd:Vals dvs ds)
  (l:fE CX X E) (I:Inv X pins σ H s) (r:Vals vs us)
  (h:∀x dx,H x=QF->H dx=QF->dx≠x->sp (.ref x::(vs++dvs)) (bv (bv H dx (.own x)) x (.ins C dx [])) (fun v H2=>v= .Te/\Q (.ref x) H2) E):
  wpAny (model X.prog X.w) X.A (call (.ref C) us) (EP X pins σ Q) X.xe s:=by
 have i:=h (s.heap.objs.size+1) s.heap.objs.size (I.Sa.fresh (XY _)) (I.Sa.fresh (QS _)) (Ra (UL _));have b:=Inv.made (C:=C) I;have g:Vals (V.ref (s.heap.objs.size+1)::(vs++dvs)) (QD.ref (s.heap.objs.size+1)::(us++ds)):= .cons rfl (r.append hd);have n:(QD.ref (s.heap.objs.size+1)::us++ds).length=ps.length:=by have e:=g.length;rw[F.len _ _ _ _ i] at e;exact e.symm
 refine Vt (Ep I.UT M.makes M.init (beq_iff_eq.mp M.fn) (Vj (F.run _ X.stack _ _ ⟨QD.ref (s.heap.objs.size+1)::us,[]⟩ (QD.ref (s.heap.objs.size+1)::(us++ds)) _ _ E (m.make C us [])
  (b.abM.make C us []) (o _ (QD.ref (s.heap.objs.size+1)::us) b.UT n) g i) fun r s' a=> ?_))
 cases r with
 |error e=>exact l pins σ _ _ e s' b a
 |ok fl=>
  cases fl with
  |ret u=>obtain⟨v,H',p,rv,ev,j⟩:=b.after a;subst ev;exact⟨rv,⟨V.ref (s.heap.objs.size+1),H',p,rfl,j⟩⟩
  |next=>exact False.elim a
  |brk=>exact False.elim a
  |cont=>exact False.elim a
theorem JZ (M:Mk X.K C f) (F:FnOk X.prog X.w X.K X.mg X.base CX k f fd ps sp) (g:S9 (k+1) X.A) (i:Gl X x) (hm:X.mg x=QB (.ref C)) (l:Binds X.K fd ps ds) (hd:Vals dvs ds) (b:fE CX X E)
  (ha:PA X (e::es) t) (m:(x==("__debug__":Str))=QN:=by decide) (j:Q9 (e::es) X.env=(QN,eval e X.env)::Q9 es X.env:=by rfl) (n:(backTo pos (Q9 es X.env)).any (·.1)=QN:=by rfl):
  PE X (.Call (.Name x p) (e::es) [] pos) (wV C sp dvs E t):=by
 intro pins s σ H Q I h;refine TQ (jb I i hm ?_ m);refine UY I.ok.mod.kin M.kp (cG (ha pos pins s σ H _ I h) fun us s1 ⟨vs,H1,a,r,q⟩=>⟨a.UT,?_⟩) j n;exact Eo M F g l hd b a r q
end
section
variable {X:Cx} {CX:wA} {k:Nat} {f C:QI} {fd:RQ} {ps ks:List Str} {sp:Sp} {E:XK} {x m:Str} {p pos apos ajy:Pos} {e o:RN} {es:List RN} {kws:List X4} {te ta:TE} {t tk:TA} {nm:Option Str}
structure ahC (K:QC) (fd:RQ) (ps ks:List Str) (g:List QD->List QD->List QD) (gV:List V->List V->List V):Prop where
 to:∀(s:QL) (us ws:List QD),K.In s.heap->(g us ws).length=ps.length->Wr s fd ⟨us,ks.zip ws⟩ (ps.zip (g us ws))
 rel:∀{vs:List V} {us:List QD} {zs:List V} {ws:List QD},Vals vs us->Vals zs ws->Vals (gV vs zs) (g us ws)
variable {g:List QD->List QD->List QD} {gV:List V->List V->List V}
end
structure Tz (N P:List Str) (sc:Uc):Prop where
 kind:sc.kind= .function
 co:sc.isCoroutine=QN
 gen:sc.isGenerator=QN
 nd:N.Nodup
 pre:N.take P.length=P
 par:∀x∈P,sc.names.lookup x=QB .local\/sc.names.lookup x=QB .cell
 acF:∀y∈sc.names,y.2≠ .free
theorem uy {kindOf:Str->Option Ro}:∀{binds:List (Str×QD)} {m:Str->Option QD},(∀v,(x,v)∉binds)->bindL kindOf binds m x=m x
 |[],_,_=>rfl
 |(n,v)::r,m,h=>by
  unfold bindL;rw[uy fun w a=>h w (Q4 _ a)];split
  ·have:x≠n:=by rintro rfl;exact h v Q8
   simp[this]
  ·rfl
theorem ul {kindOf:Str->Option Ro}:∀{binds:List (Str×QD)} {m:Str->Option QD},(∀v,(x,v)∉binds)->bindC kindOf binds m x=m x
 |[],_,_=>rfl
 |(n,v)::r,m,h=>by
  unfold bindC;rw[ul fun w a=>h w (Q4 _ a)];split
  ·rfl
  ·have:x≠n:=by rintro rfl;exact h v Q8
   simp[this]
theorem tF {kindOf:Str->Option Ro}:∀{P:List Str} {vs:List QD} {i:Nat} {m:Str->Option QD},P.Nodup->P[i]? =QB x->vs[i]? =QB v->kindOf x=QB .local->
  bindL kindOf (P.zip vs) m x=QB v
 |[],_,_,_,_,h,_,_=>by simp at h
 |_::_,[],_,_,_,_,h,_=>by simp at h
 |p::P,w::vs,0,m,nd,h1,h2,hk=>by simp at h1 h2;subst h1;subst h2;show bindL kindOf ((p,w)::P.zip vs) m p=_;unfold bindL;rw[uy fun v hv=>(SK.mp nd).1 (UU hv).1,if_pos hk];simp
 |p::P,w::vs,i+1,m,nd,h1,h2,hk=>by unfold bindL;exact tF (SK.mp nd).2 (by simpa using h1) (by simpa using h2) hk
theorem uf {kindOf:Str->Option Ro}:∀{P:List Str} {vs:List QD} {i:Nat} {m:Str->Option QD},P.Nodup->P[i]? =QB x->vs[i]? =QB v->kindOf x≠QB .local->
  bindC kindOf (P.zip vs) m x=QB v
 |[],_,_,_,_,h,_,_=>by simp at h
 |_::_,[],_,_,_,_,h,_=>by simp at h
 |p::P,w::vs,0,m,nd,h1,h2,hk=>by simp at h1 h2;subst h1;subst h2;show bindC kindOf ((p,w)::P.zip vs) m p=_;unfold bindC;rw[ul fun v hv=>(SK.mp nd).1 (UU hv).1,if_neg hk];simp
 |p::P,w::vs,i+1,m,nd,h1,h2,hk=>by unfold bindC;exact uf (SK.mp nd).2 (by simpa using h1) (by simpa using h2) hk
noncomputable def start (N:List Str) (vs:List V):St:=vs.map QB++QP (N.length - vs.length) QF
noncomputable def eT (CX:wA) (P:Q7) (w:Rv) (K:QC) (mg:Str->Option QD) (base:Heap) (N:List Str) (qual:Str) (scope:Uc) (f:QI) (cd:QD) (A:Rp) (outer:List Env) (s:QL) (H:Hp) (E:XK):Cx where
 prog:=P
 w:=w
 K:=K
 mg:=mg
 base:=base
 A:=A.deeper (envOfC qual scope s.heap.objs.size f cd)
 N:=N
 s₀:=s
 H₀:=H
 env:=envOfC qual scope s.heap.objs.size f cd
 outer:=outer
 stack:=envOfC qual scope s.heap.objs.size f cd::outer
 ex:=[]
 calm:=QG
 fn:=fun _=>QG
 pn:=[]
 xe:=fun e s'=>wpAny (model P w) (A.deeper (envOfC qual scope s.heap.objs.size f cd)) (leaving (envOfC qual scope s.heap.objs.size f cd) e) (fun _ a=>CX outer H s E e a) (fun b a=>CX outer H s E b a) s'
theorem wJ {sc:Uc} (h:sc.names.lookup x=QB .cell):∃c,(S4 n sc.names []).lookup x=QB c:=by have q:=Ul sc.names n [] (.inl h);exact Yc.mp q
theorem Ct {K:QC}
  (S:Tz N ps scope) (hd:A.handled=QF) (e0:Env0 P w K mg base A outer s H) (o:vs.length=ps.length) (r:Vals vs us)
  (x:InCallC s s.heap.objs.size (bindL (envOfC qual scope s.heap.objs.size f cd).kindOf (ps.zip us) fun _=>QF) (S4 (s.heap.objs.size+1) scope.names []) (bindC (envOfC qual scope s.heap.objs.size f cd).kindOf (ps.zip us) fun _=>QF) s1):
  Inv (eT CX P w K mg base N qual scope f cd A outer s H E) [] (start N vs) H s1:=by
 have B:ps.length<=N.length:=by have:=congrArg Wg S.pre;rw[SE] at this;omega
 obtain⟨h1,tk,rfl,n⟩:=x.done;have g:∀b:QI,b∉(eT CX P w K mg base N qual scope f cd A outer s H E).ex:=fun b z=>absurd (show b∈([]:List QI) from z) (by simp);refine⟨⟨e0.mod,S.kind,rfl,rfl,QS _,fun y z c h1 h2=> ?_,fun y j=> ?_,fun y c _ h=> ?_,fun _=>hd,Rp.frames_deeper e0.frames,.inr ⟨rfl,rfl⟩,fun b z=>absurd z (g b),e0.bs,e0.bsz,fun b _ _=>g b,fun b z=>absurd z (g b),e0.WA,e0.frf⟩,
  rfl,e0.bare,Un.kept n,⟨_,x.toInCall.ns,fun i y v h1 h2 t=> ?_⟩,fun y c h=>⟨_,x.cell y c h⟩,e0.Sa.fresh (QS _),fun y c h=> ?_,fun p hp=>absurd (show p∈([]:List (QI×Obj)) from hp) (by simp),e0.Sa.kept n,?_⟩
 ·exact name_of_addr x.apart (SQ h1) (SQ h2)
 ·have j:=j
  rcases j with j|j
  ·exact wJ j
  ·exact absurd rfl (S.acF _ (SQ j))
 ·exact U6 (x.above y c (SQ h))
 ·have hi:i<vs.length:=by
   unfold start at h2;by_cases hi:i<vs.length
   ·exact hi
   ·rw[Ru (by simpa using hi)] at h2;rw[Tr] at h2;split at h2<;>cases h2
  have ha:vs[i]? =QB v:=by
   unfold start at h2;rw[Rg (by simpa using hi),QT] at h2;cases e:vs[i]? with
   |none=>rw[e] at h2;cases h2
   |some a=>rw[e] at h2;cases h2;rfl
  obtain⟨u,m,rv⟩:=r.get ha;have hp:ps[i]? =QB y:=by rw[<-S.pre,List.getElem?_take_of_lt (by omega)];exact h1
  have l:ps.Nodup:=by rw[<-S.pre];exact S.nd.sublist (List.take_sublist _ _)
  refine⟨u,rv,?_⟩;rcases S.par y (RD hp) with k|k
  ·exact .inl ⟨k,tF l hp m k⟩
  ·obtain⟨c,e⟩:=wJ k;refine .inr ⟨.inl k,c,e,?_⟩;have q:=x.cell y c e;rw[uf l hp m (by show scope.names.lookup y≠_;rw[k];decide)] at q;exact q
 ·exact e0.Sa.fresh (U6 (x.above y c (SQ h)))
 ·unfold start;show _=N.length;rw[QM,QH,Rt];omega
theorem Fy {CX:wA} {P:Q7} {w:Rv} {K:QC} {mg:Str->Option QD} {base:Heap} {k:Nat} {f:QI} {name qual:Str} {params:Arguments} {body:List Tg} {scope:Uc} {dV kV doc pm Sl ct oc:QD} {an od:Option QI}
  {Y0:Array (Option QD)} {N ps:List Str} {sp:Sp} (lk:K.lookup f=QB ⟨oc,od,.func (So name qual params body scope dV kV doc pm an Sl ct),Y0⟩) (Y8:UZ K Sl qual=QG) (S:Tz N ps scope)
  (len:∀vs H Q E,sp vs H Q E->vs.length=ps.length)
  (T9:∀(A:Rp) (outer:List Env) (s:QL) (H:Hp) (vs:List V) (Q:VK) (E:XK),S9 k (A.deeper (envOfC qual scope s.heap.objs.size f Sl))->sp vs H Q E->
   ∃t,Xg (eT CX P w K mg base N qual scope f Sl A outer s H E) body t/\t {nx:=fun _ H'=>Q .Te H',rt:=Q} (start N vs) H):
  FnOk P w K mg base CX (k+1) f (So name qual params body scope dV kV doc pm an Sl ct) ps sp:=by
 refine⟨len,fun A outer s H args us vs Q E hr e0 hb r hsp=> ?_⟩;have hl:=len _ _ _ _ hsp;have KX:K.In s.heap:=e0.mod.kin.keeps fun b o e=>(e0.bs b o e).1;have lim:s.heap.NoLimit:=e0.mod.nolimit.keeps fun b o e=>(e0.bs b o e).1;have UI:∀y∈ps.zip us,scope.names.lookup y.1=QB .local\/(scope.names.lookup y.1=QB .cell/\((S4 (s.heap.objs.size+1) scope.names []).lookup y.1).isSome=QG):=fun⟨n,v⟩ hy=>by
  rcases S.par n (UU hy).1 with q|q
  ·exact .inl q
  ·exact .inr ⟨q,Ul _ _ _ (.inl q)⟩
 refine codeAny_call_function hr.depth (KX _ _ lk) rfl S.co S.gen rfl (PySem.W.codeRec_of KX Y8) (hb _ _ _ _ ?_);refine wpAny_newFunctionEnv_cells S.kind UI fun env he s1 x=> ?_;subst he;refine⟨lim.keeps x.toInCall.keep,codeAny_func ?_⟩;obtain⟨t,ht,hq⟩:=T9 A outer s H vs Q E (hr.deeper _) hsp;have I:Inv (eT CX P w K mg base N qual scope f Sl A outer s H E) [] (start N vs) H s1:=Ct S hr.hd e0 hl r x;refine wpAny_mono (ht [] s1 (start N vs) H _ I hq) (fun fl s' hs=> ?_) fun e s' hs=>hs
 have fin:∀{σ':St} {H':Hp} {v:V} {u:QD},Inv (eT CX P w K mg base N qual scope f Sl A outer s H E) [] σ' H' s'->RelV v u->Q v H'->CE outer P w H s Q u s':=
  fun{σ' H' v u} J rv q=>⟨v,H',J.os,J.bare,J.base,J.Sa,rv,q⟩
 cases fl with
 |ret u=>obtain⟨v,σ',H',J,rv,q⟩:=hs;exact fin J rv q
 |next=>obtain⟨σ',H',J,q⟩:=hs;exact fin (v:=V.Te) (u:=QD.none) J rfl q
 |brk=>obtain⟨_,_,_,q⟩:=hs;exact False.elim q
 |cont=>obtain⟨_,_,_,q⟩:=hs;exact False.elim q
section
variable {X:Cx} {x:Str} {p pos:Pos} {e:RN} {es:List RN} {t:TA} {id T:String} {r:List V->Hp->VK->Prop}
def Ec (r:List V->Hp->VK->Prop) (t:TA):TE:=fun σ H Q=>t σ H fun vs H1=>r vs H1 Q
theorem bz (g:T4 X (.builtin id) r) (b:Gl X x) (hm:X.mg x=QF) (a:RP x=QB (.builtin id)) (ha:PA X (e::es) t) (hn:x≠ "__name__":=by decide) (i:(x==("__debug__":Str))=QN:=by decide)
  (f:Q9 (e::es) X.env=(QN,eval e X.env)::Q9 es X.env:=by rfl) (j:(backTo pos (Q9 es X.env)).any (·.1)=QN:=by rfl):PE X (.Call (.Name x p) (e::es) [] pos) (Ec r t):=by
 intro pins s σ H Q I h;refine TQ (nU I b hm a ?_ hn i);exact aeX (cG (ha pos pins s σ H _ I h) fun us s1 ⟨vs,H1,l,r1,q1⟩=>g pins s1 σ H1 vs us Q l r1 q1) f j
theorem eP (g:T4 X (.type T) r) (b:Gl X x) (hm:X.mg x=QF) (a:RP x=QB (.type T)) (ha:PA X (e::es) t) (hn:x≠ "__name__":=by decide) (i:(x==("__debug__":Str))=QN:=by decide)
  (f:Q9 (e::es) X.env=(QN,eval e X.env)::Q9 es X.env:=by rfl) (j:(backTo pos (Q9 es X.env)).any (·.1)=QN:=by rfl):PE X (.Call (.Name x p) (e::es) [] pos) (Ec r t):=by
 intro pins s σ H Q I h;refine TQ (nU I b hm a ?_ hn i);exact UA (cG (ha pos pins s σ H _ I h) fun us s1 ⟨vs,H1,l,r1,q1⟩=>g pins s1 σ H1 vs us Q l r1 q1) f j
end
end L2
namespace HT
open PySem PyProof.Rows
section
open PySem.SeqAt
open PySem.AutoSeq1 (wpAny_loadPart')
open PySem.MeetsSeq PySem.MeetsSeq2 PySem.MeetsSeq3
end
section
variable {prog:Q7} {w:Rv} {A:Rp} {E:QD->QL->Prop} {s:QL}
theorem cat_tup {t b:QI} {vs ws:List QD} {Q:QD->QL->Prop} (q:IsTup s.heap t vs.toArray) (r:IsTup s.heap b ws.toArray) (o:vs≠[])
  (h1:ws=[]->Q (.ref t) s) (h2:ws≠[]->Q (.ref s.heap.objs.size) {s with heap:=s.heap.push {cls:= .type "tuple",data:= .seq (vs++ws).toArray}})
  (hsz:vs.length+ws.length<=QU):wpAny (model prog w) A (S0 .Add (.ref t) (.ref b)) Q E s:=by
 obtain⟨⟨cls,dd,data,sl⟩,j,p,n,hd⟩:=id q;obtain⟨⟨u,i,l,f⟩,a,h,m,g⟩:=id r;simp only at p hd h g;subst p hd h g;have e:vs.toArray++ws.toArray=(vs++ws).toArray:=by simp
 by_cases hw:ws=[]
 ·exact concat_meets ⟨_,j,rfl⟩ ⟨_,a,rfl⟩ adS ahQ Yi Yd (X5 _ _)
   (tuple_addW1 t b vs.toArray ws.toArray n m dd i sl f (by simpa using o) (by simp[hw])) ⟨j,a,h1 hw⟩
 ·refine concat_meets ⟨_,j,rfl⟩ ⟨_,a,rfl⟩ adS ahQ Yi Yd (X5 _ _)
   (tuple_addW2 t b vs.toArray ws.toArray n m dd i sl f (by simpa using o) (by simpa using hw) (by rw[Q1,Q1];exact hsz)) ⟨j,a,?_⟩
  rw[e];exact h2 hw
end
end HT
namespace L2
open PySem PySem.Spec PyProof.Rows
theorem lZ:∀{us:List QD},Vals (ns.map V.int) us->IntsAre us ns:=by
 induction ns with
 |nil=>intro us r;rw[T6] at r;cases r;exact .nil
 |cons n ns ih=>
  intro us r;rw[QY] at r;cases r with
  |cons r1 r2=>obtain⟨t,e⟩:=r1;subst e;exact .cons n t (ih r2)
section
variable {X:Cx} {e:RN} {te:TE} {lo hi:Option RN} {tl th:TO} {pos p2:Pos}
def KP (K:QC):R2:=fun x y H Q=>∃a b xs ys,x= .ref a/\y= .ref b/\Vx K H a xs/\Vx K H b ys/\xs≠[]/\xs.length+ys.length<=QU/\
 (ys=[]->Q (.ref a) H)/\(ys≠[]->∀p,H p=QF->Q (.ref p) (bv H p (.tup (xs++ys))))
theorem Vals.Yx (r:Vals xs us):us=[]↔xs=[]:=by
 cases r with
 |nil=>simp
 |cons _ _=>simp
theorem JT:OpR X (S0 .Add) (KP X.K):=by intro pins s σ H x y v u Q I i g h;obtain⟨a,b,xs,ys,rfl,rfl,ha,m,l,f,q1,j⟩:=h;cases i;cases g;obtain⟨RE,r1,p1,_⟩:=I.tuple ha;obtain⟨n,e,p2,_⟩:=I.tuple m;refine HT.cat_tup p1 p2 (fun z=>l (r1.Yx.mp z)) (fun z=>⟨.ref a,H,I,rfl,q1 (e.Yx.mp z)⟩) (fun z=> ?_) (by rw[<-r1.length,<-e.length];exact f);refine⟨.ref s.heap.objs.size,_,I.laid (fun b ob q=>Heap.get?_push_of_some _ q) (QS _) ?_,rfl,j (fun w=>z (e.Yx.mpr w)) _ (I.Sa.fresh (QS _))⟩;exact⟨by rw[QM];exact f,_,r1.append e,XJ.new _ _⟩
end
noncomputable def K3 (n:Nat) (i:Int):Option Nat:=if 0<=i then(if i<n then QB i.toNat else QF) else if -(n:Int)<=i then QB (i+n).toNat else QF
noncomputable def kZ (xs:List α) (i:Int):Option α:=(K3 xs.length i).bind fun j=>xs[j]?
theorem IJ (h:K3 n i=QB j):seqIndex? i n=QB j/\j<n/\ -(n:Int)<=i/\i<n:=by
 unfold K3 at h;by_cases h0:0<=i
 ·rw[if_pos h0] at h
  by_cases h1:i<n
  ·rw[if_pos h1] at h;have e:=QX h;exact⟨by rw[seqIndex_of h0 h1,e],by omega,by omega,h1⟩
  ·rw[if_neg h1] at h;cases h
 ·rw[if_neg h0] at h
  by_cases h1: -(n:Int)<=i
  ·rw[if_pos h1] at h;have e:=QX h;exact⟨by rw[seqIndex_neg (by omega) h1,e],by omega,h1,by omega⟩
  ·rw[if_neg h1] at h;cases h
theorem vE (h:kZ xs i=QB v):∃j,seqIndex? i xs.length=QB j/\xs[j]? =QB v/\j<xs.length/\ -(xs.length:Int)<=i/\i<xs.length:=by
 unfold kZ at h;cases e:K3 xs.length i with
 |none=>rw[e] at h;cases h
 |some j=>rw[e] at h;obtain⟨h1,h2,b,a⟩:=IJ e;exact⟨j,h1,h,h2,b,a⟩
theorem BI {j:Nat} (h:xs[j]? =QB v):kZ xs (j:Int)=QB v:=by
 have a:=(QK.mp h).1;have e:K3 xs.length (j:Int)=QB j:=by unfold K3;rw[if_pos (by omega),if_pos (by omega)];simp
 unfold kZ;rw[e];exact h
def Ke (b:RN):Prop:=∀o i,subscripted b QN o i=operate [o,i] (getItem o i)
def IxR (X:Cx) (r:R2):Prop:=
 ∀(value a:RN) (pins:List (QI×Obj)) (s:QL) (σ:St) (H:Hp) (x y:V) (v u:QD) (Q:VK),Inv X pins σ H s->RelV x v->RelV y u->r x y H Q->
  subscripted a QN v u=operate [v,u] (getItem v u)->wpAny (model X.prog X.w) X.A (subscriptTail value a v u) (EP X pins σ Q) X.xe s
def PZ (X:Cx) (id:String) (r:V->List V->Hp->VK->Prop):Prop:=
 ∀(pins:List (QI×Obj)) (s:QL) (σ:St) (H:Hp) (x:V) (xs:List V) (v:QD) (us:List QD) (Q:VK),Inv X pins σ H s->RelV x v->Vals xs us->r x xs H Q->
  wpAny (model X.prog X.w) X.A (call (.builtin id) (v::us)) (EP X pins σ Q) X.xe s
section
variable {X:Cx} {a b:RN} {ta tb:TE} {pos:Pos}
theorem IxR.or (h:IxR X r) (h':IxR X r'):IxR X (fun x y H Q=>r x y H Q\/r' x y H Q):=by
 intro value a pins s σ H x y v u Q I e b q f;rcases q with q|q
 ·exact h value a pins s σ H x y v u Q I e b q f
 ·exact h' value a pins s σ H x y v u Q I e b q f
theorem c7 {r:R2} (i:IxR X r) (ha:PE X a ta) (j:PE X b tb) (g:Ke b):PE X (.Subscript a b pos) (KS r ta tb):=by intro pins s σ H Q I h;exact Subscript_ (ME ha j I h fun v u s2 x y H2 l f e q=>i a b pins s2 σ H2 x y v u Q l f e q (g _ _))
def OW (K:QC):R2:=fun x y H Q=>∃p xs i v,x= .ref p/\y= .int i/\VD K H p xs/\kZ xs i=QB v/\Q v H
def Oy (K:QC):R2:=fun x y H Q=>∃p xs i v,x= .ref p/\y= .int i/\Vx K H p xs/\kZ xs i=QB v/\Q v H
def Ox:R2:=fun x y H Q=>∃z i c,x= .str z/\y= .int i/\z.length<=QU/\kZ z.cps.toList i=QB c/\Q (.str ⟨#[c]⟩) H
theorem JO:IxR X (OW X.K):=by
 intro value b pins s σ H x y v u Q I m l h f;obtain⟨p,xs,i,z,rfl,rfl,n,A,q⟩:=h;cases m;obtain⟨t,rfl⟩:=l;obtain⟨RE,r,pl,F⟩:=I.list n;obtain⟨j,h1,h2,G,C,B⟩:=vE A;obtain⟨w,g,E⟩:=r.get h2;have o:=r.length;have hn:=u6;have a:EP X pins σ Q w s:=⟨z,H,I,E,q⟩;by_cases h0:0<=i
 ·have e:i.toNat=j:=by
   rw[seqIndex_of h0 B] at h1;exact QX h1
  exact item_listR pl.isList h0 (by omega) (by rw[e];simpa using g) a f
 ·have e:(i+(RE.toArray.size:Int)).toNat=j:=by
   rw[seqIndex_neg (by omega) C] at h1;rw[Q1,<-o];exact QX h1
  exact subscriptTail_builtinR pl.isList.typeIs slot_list_getitem.lookup
   (wpAny_getItem_list_neg pl.isList (by omega) (by rw[Q1]<;>omega) (by omega) (by rw[e];simpa using g) ⟨rfl,a⟩) f
theorem NU:IxR X (Oy X.K):=by
 intro value a pins s σ H x y v u Q I f e h g;obtain⟨p,xs,i,z,rfl,rfl,l,n,q⟩:=h;cases f;obtain⟨t,rfl⟩:=e;obtain⟨RE,r,pl,B⟩:=I.tuple l;obtain⟨j,h1,h2,F,E,C⟩:=vE n;obtain⟨w,o,A⟩:=r.get h2;have m:=r.length;have hn:=u6;have b:EP X pins σ Q w s:=⟨z,H,I,A,q⟩;exact subscriptTail_builtinR pl.typeIs slot_tuple_getitem.lookup
  (getItem_tuple pl (by omega) (by omega) (by rw[Q1,<-m];exact h1) (by simpa using o) ⟨rfl,b⟩) g
theorem MN:IxR X Ox:=by
 intro value a pins s σ H x y v u Q I e b h f;obtain⟨z,i,c,rfl,rfl,w,l,q⟩:=h;obtain⟨t,rfl⟩:=e;obtain⟨r,rfl⟩:=b;obtain⟨j,h1,h2,A,n,m⟩:=vE l;have g:z.cps.toList.length=z.length:=by simp[Str.length]
 rw[g] at h1 n m;have hn:=u6;exact tail_any (typeIs_str s z t) slot_str_getitem.lookup (getItem_str (by have p:decide (i< -(2^63:Int))=QN:=decide_eq_false (by omega);have o:decide (i≥2^63)=QN:=decide_eq_false (by omega);rw[p,o,acu]) (by rw[h1];simpa using h2) ⟨.str ⟨#[c]⟩,H,I.tok _,⟨_,rfl⟩,q⟩) f
def Pr (K:QC):R2:=fun x y H Q=>OW K x y H Q\/Oy K x y H Q\/Ox x y H Q
theorem b4:IxR X (Pr X.K):=JO.or (NU.or MN)
theorem T4.or (h:T4 X f r) (h':T4 X f r'):T4 X f (fun xs H Q=>r xs H Q\/r' xs H Q):=by
 intro pins s σ H xs us Q I a q;rcases q with q|q
 ·exact h pins s σ H xs us Q I a q
 ·exact h' pins s σ H xs us Q I a q
theorem v8:T4 X (.type "list") (fun xs H Q=>∃p ys,xs=[.ref p]/\(VD X.K H p ys\/Vx X.K H p ys)/\∀l,H l=QF->Q (.ref l) (bv H l (.lst ys))):=by
 intro pins s σ H xs us Q I r h;obtain⟨p,ys,rfl,g,q⟩:=h;obtain⟨u,rfl,v⟩:=lz r;cases v
 have j:∀(RE:List QD),Vals ys RE->ys.length<=QU->∀(h':Heap) (a:Nat),(∀b o',s.heap.get? b=QB o'->h'.get? b=QB o')->
   h'.get? s.heap.objs.size=QB {cls:= .type "list",dict:=QF,data:= .seq RE.toArray a,slots:= #[]}->EP X pins σ Q (.ref s.heap.objs.size) {s with heap:=h'}:=fun RE r' f h' a kp e=>
  ⟨.ref s.heap.objs.size,_,I.laid kp (QS _) (show ObjOk X.prog X.w _ h' _ (.lst ys) from⟨f,RE,a,r',e⟩),rfl,q _ (I.Sa.fresh (QS _))⟩
 rcases g with g|g
 ·obtain⟨RE,r',pl,f⟩:=I.list g;have i:=r'.length;obtain⟨o,m,t,n,hd⟩:=pl.isList;exact ahR p (.inl rfl) m t hd (fun h' a kp e=>j RE r' f h' a kp e) (by simp only[Q1]<;>omega)
 ·obtain⟨RE,r',pl,f⟩:=I.tuple g;have i:=r'.length;obtain⟨o,m,t,n,hd⟩:=pl;exact ahR p (.inr rfl) m t hd (fun h' a kp e=>j RE r' f h' a kp e) (by simp only[Q1]<;>omega)
theorem cV:T4 X (.type "tuple") (fun xs H Q=>∃p ys,xs=[.ref p]/\((VD X.K H p ys/\∀l,H l=QF->Q (.ref l) (bv H l (.tup ys)))\/(Vx X.K H p ys/\Q (.ref p) H))):=by
 intro pins s σ H xs us Q I r h;obtain⟨p,ys,rfl,h⟩:=h;obtain⟨u,rfl,i⟩:=lz r;cases i;rcases h with⟨hq,q⟩|⟨hq,q⟩
 ·obtain⟨RE,r',pl,a⟩:=I.list hq
  have f:=r'.length;refine call_tuple_list pl.isList (fun h' kp=> ?_) (by simp only[Q1]<;>omega);have g:=I.kept (t':=s.toks) kp
  have j:=
   g.laid (t':=s.toks) (fun b o e=>Heap.get?_push_of_some _ e) (QS _) (show ObjOk X.prog X.w _ _ _ (.tup ys) from⟨a,RE,r',XJ.new _ _⟩)
  exact⟨.ref h'.objs.size,_,j,rfl,q _ (g.Sa.fresh (QS _))⟩
 ·obtain⟨RE,r',pl,a⟩:=I.tuple hq;exact call_tuple_same pl ⟨.ref p,H,I,rfl,q⟩
def PD (K:QC) (T:String) (x:V) (H:Hp):Prop:=match x with
 | .str _=>T= "str"
 | .int _=>T= "int"
 | .ref p=>(T= "list"/\∃xs,VD K H p xs)\/(T= "tuple"/\∃o,K.lookup p=QB o/\o.cls= .type "tuple"/\o.dict=QF)\/
   (T= "dict"/\((∃Rc,H p=QB (.dK Rc))\/∃Rc,H p=QB (.dT Rc)))\/(T= "set"/\∃S n,H p=QB (.set S n))
 |_=>False
theorem Fg (I:Inv X pins σ H s) (r:RelV x v) (ty:PD X.K T x H):
  s.TypeIs v T/\∀a,v= .ref a->∃ob,s.heap.get? a=QB ob/\ob.dict=QF:=by
 cases x with
 |str z=>obtain⟨t,rfl⟩:=r;cases(show T= "str" from ty);exact⟨typeIs_str s z t,fun _ e=>nomatch e⟩
 |int i=>obtain⟨t,rfl⟩:=r;cases(show T= "int" from ty);exact⟨XA s i t,fun _ e=>nomatch e⟩
 |ref p=>
  cases r;rcases ty with⟨rfl,xs,hq⟩|⟨rfl,o,hk,hc,hd⟩|⟨rfl,hk⟩|⟨rfl,S,n,hk⟩
  ·obtain⟨RE,_,pl,_⟩:=I.list hq;refine⟨pl.isList.typeIs,fun a e=> ?_⟩;cases e;obtain⟨o,n,e,c,hd,_⟩:=pl;exact⟨o,e,hd⟩
  ·refine⟨⟨o,I.UT p o hk,hc⟩,fun a e=> ?_⟩;cases e;exact⟨o,I.UT _ o hk,hd⟩
  ·have z:∃o,s.heap.get? p=QB o/\o.ExactDict:=by
    rcases hk with⟨Rc,hk⟩|⟨Rc,hk⟩
    ·obtain⟨_,_,_,_,o,_,_,e,ex,_⟩:=I.Sa p _ hk;exact⟨o,e,ex⟩
    ·obtain⟨_,_,_,_,o,_,_,e,ex,_⟩:=I.Sa p _ hk;exact⟨o,e,ex⟩
   obtain⟨o,e,ex⟩:=z;refine⟨⟨o,e,ex.1⟩,fun a b=> ?_⟩;cases b;exact⟨o,e,ex.2.1⟩
  ·obtain⟨o,_,_,_,e,ex,_⟩:=I.Sa p _ hk;refine⟨⟨o,e,ex.1⟩,fun a b=> ?_⟩;cases b;exact⟨o,e,ex.2.1⟩
 |_=>exact False.elim ty
def Mg (K:QC) (T:String) (r:V->List V->Hp->VK->Prop) (to:TE):TE:=fun σ H Q=>to σ H fun x H1=>PD K T x H1/\r x [] H1 Q
def P0 (K:QC) (T:String) (r:V->List V->Hp->VK->Prop) (to:TE) (t:TA):TE:=fun σ H Q=>to σ H fun x H1=>PD K T x H1/\t σ H1 fun xs H2=>r x xs H2 Q
variable {o e:RN} {es:List RN} {to:TE} {t:TA} {name:Str} {apos Uo:Pos} {T id:String} {r:V->List V->Hp->VK->Prop}
theorem zU (pa:PlainAttrs T) (slot:Slot T name id) (a:typeOf (.builtin id)=pure (.type "method_descriptor")) (hm:PZ X id r) (f:PE X o to)
  (g:attributeBase o name X.env (eval o X.env)=eval o X.env:=by rfl) (b:(apos.endLine==Uo.line)=QG:=by rfl):PE X (.Call (.Attribute o name apos) [] [] Uo) (Mg X.K T r to):=by
 intro pins s σ H Q I h;refine wpAny_Call_method0_late g b (cG (f pins s σ H _ I h) fun v s1 ⟨x,H1,e,r1,ty,q1⟩=> ?_);obtain⟨h1,h2⟩:=Fg e r1 ty;exact⟨T,id,pa,slot,a,h1,h2,Calls.callWith_builtin rfl (PySem.evalArgs_none (hm pins s1 σ H1 x [] v [] Q e r1 .nil q1))⟩
theorem um (pa:PlainAttrs T) (slot:Slot T name id) (a:typeOf (.builtin id)=pure (.type "method_descriptor")) (hm:PZ X id r) (n:PE X o to) (ha:PA X (e::es) t)
  (q:attributeBase o name X.env (eval o X.env)=eval o X.env:=by rfl)
  (b:((backTo Uo (Q9 (e::es) X.env)).all (fun x=> !x.1)&&(backToKw Uo (keywordEach [] X.env)).all (fun x=>x.1.isSome)
   &&decide ((e::es).length+([]:List X4).length+(if([]:List X4).isEmpty then 0 else 1)<30))=QG:=by rfl)
  (f:(apos.endLine==Uo.line)=QG:=by rfl) (m:Q9 (e::es) X.env=(QN,eval e X.env)::Q9 es X.env:=by rfl) (p:(backTo Uo (Q9 es X.env)).any (·.1)=QN:=by rfl):
  PE X (.Call (.Attribute o name apos) (e::es) [] Uo) (P0 X.K T r to t):=by
 intro pins s σ H Q I h;refine wpAny_Call_method_late q b f rfl (cG (n pins s σ H _ I h) fun v s1 ⟨x,H1,i,r1,ty,q1⟩=> ?_);obtain⟨h1,h2⟩:=Fg i r1 ty;refine⟨T,id,pa,slot,a,h1,h2,?_⟩;have g:=ha Uo pins s1 σ H1 _ i q1;rw[m] at g⊢;refine Calls.callWith_builtin (by show(QN||(backTo Uo (Q9 es X.env)).any (·.1))=QN;rw[p]<;>rfl) (Calls.evalArgs_plain ?_);exact cG g fun us s2 ⟨vs,H2,u,j,l⟩=>hm pins s2 σ H2 x vs v us Q u r1 j l
end
def Qj (X:Cx) (id:String) (r:V->List V->Hp->VK->Prop):Prop:=
 ∀(pins:List (QI×Obj)) (s:QL) (σ:St) (H:Hp) (x:V) (xs:List V) (v:QD) (us:List QD) (Q:VK),Inv X pins σ H s->RelV x v->Vals xs us->r x xs H Q->
  wpAny (model X.prog X.w) X.A (call (.builtin id) (v::us)) (EP X pins σ Q) X.xe s
theorem Vals.one:∀{x:V} {us:List QD},Vals [x] us->∃u,us=[u]/\RelV x u
 |_,_,.cons r .nil=>⟨_,rfl,r⟩
theorem Vals.zero:∀{us:List QD},Vals [] us->us=[]
 |_,.nil=>rfl
theorem Vals.dropLast (h:Vals xs us):Vals xs.dropLast us.dropLast:=by
 induction h with
 |nil=>exact .nil
 |cons r t ih=>
  cases t with
  |nil=>exact .nil
  |cons q t'=>exact .cons r ih
theorem Vals.rep (h:Vals xs us):∀k:Nat,Vals (QP k xs).flatten (QP k us).flatten
 |0=> .nil
 |k+1=>by rw[RZ,RZ,Tb,Tb];exact Vals.append h (Vals.rep h k)
theorem Ab (l:List α):l.eraseIdx (l.length - 1)=l.dropLast:=by
 induction l with
 |nil=>rfl
 |cons a r ih=>
  cases r with
  |nil=>rfl
  |cons b r=>
   have e:(a::b::r).length - 1=((b::r).length - 1)+1:=by have h1:(a::b::r).length=r.length+2:=rfl;have h2:(b::r).length=r.length+1:=rfl;omega
   rw[e,List.eraseIdx_cons_succ,ih]
   all_goals rfl
theorem nQ (RE:List QD):∀(k:Nat) (a:List QD),
  VQ (fun x1 x2=>x1++x2) a.toArray (QP k RE.toArray)=(a++(QP k RE).flatten).toArray
 |0,a=>by simp
 |k+1,a=>by
  have e:a.toArray++RE.toArray=(a++RE).toArray:=by simp
  have b:(a++RE)++(QP k RE).flatten=a++(QP (k+1) RE).flatten:=by rw[RZ,Tb,Rj]
  rw[<-b,<-nQ RE k (a++RE),<-e,RZ,VS]
section
variable {X:Cx} {pins:List (QI×Obj)} {σ:St} {H:Hp} {s:QL} {l b:QI} {xs ys zs:List V}
theorem Inv.aed {RE a:List QD} (I:Inv X pins σ H s) (j:H l=QB (.lst xs))
  (e:s.heap.get? l=QB {cls:= .type "list",data:= .seq RE.toArray n}) (h:f RE.toArray=a.toArray) (b:Vals ys a) (hz:ys.length<=QU):
  Inv X pins σ (bv H l (.lst ys)) {s with heap:=s.heap.update l (Obj.mapSeq f),toks:=t'}:=by
 have q:=ajd e f;rw[h] at q;refine I.write (by rw[j];exact trivial) (.inl rfl) (fun m u i g=>(Heap.get?_update_other s.heap (Obj.mapSeq f) (Ne.symm i)).trans g) ⟨_,q⟩ ?_;exact⟨hz,a,_,b,q⟩
theorem Inv.aei (I:Inv X pins σ H s) (a:Vals ys RE) (hz:ys.length<=QU):
  Inv X pins σ (bv H s.heap.objs.size (.lst ys)) {s with heap:=s.heap.push {cls:= .type "list",data:= .seq RE.toArray},toks:=t'}:=
 I.laid (fun _ _ q=>Heap.get?_push_of_some _ q) (QS _) ⟨hz,RE,0,a,Heap.get?_push_size _ rfl⟩
theorem Inv.fresh (I:Inv X pins σ H s):H s.heap.objs.size=QF:=I.Sa.fresh (QS _)
theorem Inv.ac7 (I:Inv X pins σ H s) (a:H l=QB (.lst xs)):xs.length<=QU/\∃(RE:List QD) (n:Nat),Vals xs RE/\xs.length=RE.length/\s.heap.get? l=QB {cls:= .type "list",data:= .seq RE.toArray n}:=by obtain⟨z,RE,n,r,e⟩:=I.Sa l _ a;exact⟨z,RE,n,r,r.length,e⟩
theorem G4 (h:n<=QU):RY.List.listTooLong n=QN:=by unfold RY.List.listTooLong;exact decide_eq_false (by omega)
end
section
variable {X:Cx}
def vR:V->List V->Hp->VK->Prop:=fun x vs H Q=>∃l xs y,x= .ref l/\vs=[y]/\H l=QB (.lst xs)/\xs.length<QU/\Q .Te (bv H l (.lst (xs++[y])))
theorem fJ:Qj X "list.append" vR:=by intro pins s σ H x vs v us Q I b rv h;obtain⟨l,xs,y,rfl,rfl,a,g,q⟩:=h;cases b;obtain⟨u,rfl,f⟩:=rv.one;obtain⟨z,RE,n,r,i,e⟩:=I.ac7 a;refine Vu F.slot_list_append ⟨_,e,rfl⟩ F.entry_list_append (F.args_list_append_2 _ _) (PySem.list_append l RE.toArray n u (by rw[Q1];omega)) ⟨e,?_⟩;refine⟨.Te,_,I.aed a e (by simp) (r.append (.cons f .nil)) ?_,rfl,q⟩;rw[QM,V8];omega
def OB:V->List V->Hp->VK->Prop:=fun x vs H Q=>∃l xs y,x= .ref l/\vs=[]/\H l=QB (.lst xs)/\xs[xs.length - 1]? =QB y/\Q y (bv H l (.lst xs.dropLast))
theorem Ng:Qj X "list.pop" OB:=by
 intro pins s σ H x vs v us Q I g rv h;obtain⟨l,xs,y,rfl,rfl,f,j,q⟩:=h;cases g;have b:=rv.zero;subst b;obtain⟨z,RE,n,r,o,e⟩:=I.ac7 f;obtain⟨u,m,i⟩:=r.get j;have a:RE.toArray[RE.toArray.size - 1]? =QB u:=by show RE.toArray[RE.length - 1]? =QB u;rw[<-VT,<-o];exact m
 refine Vu F.slot_list_pop ⟨_,e,rfl⟩ F.entry_list_pop (F.args_list_pop_1 _) (MeetsSeq.list_pop_last l RE.toArray n u a (by rw[Q1];omega)) ⟨e,?_⟩;refine⟨y,_,I.aed f e ?_ r.dropLast ?_,i,q⟩
 ·show RE.toArray.eraseIdxIfInBounds (RE.toArray.size - 1)=RE.dropLast.toArray;rw[Q1,List.eraseIdxIfInBounds_toArray,Ab]
 ·rw[List.length_dropLast];omega
theorem Cg (xs:List α) (k:Nat):(QP k xs).flatten.length=k*xs.length:=by
 induction k with
 |zero=>simp
 |succ k ih=>rw[RZ,Tb,QM,ih,adT,Xq]
end
section
variable {prog:Q7} {w:Rv} {A:Rp} {E:QD->QL->Prop} {s:QL}
set_option maxRecDepth 100000 in
end
end L2
namespace Att
open PySem PySem.W PySem.Calls PyProof.Rows
theorem o9:∀(ns:List Int) (vs:List QD),WellAll P h vs (ns.map WData.int)->IntsAre vs ns:=by
 intro ns
 induction ns with
 |nil=>intro vs w;rw[T6] at w;cases w;exact .nil
 |cons n ns ih=>
  intro vs w;rw[QY] at w;cases w with
  |cons a b=>cases a;exact .cons _ _ (ih _ b)
theorem Co {l:OpenLaw} (hn:l.most=QB n)
  (e:l.row.toRowW.claim.pre args=QG) (i:WellAll P h vals args):
  ∃a vs ns,vals=[QD.ref a]/\args=[WData.list (ns.map WData.int)]/\h.get? a=QB {cls:= .type "list",data:= .seq vs.toArray}/\IntsAre vs ns/\ns.length<=n:=by
 have j:=(pre_splitW e).1;have m:l.pre.holds [] {args:=args}=QG:=(pre_splitW e).2;obtain⟨d,r,rfl,h1,h2⟩:=hasAllW_cons j;obtain rfl:=hasAllW_nil h2;obtain⟨xs,rfl,p⟩:=hasW_list h1;obtain⟨ns,rfl⟩:=items_int p;have b:ns.length<=n:=by
  unfold OpenLaw.pre at m;have g:(WTm.not (.lt (.lit (.int (n:Int))) (.len (.arg 0)))).holds [] {args:=[.list (ns.map .int)]}=QG:=by have g:=(holds_andW m).1;rw[hn] at g;exact g
  have f:=condW_of g (w_not (w_lt w_lit (w_len_list (w_arg rfl))));rw[QH] at f;refine Nat.le_of_not_lt fun q=> ?_;have o:(n:Int)<((ns.length:Nat):Int):=by omega
  first
   |(rw[decide_eq_true o] at f;exact absurd f (by decide))
   |(simp at f;omega)
 cases i with
 |cons w1 w2=>
  cases w2;cases w1 with
  |list ho af5=>exact⟨_,_,ns,rfl,rfl,ho,o9 ns _ af5,b⟩
theorem Dn (l:OpenLaw) (args:List WData):l.row.toRowW.claim.post args (.bool QG) args=QG:=
 postW_of
  (show WShape.has [] (.bool QG) .bool=QG by first|rfl|decide|simp[WShape.has,WShape.arms,WShape.armsAll])
  (show(WTm.eq .res (.lit (.bool QG))).value [] {args:=args,res:=QB (.bool QG),after:=args}=QB (.bool (QG==QG)) from w_eq_bool (w_res rfl) w_lit) rfl
theorem attach_call {l:OpenLaw} {n:Nat} {q:Q7} {e:List Str} {y:(Str->Option QD)->Heap->Prop} {v:Rv->Heap->Prop} {d:DefRec}
  (hn:l.most=QB n) (m:d.params.defaults=[])
  (call:∀(w:Rv) (s₀ b:QL) (mg mb:Str->Option QD) (fa:QI) (o:Obj) (pm cd doc:QD) (a:QI) (vs:List QD) (ns:List Int),
   Ground q e [] y w s₀ mg mb b.heap->v w b.heap->
   b.heap.get? fa=QB o->o.data= .func (docDef d.name d.params d.body d.scope pm cd doc)->b.heap.CodeRec cd d.name->mg d.name=QB (.ref fa)->
   b.heap.get? a=QB {cls:= .type "list",data:= .seq vs.toArray}->IntsAre vs ns->ns.length<=n->b.gens= #[]->
   codeAny (model l.prog w) callerA (.call (.ref fa) ⟨[.ref a],[]⟩) (fun r s'=>r= .ok (.ret (.bool QG))/\OldK b.heap s'.heap/\s'.os=b.os/\AllBare s'.gens) b):
  WalkO q e y v l.row.toRowW d [] (fun f vs=>adU f vs):=by
 intro w s₀ b mg mb G Y fa o pm cd doc dV kV B hd J u j E args vals as t I z i C;obtain rfl:dV= .none:=Dflts.none u m;obtain rfl:kV= .none:=Dflts.noKw u;obtain⟨a,vs,ns,rfl,rfl,p,g,h⟩:=Co hn t i;refine enter_call (Vj (call w s₀ b mg mb fa o pm cd doc a vs ns G Y B (fd_plain hd) J j p g h E) fun r s' A=> ?_);obtain⟨rfl,h2,H,F⟩:=A;exact⟨.inl ⟨.bool QG,.bool QG,[],rfl,fun _=>rfl,.bool QG,Dn l _,fun _=>⟨VU,fun _ hm=>(nomatch hm)⟩⟩,h2,H,F⟩
end Att
namespace L2
open PySem PySem.Spec PyProof.Rows
theorem iZ:∀{vs:List QD} {ns:List Int},IntsAre vs ns->Vals (ns.map V.int) vs
 |_,_,.nil=> .nil
 |_,_,.cons n t h=> .cons ⟨t,rfl⟩ (iZ h)
def OI (H:Hp):Prop:=∀b,H b=QF\/∃o xs,H b=QB (.frz o (.lst xs))
theorem D3 {P:Q7} {w:Rv} {K:QC} {mg mb:Str->Option QD} {CX:wA} {k:Nat} {fa a:QI} {fd:RQ} {x:Str} {sp:Sp} {f:QL} {vs:List QD} {ns:List Int}
  (T:K.In f.heap) (p:f.heap.Ns QW mg) (g:f.heap.Ns builtinsNs mb) (C:∀x:Str,x≠ "__name__"->mb x=RP x) (L:f.heap.NoLimit) (Z:f.gens= #[])
  (ha:f.heap.get? a=QB {cls:= .type "list",data:= .seq vs.toArray}) (hi:IntsAre vs ns) (N:ns.length<=QU) (Y:S9 k callerA)
  (F:∀base:Heap,K.In base->base.Ns QW mg->FnOk P w K mg base CX k fa fd [x] sp) (M:∀(s:QL) (u:QD),Wr s fd ⟨[u],[]⟩ [(x,u)])
  (B:∀H:Hp,OI H->VD K H a (ns.map V.int)->sp [.ref a] H (fun v _=>v= .bl QG) fun _ _ _=>False)
  (E:∀H e s',CX [] H f (fun _ _ _=>False) e s'->False):
  codeAny (model P w) callerA (.call (.ref fa) ⟨[.ref a],[]⟩) (fun r s'=>r= .ok (.ret (.bool QG))/\OldK f.heap s'.heap/\s'.os=f.os/\AllBare s'.gens) f:=by
 have rv:=iZ hi;have I:=hi.length
 have j:∀H:Hp,OI H->VD K H a (ns.map V.int)->Wb P w H f.heap->(∀b,H b≠QF->b=a)->(H a≠QF->K.lookup a=QF)->
   codeAny (model P w) callerA (.call (.ref fa) ⟨[.ref a],[]⟩) (fun r s'=>r= .ok (.ret (.bool QG))/\OldK f.heap s'.heap/\s'.os=f.os/\AllBare s'.gens) f:=by
  intro H O hS Sa Q hK;have S:∀{b:QI} {o:Obj},f.heap.get? b=QB o->H b=QF->(vQ f.heap H).get? b=QB o:=fun e n=>Fu e n;have A:∀{b:QI} {o:Obj} {es:Array UB} {y:Nat},f.heap.get? b=QB o->o.data= .dict es y->H b=QF:=fun{b o es y} e d=>by
   cases q:H b with
   |none=>rfl
   |some u=>have G:b=a:=Q b (by rw[q];simp);subst G;rw[ha] at e;cases e;have d':Data.seq vs.toArray _=Data.dict es y:=d;cases d'
  have i:∀{b:QI} {m:Str->Option QD},f.heap.Ns b m->(vQ f.heap H).Ns b m:=fun{b m} ⟨o,es,y,e,d,r⟩=>⟨o,es,y,S e (A e d),d,r⟩;have t:K.In (vQ f.heap H):=fun b o e=>S (T b o e) (by
   cases q:H b with
   |none=>rfl
   |some u=>have G:b=a:=Q b (by rw[q];simp);subst G;rw[hK (by rw[q];simp)] at e;cases e)
  have hM:Mod K mg (vQ f.heap H):=⟨t,i p,⟨mb,i g,C⟩,let⟨mc,h1,h2⟩:=L;⟨mc,i h1,h2⟩⟩;have e0:Env0 P w K mg (vQ f.heap H) callerA [] f H:=⟨rfl,hM,fun b o e=>Jz e,U7 (Dg _ _),trivial,fun b g=>absurd (show b∈([]:List QI) from g) (by simp),Sa,.of_eq Z⟩;refine Vj ((F _ t (i p)).run callerA [] f H ⟨[.ref a],[]⟩ [.ref a] [.ref a] _ _ Y e0 (M f (.ref a)) (.cons rfl .nil) (B H O hS)) fun r s' h=> ?_;cases r with
  |error e=>exact(E H e s' h).elim
  |ok fl=>
   cases fl with
   |next=>exact False.elim h
   |brk=>exact False.elim h
   |cont=>exact False.elim h
   |ret u=>
    obtain⟨v,H',os,bare,un,J,r',q⟩:=h;have X:v= .bl QG:=q;subst X;obtain rfl:u=QD.bool QG:=r';refine⟨rfl,OldK.of_keep fun b o e=> ?_,os,bare⟩;cases q:H b with
    |none=>exact un.keep b o e q (by intro z;exact absurd (show b∈([]:List QI) from z) (by simp)) (by simp)
    |some u=>
     rcases O b with z|⟨ob,xs,z⟩
     ·rw[q] at z;cases z
     ·have U:=un.WO b ob _ z;obtain⟨R,_⟩:=Sa b _ z;obtain⟨e2,_⟩:=J b _ U;rw[e] at R;cases R;exact e2
 cases hk:K.lookup a with
 |some o=>have e:=T a o hk;rw[ha] at e;cases e;refine j (fun _=>QF) (fun _=> .inl rfl) (.inr ⟨_,vs.toArray,_,hk,rfl,rfl,rfl,by rw[Q1,I];exact N,by simpa using rv⟩) (fun b u z=>by have l:(QF:Option HO)=QB u:=z;cases l) (fun b z=>absurd rfl z) fun z=>absurd rfl z
 |none=>
  refine j (fun b=>if b=a then QB (.frz {cls:= .type "list",data:= .seq vs.toArray} (.lst (ns.map V.int))) else QF) (fun b=> ?_) (.inl (.inr ⟨{cls:= .type "list",data:= .seq vs.toArray},if_pos rfl⟩)) (fun b u z=> ?_) (fun b z=> ?_) fun _=>hk
  ·by_cases g:b=a
   ·exact .inr ⟨_,_,if_pos g⟩
   ·exact .inl (if_neg g)
  ·by_cases g:b=a
   ·have l:=(if_pos g).symm.trans z;cases l;subst g;exact⟨ha,by rw[QH];exact N,vs,_,rv,ha⟩
   ·have l:=(if_neg g).symm.trans z;cases l
  ·by_cases g:b=a
   ·exact g
   ·exact absurd (if_neg g) z
noncomputable def aZ (s:Tg) (j:Nat):Tg:=match s with
 | .ClassDef _ _ _ body _ _ _ _ _ _ _=>body.getD j (.Pass ⟨0,0,0,0⟩)
 |_=> .Pass ⟨0,0,0,0⟩
noncomputable def fC (s:Tg):Arguments:=match s with
 | .FunctionDef _ a _ _ _ _ _ _ _ _=>a
 |_=>{posonlyargs:=[],args:=[],vararg:=QF,kwonlyargs:=[],kw_defaults:=[],kwarg:=QF,defaults:=[]}
noncomputable def b6 (s:Tg):List Tg:=match s with
 | .FunctionDef _ _ b _ _ _ _ _ _ _=>b
 |_=>[]
noncomputable def ay (s:Tg):Uc:=match s with
 | .FunctionDef _ _ _ _ _ _ sc _ _ _=>sc
 |_=>{kind:= .function,names:=[],isGenerator:=QN,isCoroutine:=QN}
noncomputable abbrev di:wA:=fun _ _ _ _ _ _=>False
noncomputable abbrev E0:XK:=fun _ _ _=>False
theorem E6:fE di X E0:=fun _ _ _ _ _ _ _ h=>h.elim
structure Up (K:QC) (x qual:Str) (st:Tg) (f:QI) (fd:RQ):Prop where
 ex:∃(oc:QD) (od:Option QI) (kV doc pm:QD) (an:Option QI) (Sl ct:QD) (Y0:Array (Option QD)),
  fd=So x qual (fC st) (b6 st) (ay st) .none kV doc pm an Sl ct/\K.lookup f=QB ⟨oc,od,.func fd,Y0⟩/\UZ K Sl qual=QG
 kp:SI K (.ref f)=QG
section
variable {P:Q7} {w:Rv} {K:QC} {mg:Str->Option QD} {base:Heap}
theorem Up.ok {x qual:Str} {st:Tg} {f:QI} {fd:RQ} {N ps:List Str} {k:Nat} {sp:Sp} (F:Up K x qual st f fd) (S:Tz N ps (ay st)) (len:∀vs H Q E,sp vs H Q E->vs.length=ps.length)
  (i:∀(Sl:QD) (A:Rp) (outer:List Env) (s:QL) (H:Hp) (vs:List V) (Q:VK) (E:XK),S9 k (A.deeper (envOfC qual (ay st) s.heap.objs.size f Sl))->sp vs H Q E->
   ∃t,Xg (eT di P w K mg base N qual (ay st) f Sl A outer s H E).nox (b6 st) t/\t {nx:=fun _ H'=>Q .Te H',rt:=Q} (start N vs) H):FnOk P w K mg base di (k+1) f fd ps sp:=by
 obtain⟨oc,od,kV,doc,pm,an,Sl,ct,Y0,rfl,b,g⟩:=F.ex;refine Fy b g S len fun A outer s H vs Q E e a=> ?_;obtain⟨t,h,q⟩:=i Sl A outer s H vs Q E e a;exact⟨t,h.nox,q⟩
theorem Up.binds {x qual:Str} {st:Tg} {f:QI} {fd:RQ} {ps:List Str} (F:Up K x qual st f fd)
  (h:∀(kV doc pm:QD) (an:Option QI) (Sl ct:QD) (us:List QD),us.length=ps.length->bindArgs (So x qual (fC st) (b6 st) (ay st) .none kV doc pm an Sl ct) ⟨us,[]⟩=pure (ps.zip us)):Binds K fd ps []:=by
 obtain⟨oc,od,kV,doc,pm,an,Sl,ct,Y0,rfl,a,b⟩:=F.ex;exact .all (h kV doc pm an Sl ct)
theorem FD {st:Tg} {kV doc pm Sl ct:QD} (l:K.lookup f=QB ⟨oc,od,.func (So x qual (fC st) (b6 st) (ay st) .none kV doc pm an Sl ct),Y0⟩)
  (c:UZ K Sl qual=QG) (k:SI K (.ref f)=QG):Up K x qual st f (So x qual (fC st) (b6 st) (ay st) .none kV doc pm an Sl ct):=⟨⟨oc,od,kV,doc,pm,an,Sl,ct,Y0,rfl,l,c⟩,k⟩
end
theorem BT (a:S9 k A):A.units+1<cLine:=WY (Nat.add_le_add_left (by decide:1<=64) _) a.units
section
variable {X:Cx}
theorem pv (i:Nat) (b:X.N[i]? =QB x:=by rfl) (a:PH X.env.scope x:=by first|exact Or.inl rfl|exact Or.inr (Or.inl rfl)|exact Or.inr (Or.inr rfl)) (hd:(x==("__debug__":Str))=QN:=by decide)
  (e:(x==("__classdict__":Str))=QN:=by decide):PE X (.Name x pos) (x4 i):=MB b a hd e
end
def SD (H H':Hp):Prop:=∀b o,H b=QB o->H' b=QB o
theorem SD.refl (H:Hp):SD H H:=fun _ _ h=>h
theorem SD.trans (a:SD H H1) (b:SD H1 H2):SD H H2:=fun c o h=>b c o (a c o h)
theorem SD.free (e:SD H H') (h:H' l=QF):H l=QF:=by
 cases q:H l with
 |none=>rfl
 |some o=>rw[e l o q] at h;cases h
end L2
set_option maxHeartbeats 4000000
namespace L2
open PySem PySem.Spec PyProof.Rows
section
variable {X:Cx} {pins:List (QI×Obj)} {σ:St} {H:Hp} {s:QL} {h':Heap}
theorem Inv.ZO {ch:List QI} (I:Inv X pins σ H s) (i:∀b∈ch,oi X pins H b)
  (k:∀b u,b∉ch->s.heap.get? b=QB u->h'.get? b=QB u) (hp:s.heap.objs.size<=p)
  (new:ObjOk X.prog X.w (bv H p o) h' p o):Inv X pins σ (bv H p o) {s with heap:=h',toks:=t'}:=by
 have hn:=I.Sa.fresh hp;have f:∀b u,H b=QB u->b∉ch:=fun b u e z=>by rw[(i b z).1] at e;cases e
 have h:∀b u,s.heap.get? b=QB u->b≠p:=fun b u e=>Ra (Q6 (Heap.lt_size e) hp);refine I.step (fun b g=> ?_) (fun b u _ _ a e _=>k b u a e) (fun b u _ _ a e _=>⟨u.slots,k b u a e⟩)
  (fun b u _ e n=>by rw[aA (h b u e)];exact n) (fun b u a e=>⟨u,k b u a e⟩) (fun b xs e=>by rw[aA (bU e hn)];exact e)
  (fun b u xs e=>by rw[aA (bU e hn)];exact e) (fun b ps e=>⟨#[],by rw[aA (bU e hn),e];simp⟩) (fun m hm=> ?_) (fun b u e=> ?_) I.bare
 ·obtain⟨_,h2,_,y,t,l⟩:=i b g;exact⟨y,h2,t,l⟩
 ·obtain⟨ob,es,A,j,r⟩:=hm;exact⟨ob,es,A,k _ ob (fun z=>(i _ z).2.1 rfl) j,r⟩
 ·by_cases g:b=p
  ·subst g;rw[aC] at e;cases e;exact new
  ·rw[aA g] at e
   refine(I.Sa b u e).U9 (fun c v a q=>k c v ?_ q) (fun c q=>by rw[aA (bU q hn)];exact q) fun c xs q=>by rw[aA (bU q hn)];exact q
   rcases a with z|z
   ·rw[z];exact f b u e
   ·exact f c _ z
end
mutual
inductive DV (K:QC) (H:Hp):V->QJ->Prop
 |Te:DV K H .Te .none
 |bl (b:Bool):DV K H (.bl b) (.bool b)
 |int (i:Int):DV K H (.int i) (.int i)
 |str (x:Str):DV K H (.str x) (.str x)
 |tup {a:QI} {xs:List V} {ds:List QJ}:Vx K H a xs->SY K H xs ds->DV K H (.ref a) (.tuple ds)
 |lst {a:QI} {xs:List V} {ds:List QJ}:VD K H a xs->SY K H xs ds->DV K H (.ref a) (.list ds)
inductive SY (K:QC) (H:Hp):List V->List QJ->Prop
 |nil:SY K H [] []
 |cons {v:V} {vs:List V} {d:QJ} {ds:List QJ}:DV K H v d->SY K H vs ds->SY K H (v::vs) (d::ds)
end
section
variable {X:Cx} {pins:List (QI×Obj)} {σ:St} {H:Hp} {s:QL}
mutual
theorem DV.reads (I:Inv X pins σ H s):∀{v:V} {d:QJ} {u:QD},DV X.K H v d->RelV v u->∃as,abu s.heap u d as
 |_,_,_,.Te,r=>by cases r;exact⟨_,.none⟩
 |_,_,_,.bl b,r=>by cases r;exact⟨_,.bool b⟩
 |_,_,_,.int i,r=>by obtain⟨t,rfl⟩:=r;exact⟨_,.int i t⟩
 |_,_,_,.str x,r=>by obtain⟨t,rfl⟩:=r;exact⟨_,.str x t⟩
 |_,_,_,.tup h hs,r=>by cases r;obtain⟨RE,rv,⟨o,e,c,n,d⟩,_⟩:=I.tuple h;obtain⟨as,q⟩:=SY.reads I hs rv;exact⟨_,.tuple e c d (by simpa using q)⟩
 |_,_,_,.lst h hs,r=>by cases r;obtain⟨RE,rv,⟨o,n,e,c,_,d⟩,_⟩:=I.list h;obtain⟨as,q⟩:=SY.reads I hs rv;exact⟨_,.list e c d (by simpa using q)⟩
theorem SY.reads (I:Inv X pins σ H s):∀{vs:List V} {ds:List QJ} {us:List QD},SY X.K H vs ds->Vals vs us->∃as,Zl s.heap us ds as
 |_,_,_,.nil,r=>by cases r;exact⟨_,.nil⟩
 |_,_,_,.cons h hs,r=>by
  cases r with
  |cons r1 r2=>obtain⟨as,q⟩:=DV.reads I h r1;obtain⟨bs,a⟩:=SY.reads I hs r2;exact⟨_,.cons q a⟩
end
end
def Jj (K:QC) (neg:Bool):R2:=fun x y H Q=>∃dx dy,DV K H x dx/\DV K H y dy/\dx.canLay0=QG/\dy.canLay0=QG/\dx.depth<=64/\Q (.bl (if neg then !QJ.eqv dx dy else QJ.eqv dx dy)) H
section
variable {X:Cx}
theorem nw (g:X.A.units+64<cLine):OpR X (S3 .Eq) (Jj X.K QN):=by intro pins s σ H x y v u Q I b a h;obtain⟨dx,dy,h1,h2,l1,f,hd,q⟩:=h;obtain⟨as,r1⟩:=h1.reads I b;obtain⟨bs,e⟩:=h2.reads I a;exact afW r1 e l1 f (by omega) ⟨.bl _,H,I,rfl,q⟩
theorem GJ (g:X.A.units+64<cLine):OpR X (S3 .NotEq) (Jj X.K QG):=by intro pins s σ H x y v u Q I b a h;obtain⟨dx,dy,h1,h2,l1,f,hd,q⟩:=h;obtain⟨as,r1⟩:=h1.reads I b;obtain⟨bs,e⟩:=h2.reads I a;exact afX r1 e l1 f (by omega) ⟨.bl _,H,I,rfl,q⟩
def P1 (K:QC):List V->Hp->VK->Prop:=fun xs H Q=>∃x n t b,xs=[x,.ty n]/\W4 K H x t/\RL K t (.type n)=QB b/\Q (.bl b) H
theorem xq:T4 X (.builtin "isinstance") (P1 X.K):=by intro pins s σ H xs us Q I r h;obtain⟨x,n,t,b,rfl,ty,e,q⟩:=h;obtain⟨u,g,rfl,a,f⟩:=oB r;obtain rfl:=f;exact De I a ty e fun tk=>⟨.bl b,H,I.tok tk,rfl,q⟩
theorem DK:OpR X (S0 .FloorDiv) (rI (fun _ j=>0<j/\j.natAbs.log2<9000) fun i j=> .int (i/j)):=N6 fun i j _ _ _ _ _ a q=>by have h1:(0:Int)<j:=a.1;exact floordiv_int (by omega) (by rw[Yg i (by omega)];exact q) (.inl (PyProof.noPylong_of_log2 a.2))
end
noncomputable def hG (env:Env):List (Str×Ro)->List (Str×QI)->List (Str×QI)
 |[],acc=>acc
 |(n,k)::r,acc=>if(k==Ro.free)=QG then(match env.cells.lookup n with|some c=>hG env r ((n,c)::acc)|none=>hG env r acc) else hG env r acc
theorem lD {f:Str×Ro->List (Str×QI)->Sem (ForInStep (List (Str×QI)))}
  (h1:∀n k a,(k==Ro.free)=QN->f (n,k) a=pure (.yield a)) (h2:∀n c a,env.cells.lookup n=QB c->f (n,.free) a=pure (.yield ((n,c)::a))):
  ∀(names:List (Str×Ro)) (a:List (Str×QI)),(∀y∈names,y.2= .free->∃c,env.cells.lookup y.1=QB c)->forIn names a f=pure (hG env names a)
 |[],a,_=>rfl
 |(n,k)::r,a,h=>by
  have b:=fun y i=>h y (Q4 _ i);rw[UW];cases hk:(k==Ro.free) with
  |false=>rw[h1 n k a hk,pure_bind];show forIn r a f=_;rw[lD h1 h2 r a b];simp only[hG,hk,Ui,if_false]
  |true=>
   have e:k= .free:=by simpa using hk
   subst e;obtain⟨c,g⟩:=h _ Q8 rfl;rw[h2 n c a g,pure_bind];show forIn r ((n,c)::a) f=_;rw[lD h1 h2 r _ b];have j:=g;simp only[hG,hk,if_true,j]
theorem lM (h:∀y∈scope.names,y.2= .free->∃c,env.cells.lookup y.1=QB c):closureFor scope env=pure (hG env scope.names []):=by simp only[closureFor];rw[lD (fun n k a b=>by simp only[b,Ui,if_false]) (fun n c a e=>by simp only[beq_self_eq_true,if_true,cellOf,e,pure_bind]) scope.names [] h,pure_bind]
theorem kB:∀(names:List (Str×Ro)) (a:List (Str×QI)),(∀x c,a.lookup x=QB c->env.cells.lookup x=QB c)->∀x c,(hG env names a).lookup x=QB c->env.cells.lookup x=QB c
 |[],_,h,x,c,e=>h x c e
 |(n,k)::r,a,h,x,c,e=>by
  unfold hG at e;split at e
  ·split at e
   ·rename_i c' Zg
    refine kB r _ (fun y d q=> ?_) x c e;rw[Q5] at q;split at q
    ·rename_i hy;cases q;rw[eq_of_beq hy];exact Zg
    ·exact h y d q
   ·exact kB r a h x c e
  ·exact kB r a h x c e
theorem kS:∀(names:List (Str×Ro)) (a:List (Str×QI)) (x:Str),(a.lookup x).isSome=QG->((hG env names a).lookup x).isSome=QG
 |[],_,_,h=>h
 |(n,k)::r,a,x,h=>by
  unfold hG;split
  ·split
   ·refine kS r _ x ?_
    rw[Q5];split
    ·rfl
    ·exact h
   ·exact kS r a x h
  ·exact kS r a x h
theorem mH:∀(names:List (Str×Ro)) (a:List (Str×QI)) (x:Str) (c:QI),(x,Ro.free)∈names->env.cells.lookup x=QB c->((hG env names a).lookup x).isSome=QG
 |[],_,_,_,h,_=>by cases h
 |(n,k)::r,a,x,c,h,hc=>by
  rcases Rk.mp h with z|h
  ·cases z;simp only[hG,beq_self_eq_true,if_true,hc];exact kS r _ _ (by simp[Q5])
  ·unfold hG
   split
   ·split
    ·exact mH r _ x c h hc
    ·exact mH r a x c h hc
   ·exact mH r a x c h hc
theorem xn (h:(x,Ro.free)∈names) (a:env.cells.lookup x=QB c):(hG env names []).lookup x=QB c:=by
 have q:=mH names [] x c h a;cases e:(hG env names []).lookup x with
 |none=>rw[e] at q;cases q
 |some d=>have z:=kB names [] (fun y d q=>by cases q) x d e;rw[a] at z;exact z.symm
theorem xH {env:Env} {scope:Uc} {x:Str} {k:Ro} (h:(relabel scope env).names.lookup x=QB k):∃k0,(x,k0)∈scope.names/\(k=k0\/(k0= .free/\k= .cell)):=by
 obtain⟨⟨n,k0⟩,hm,e⟩:=R0.mp (SQ h);simp only at e;split at e
 ·rename_i hc
  cases e;have a:(k0==Ro.free)=QG:=by rw[Rn,Rn] at hc;exact hc.1.1
  exact⟨k0,hm,.inr ⟨by simpa using a,rfl⟩⟩
 ·cases e;exact⟨_,hm,.inl rfl⟩
theorem ju {env:Env}:∀{names:List (Str×Ro)} {x:Str},names.lookup x=QB .free->
  (names.map fun(n,k)=>if(k==Ro.free&&env.scope.kind== .function&&env.kindOf n==QB .cell) then(n,Ro.cell) else(n,k)).lookup x=QB .cell\/
  (names.map fun(n,k)=>if(k==Ro.free&&env.scope.kind== .function&&env.kindOf n==QB .cell) then(n,Ro.cell) else(n,k)).lookup x=QB .free
 |[],_,h=>by cases h
 |(n,k)::r,x,h=>by
  rw[Q5] at h;rw[QY];dsimp only;by_cases hc:(k==Ro.free&&env.scope.kind== .function&&env.kindOf n==QB .cell)=QG
  ·rw[if_pos hc,Q5]
   cases hx:x==n with
   |true=>exact .inl rfl
   |false=>rw[hx] at h;exact ju h
  ·rw[if_neg hc,Q5]
   cases hx:x==n with
   |true=>rw[hx] at h;exact .inr h
   |false=>rw[hx] at h;exact ju h
noncomputable def dY (own:List Str) (fv:List (Str×Nat)):List Str:=own++fv.map (·.1)
noncomputable def iG (own:List Str) (fv:List (Str×Nat)) (σ:St):St:=own.map (fun _=>QF)++fv.map fun p=>(σ[p.2]?).join
def Y1 (X:Cx) (scope:Uc):List (Str×Nat)->Prop
 |[]=>True
 |p::r=>(X.N[p.2]? =QB p.1/\scope.names.lookup p.1=QB .free/\(X.env.scope.names.lookup p.1=QB .cell\/X.env.scope.names.lookup p.1=QB .free))/\Y1 X scope r
theorem Y1.mem:∀{fv:List (Str×Nat)},Y1 X scope fv->∀p∈fv,X.N[p.2]? =QB p.1/\scope.names.lookup p.1=QB .free/\(X.env.scope.names.lookup p.1=QB .cell\/X.env.scope.names.lookup p.1=QB .free)
 |[],_,p,hp=>by cases hp
 |q::r,h,p,hp=>by
  rcases Rk.mp hp with z|hp
  ·rw[z];exact h.1
  ·exact h.2.mem p hp
noncomputable def wx (X:Cx) (scope:Uc) (C:QI):List (Str×QI):=S4 (C+1) scope.names (hG X.env scope.names [])
theorem qC:∀(names:List (Str×Ro)) (n:Nat) (a:List (Str×QI)) (x:Str) (c:QI),(S4 n names a).lookup x=QB c->(n<=c/\(x,Ro.cell)∈names)\/a.lookup x=QB c
 |[],_,_,_,_,h=> .inr h
 |(y,k)::r,n,a,x,c,h=>by
  unfold S4 at h;by_cases hk:(k==Ro.cell)=QG
  ·rw[if_pos hk] at h
   have e:k= .cell:=by simpa using hk
   rcases qC r _ _ x c h with⟨h1,h2⟩|h1
   ·exact .inl ⟨Vo h1,Q4 _ h2⟩
   ·rw[Q5] at h1
    split at h1
    ·rename_i hy;cases h1;exact .inl ⟨QS _,by rw[eq_of_beq hy,e];exact Q8⟩
    ·exact .inr h1
  ·rw[if_neg hk] at h
   rcases qC r _ _ x c h with⟨h1,h2⟩|h1
   ·exact .inl ⟨h1,Q4 _ h2⟩
   ·exact .inr h1
theorem Gs:∀(names:List (Str×Ro)) (n:Nat) (a:List (Str×QI)) (x:Str),(x,Ro.cell)∉names->(S4 n names a).lookup x=a.lookup x
 |[],_,_,_,_=>rfl
 |(y,k)::r,n,a,x,h=>by
  have b:=fun z=>h (Q4 _ z);unfold S4;by_cases hk:(k==Ro.cell)=QG
  ·have e:k= .cell:=by simpa using hk
   rw[if_pos hk,Gs r _ _ x b,Q5];have f:(x==y)=QN:=by refine beq_eq_false_iff_ne.mpr fun z=>h ?_;rw[z,e];exact Q8
   rw[f]
  ·rw[if_neg hk];exact Gs r _ _ x b
theorem sI:∀(names:List (Str×Ro)) (h:Heap) (a:List (Str×QI)) (x:Str) (c:QI),(S4 h.objs.size names a).lookup x=QB c->(h.objs.size<=c/\(pushCells h names).IsCell c QF)\/a.lookup x=QB c
 |[],_,_,_,_,e=> .inr e
 |(y,k)::r,h,a,x,c,e=>by
  unfold S4 at e;unfold pushCells;by_cases hk:(k==Ro.cell)=QG
  ·rw[if_pos hk] at e⊢
   rw[<-Heap.size_push h {cls:= .type "cell",data:= .cell QF}] at e;rcases sI r _ _ x c e with⟨h1,h2⟩|h1
   ·rw[Heap.size_push] at h1;exact .inl ⟨Vo h1,h2⟩
   ·rw[Q5] at h1
    split at h1
    ·cases h1;exact .inl ⟨QS _,_,YL _ _ _ _ (Heap.get?_push_size _ rfl),rfl⟩
    ·exact .inr h1
  ·rw[if_neg hk] at e⊢;exact sI r _ _ x c e
theorem zV:∀(names:List (Str×Ro)) (n:Nat) (e:List (Str×QI)),(∀x c,e.lookup x=QB c->c<n)->(∀x y c,e.lookup x=QB c->e.lookup y=QB c->x=y)->∀x y c,(S4 n names e).lookup x=QB c->(S4 n names e).lookup y=QB c->x=y
 |[],_,_,_,h2,x,y,c,e1,e2=>h2 x y c e1 e2
 |(z,k)::r,n,e,h1,h2,x,y,c,e1,e2=>by
  unfold S4 at e1 e2;by_cases hk:(k==Ro.cell)=QG
  ·rw[if_pos hk] at e1 e2
   refine zV r (n+1) ((z,n)::e) (fun a d q=> ?_) (fun a b d q1 f=> ?_) x y c e1 e2
   ·rw[Q5] at q
    split at q
    ·cases q;exact UL _
    ·exact Vp (h1 a d q)
   ·rw[Q5] at q1 f
    split at q1
    ·rename_i ha
     split at f
     ·rename_i hb;rw[eq_of_beq ha,eq_of_beq hb]
     ·cases q1;exact absurd (h1 b _ f) (Sg _)
    ·split at f
     ·cases f;exact absurd (h1 a _ q1) (Sg _)
     ·exact h2 a b d q1 f
  ·rw[if_neg hk] at e1 e2;exact zV r n e h1 h2 x y c e1 e2
theorem zg:∀{names:List (Str×Ro)} {x:Str} {k a:Ro},(names.map (·.1)).Nodup->names.lookup x=QB k->(x,a)∈names->k=a
 |[],_,_,_,_,h,_=>by cases h
 |(y,j)::r,x,k,a,hn,h,hm=>by
  rw[QY,SK] at hn;rw[Q5] at h;rcases Rk.mp hm with e|hm'
  ·cases e;rw[beq_self_eq_true] at h;exact(QX h).symm
  ·cases hx:x==y with
   |true=>rw[eq_of_beq hx] at hm';exact absurd (R0.mpr ⟨_,hm',rfl⟩) hn.1
   |false=>rw[hx] at h;exact zg hn.2 h hm'
noncomputable def cw (X:Cx) (s:QL) (H:Hp) (scope:Uc) (C:QI) (N:List Str) (fp:List QI):Cx:=
 {X with N:=N,s₀:=s,H₀:=H,env:=compEnvC scope (wx X scope C) C X.env,outer:=X.stack,stack:=X.stack,ex:=fp,fn:=fun x=>((hG X.env scope.names []).lookup x).isNone,pn:=[],xe:=fun _ _=>False}
section
variable {X:Cx} {pins:List (QI×Obj)} {σ:St} {H:Hp} {s:QL}
theorem tR {scope:Uc} (I:Inv X pins σ H s) (e:(hG X.env scope.names []).lookup x=QB c):X.env.cells.lookup x=QB c/\c<s.heap.objs.size:=by have h:=kB _ _ (fun _ _ q=>by cases q) x c e;obtain⟨v,o,z,_⟩:=I.cell x c h;exact⟨h,Heap.lt_size z⟩
theorem AE (I:Inv X pins σ H s) (G:scope.kind= .function) (B:(scope.names.map (·.1)).Nodup)
  (E:∀y∈scope.names,y.2= .free->∃c,X.env.cells.lookup y.1=QB c) (g:s.heap.objs.size<=C) (j:∀b∈fp,oi X pins H b) (f:∀b∈fp,b<s.heap.objs.size):(cw X s H scope C N fp).Ok where
 mod:=I.ok.mod
 kind:=G
 glob:=I.ok.glob
 blt:=I.ok.blt
 above:=g
 inj:=zV _ _ _ (fun x c e=>Vp (Q6 (tR I e).2 g)) fun x y c h1 h2=>I.ok.inj x y c (tR I h1).1 (tR I h2).1
 has:=fun x t=>by
  have A:∃k,(relabel scope X.env).names.lookup x=QB k/\(k= .cell\/k= .free):=by
   rcases t with z|z
   ·exact⟨_,z,.inl rfl⟩
   ·exact⟨_,z,.inr rfl⟩
  obtain⟨k,v,F⟩:=A;obtain⟨k0,hm,m⟩:=xH v;have e:k0= .free\/k0= .cell:=by
   rcases m with z|⟨z,_⟩
   ·subst z
    rcases F with z|z
    ·exact .inr z
    ·exact .inl z
   ·exact .inl z
  have q:((wx X scope C).lookup x).isSome=QG:=by
   rcases e with e|e
   ·subst e;obtain⟨c,w⟩:=E _ hm rfl;exact Ul _ _ _ (.inr (by rw[xn hm w];rfl))
   ·subst e
    refine Ul _ _ _ (.inl ?_);cases z:scope.names.lookup x with
    |none=>exact absurd hm (fun hm=>by
      have:∀{l:List (Str×Ro)},l.lookup x=QF->(x,Ro.cell)∉l:=fun{l}=>by
       induction l with
       |nil=>exact fun _=>by simp
       |cons p r ih=>
        intro h q;rw[Q5] at h;rcases Rk.mp q with q|q
        ·rw[<-q,beq_self_eq_true] at h;cases h
        ·split at h
         ·cases h
         ·exact ih h q
      exact this z hm)
    |some k'=>rw[zg B z hm]
  exact Yc.mp q
 cab:=fun x c h1 h2=>by
  have i:((hG X.env scope.names []).lookup x).isNone=QG:=h1;have n:=h2;rcases qC _ _ _ x c n with⟨z,_⟩|z
  ·exact Rx g (Vo z)
  ·rw[z] at i;cases i
 hd:=I.ok.hd
 frames:=I.ok.frames
 stk:= .inl rfl
 exf:=fun b a=>⟨Ra (Q6 (f b a) g),fun x c e=>by
  rcases qC _ _ _ x c e with⟨z,_⟩|z
  ·exact Se (Q6 (Q6 (f b a) g) (Vo z))
  ·exact(j b a).2.2.2.2.1 x c (tR I z).1⟩
 bs:=I.bs
 bsz:=Rx I.ok.bsz I.sz
 Y6:=fun b o e a=>by
  rcases(j b a).2.2.2.1 with z|z
  ·exact I.ok.Y6 b o e z
  ·exact absurd (Q6 (Heap.lt_size e) (Rx I.ok.bsz z)) (Sg _)
 YU:=fun b a u=>by
  rcases Rk.mp (I.Wz b u) with z|z
  ·exact(j b a).2.1 z
  ·exact(j b a).2.2.1 z
 WA:=I.stack
 frf:=I.WQ
theorem Es (I:Inv X pins σ H s) (UI:scope.kind= .function) (ZL:(scope.names.map (·.1)).Nodup)
  (YX:∀y∈scope.names,y.2= .free->∃c,X.env.cells.lookup y.1=QB c) (hfv:Y1 X scope fv) (hD:s.heap.objs.size<=D) (hDC:D<C) (hC:s.heap.objs.size<=C) (hf:∀b∈fp,oi X pins H b) (hfl:∀b∈fp,b<s.heap.objs.size)
  (hns:h1.Ns C m) (hoc:∀x c,(wx X scope C).lookup x=QB c->C<c->∃v,h1.IsCell c v) (hk:∀b o,s.heap.get? b=QB o->h1.get? b=QB o) (hd:∃n,h1.get? D=QB {cls:= .type "list",data:= .seq #[] n}):
  Inv (cw X s H scope C (dY own fv) fp) [] (iG own fv σ) (bv H D (.lst [])) {s with heap:=h1,toks:=t1}:=by
 have hn:=I.Sa.fresh hD;obtain⟨n,hd⟩:=hd;have hCD:=Se hDC;have hcs:∀x c,(wx X scope C).lookup x=QB c->C<c\/(X.env.cells.lookup x=QB c/\c<s.heap.objs.size):=fun x c e=>by
  rcases qC _ _ _ x c e with⟨z,_⟩|z
  ·exact .inl z
  ·exact .inr (tR I z)
 refine⟨AE I UI ZL YX hC hf hfl,rfl,I.bare,Un.laid hk hD hn,⟨m,hns,fun i x v e1 e2 e3=> ?_⟩,fun x c e=> ?_,?_,fun x c e=> ?_,fun p hp=>absurd (show p∈([]:List (QI×Obj)) from hp) (by simp),?_,?_⟩
 ·
  have e1':(own++fv.map (·.1))[i]? =QB x:=e1;have e2':(own.map (fun _=>(QF:Option V))++fv.map fun p=>(σ[p.2]?).join)[i]? =QB (QB v):=e2;have hi:own.length<=i:=by
   by_cases hi:i<own.length
   ·rw[Rg (by simpa using hi),QT] at e2'
    cases q:own[i]? with
    |none=>rw[q] at e2';cases e2'
    |some _=>rw[q] at e2';cases e2'
   ·omega
  rw[Ru hi,QT] at e1';rw[Ru (by simpa using hi),QT,QH] at e2';cases q:fv[i - own.length]? with
  |none=>rw[q] at e1';cases e1'
  |some p=>
   rw[q] at e1' e2';have ex:=QX e1';subst ex;have ev:(σ[p.2]?).join=QB v:=QX e2';obtain⟨g1,g2,g3⟩:=hfv.mem p (RD q);have ev2:σ[p.2]? =QB (QB v):=by
    cases z:σ[p.2]? with
    |none=>rw[z] at ev;cases ev
    |some y=>rw[z] at ev;exact congrArg QB ev
   obtain⟨m0,_,hl⟩:=I.loc;obtain⟨u,r,l⟩:=hl p.2 p.1 v g1 ev2 (.inr g3);refine⟨u,r,?_⟩;have l2:∃c,X.env.cells.lookup p.1=QB c/\s.heap.IsCell c (QB u):=by
    rcases l with⟨k,_⟩|⟨_,c,e,z⟩
    ·have k':X.env.scope.names.lookup p.1=QB .local:=k
     rcases g3 with z|z
     ·rw[z] at k';cases k'
     ·rw[z] at k';cases k'
    ·exact⟨c,e,z⟩
   obtain⟨c,e,o,ho,hdc⟩:=l2;refine .inr ⟨?_,c,?_,o,hk c o ho,hdc⟩
   ·exact ju g2
   ·show(wx X scope C).lookup p.1=QB c;unfold wx;rw[Gs _ _ _ _ fun z=>by cases zg ZL g2 z];exact xn (SQ g2) e
 ·rcases hcs x c e with z|⟨z,_⟩
  ·exact hoc x c e z
  ·obtain⟨v,o,ho,hdc⟩:=I.cell x c z;exact⟨v,o,hk c o ho,hdc⟩
 ·show bv H D (.lst []) C=QF;rw[aA hCD];exact I.Sa.fresh hC
 ·show bv H D (.lst []) c=QF
  rcases hcs x c e with z|⟨z1,z2⟩
  ·rw[aA (Se (Uy hDC z))];exact I.Sa.fresh (Rx hC (U6 z))
  ·rw[aA (Ra (Q6 z2 hD))];exact I.Uw x c z1
 ·exact I.Sa.laid hk hD ⟨by show 0<=QU;exact RF _,[],n,.nil,hd⟩
 ·show(own.map (fun _=>(QF:Option V))++fv.map fun p=>(σ[p.2]?).join).length=(own++fv.map (·.1)).length;simp
end
def CC (X:Cx) (a:List RN) (t:TT):Prop:=
 ∀(pins:List (QI×Obj)) (s:QL) (σ:St) (H:Hp) (Q:Bool->Hp->Prop),Inv X pins σ H s->t σ H Q->
  wpAny (model X.prog X.w) X.A (forIn a QG fun c r=>if r=QG then do let ok<-isTrue c X.env (eval c X.env);pure (ForInStep.yield ok) else pure (ForInStep.yield r)) (TP X pins σ Q) X.xe s
def Gx:TT:=fun _ H Q=>Q QG H
theorem c9:CC X [] Gx:=fun _ _ _ H _ I h=>wpAny_tests_nil ⟨H,I,h⟩
theorem qK (h:PT X c tc):CC X [c] tc:=fun pins s σ H Q I a=>wpAny_tests_one (h pins s σ H Q I a)
def D0 (J:It) (D:QI) (e:St) (g:TG) (tc:TT) (te:TE) (H1:Hp) (Fin:Hp->Prop):Prop:=
 ∃W:Nat->Nat->St->Hp->Prop,(∃m,W 0 m e (bv H1 D (.lst [])))/\∀i m σ H,W i m σ H->
  (J.stop i H/\Fin H)\/(J.go i H/\∃N:St->Hp->Prop,(∀σ' H',N σ' H'->∃m',m'<m/\W (i+1) m' σ' H')/\
   ∀x H',J.yld i H x H'->g x σ H' fun a H2=>tc a H2 fun b h=>if b=QG then te a h fun y f=>∃ys,f D=QB (.lst ys)/\ys.length<QU/\N a (bv f D (.lst (ys++[y]))) else N a h)
section
variable {prog:Q7} {w:Rv} {A:Rp} {s:QL}
theorem CP {g tg b:RN} {f:List RN} {scope:Uc} {pos:Pos} {it i:QD} {env:Env} {R:Yh->QL->Prop} {XE:QD->QL->Prop} (p:∀x s1,XE x s1->notedBy (model prog w) A env (fun e s2=>R (.error e) s2) x s1) (I:Nat->QL->Prop)
  (turn:∀n s,I n s->wpAny (model prog w) A (pyNext it) (fun r s1=>match r with
   |none=>R (.ok .next) s1
   |some v=>wpAny (model prog w) A (letOwnedTupleGo tg it v) (fun _ s2=>wpAny (model prog w) A (assign tg env v) (fun _ s3=>
     wpAny (model prog w) A (forIn f QG fun c r=>if r=QG then do let ok<-isTrue c env (eval c env);pure (ForInStep.yield ok) else pure (ForInStep.yield r)) (fun ok s4=>
      if ok=QG then wpAny (model prog w) A (eval g env) (fun x s5=>
       wpAny (model prog w) A (call (.builtin "list.append") [i,x]) (fun _ s6=>∃m,m<n/\I m s6) (fun _ _=>False) s5) XE s4
      else∃m,m<n/\I m s4) (fun _ _=>False) s3) (fun _ _=>False) s2) (fun _ _=>False) s1) (fun _ _=>False) s)
  (n:Nat) (h:I n s):codeAny (model prog w) A (.compLoop (.ListComp g [⟨tg,b,f,0⟩] scope pos) 0 it i env) R s:=by
 refine codeAny_loop rfl I (fun n s q=> ?_) n h;show wpAny _ A (Sem.onRaise (compTurn (.ListComp g [⟨tg,b,f,0⟩] scope pos) 0 it i env) (fun x=>do noteFrame x env;theTreesLotGoes x)) _ _ s;refine wpAny_noted ?_;rw[compTurn_list]
 have j:∀{α:Type} {t:Sem α} {Q o:α->QL->Prop} {E:QD->QL->Prop} {s:QL},wpAny (model prog w) A t Q (fun _ _=>False) s->(∀a s',Q a s'->o a s')->wpAny (model prog w) A t o E s:=
  fun h1 h2=>wpAny_mono h1 h2 fun _ _ z=>False.elim z
 refine QE (Tt (QE (j (turn n s q) fun r s1 h1=> ?_)));cases r with
 |none=>exact QQ h1
 |some v=>
  refine QE (j h1 fun _ s2 h2=>QE (j h2 fun _ s3 B=>QE (j B fun ok s4 l=> ?_)));cases ok with
  |false=>exact QQ ⟨rfl,l⟩
  |true=>exact QE (QE (wpAny_mono l (fun x s5 y=>QE (j y fun _ s6 u=>QQ (QQ ⟨rfl,u⟩))) p))
end
section
variable {X:Cx} {pins:List (QI×Obj)} {σ:St} {H:Hp} {s:QL}
theorem u8
  (h:Q (newEnv scope s.heap.objs.size globals (S4 (s.heap.objs.size+1) scope.names closure) qual QF .none (QB env) builtinsNs) {s with heap:=pushCells (s.heap.push {cls:= .type "dict",data:= .dict #[]}) scope.names}):
  wpAny M A (newFunctionEnv scope globals closure [] qual QF .none (QB env)) Q E s:=by
 simp only[newFunctionEnv,ZU,if_true];refine QE (wpAny_alloc ?_);refine QE (wpAny_layCells _ (fun name kind cells=>by cases hkc:kind==Ro.cell<;>simp[hkc]) _ _ _ _ ?_);rw[show({s with heap:=s.heap.push {cls:= .type "dict",data:= .dict #[]}}:QL).heap.objs.size=s.heap.objs.size+1 from Heap.size_push ..];rw[Wh];exact QE (QQ (QQ h))
theorem lH {O tg l:RN} {B:List RN} {scope:Uc} {pos:Pos} {own:List Str} {fv:List (Str×Nat)} {g:TG} {tc:TT} {te:TE} {E:QD->QL->Prop} {it:QI} {fp:List QI} {tn:Nat->Heap->Prop} {J:It} {Fin:QI->Hp->Prop}
  {RR:QD->QI->Yh->QL->Prop} (I:Inv X pins σ H s) (hc:X.calm=QG) (UI:scope.kind= .function) (ZL:(scope.names.map (·.1)).Nodup) (YX:∀y∈scope.names,y.2= .free->∃c,X.env.cells.lookup y.1=QB c) (hfv:Y1 X scope fv)
  (T:Turn X.prog X.w X.K tg J fp it tn) (st:tn 0 s.heap) (G:∀b∈fp,oi X pins H b)
  (hg:∀C,PG (cw X s H scope C (dY own fv) fp) tg g) (ht:∀C,CC (cw X s H scope C (dY own fv) fp) B tc) {W:QI->QD->QL->Prop} (he:∀C,PE ((cw X s H scope C (dY own fv) fp).VF (W C)) O te) (hEE:∀D C x s1,s.heap.objs.size<=C->W C x s1->notedBy (model X.prog X.w) X.A (compEnvC scope (wx X scope C) C X.env) (fun e s2=>RR (.ref D) C (.error e) s2) x s1)
  (hR:∀D,H D=QF->D0 J D (iG own fv σ) g tc te H (Fin D))
  (hRR:∀D C H' s',Inv X pins σ H' s'->Fin D H'->(∃m,s'.heap.Ns C m)->s.heap.objs.size<=C->H' C=QF->RR (.ref D) C (.ok .next) s'):
  wpAny (model X.prog X.w) X.A (newList []) (fun acc s3=>wpAny (model X.prog X.w) X.A (newFunctionEnv scope X.env.globals (hG X.env scope.names []) [] X.env.qual QF .none (QB X.env)) (fun ZG s4=>
   codeAny (model X.prog X.w) X.A (.compStart (.ListComp O [⟨tg,l,B,0⟩] scope pos) 0 (.ref it) acc {ZG with scope:=relabel scope X.env}) (RR acc ZG.locals) s4) E s3) E s:=by
 refine SS ?_;generalize hH2:s.heap.push {cls:= .type "list",dict:=QF,data:= .seq ([]:List QD).toArray}=h2;have hz:h2.objs.size=s.heap.objs.size+1:=by rw[<-hH2,Heap.size_push]
 refine u8 (s:={s with heap:=h2}) ?_;have L:s.heap.objs.size<h2.objs.size:=by rw[hz];exact UL _
 have hC:s.heap.objs.size<=h2.objs.size:=U6 L;generalize hH1:pushCells (h2.push {cls:= .type "dict",data:= .dict #[]}) scope.names=h1;have Y:∀b o,h2.get? b=QB o->h1.get? b=QB o:=fun b o e=>by rw[<-hH1];exact YL _ _ b o (Heap.get?_push_of_some _ e)
 have kp:∀b o,s.heap.get? b=QB o->h1.get? b=QB o:=fun b o e=>Y b o (by rw[<-hH2];exact Heap.get?_push_of_some _ e);have hns:h1.Ns h2.objs.size (fun _=>QF):=by rw[<-hH1];exact(Heap.Ns.new h2 (.type "dict")).keeps (YL _ _)
 have hoc:∀x c,(wx X scope h2.objs.size).lookup x=QB c->h2.objs.size<c->∃v,h1.IsCell c v:=fun x c e U4=>by
  have e':(S4 (h2.push {cls:= .type "dict",data:= .dict #[]}).objs.size scope.names (hG X.env scope.names [])).lookup x=QB c:=by rw[Heap.size_push];exact e
  rcases sI _ _ _ x c e' with⟨_,z⟩|z
  ·exact⟨QF,by rw[<-hH1];exact z⟩
  ·exact absurd (Uy (tR I z).2 (Uy L U4)) (Sg _)
 have hd:∃n,h1.get? s.heap.objs.size=QB {cls:= .type "list",data:= .seq #[] n}:=⟨0,Y _ _ (by rw[<-hH2];exact Heap.get?_push_size _ rfl)⟩;have F:∀b∈fp,b<s.heap.objs.size:=fun b f=>by obtain⟨o,e,_⟩:=T.obj 0 _ st b f;exact Heap.lt_size e
 have hn:H s.heap.objs.size=QF:=I.Sa.fresh (QS _);obtain⟨W,⟨m0,w0⟩,turn⟩:=hR s.heap.objs.size hn;have M:∀{pl:List (QI×Obj)} {H':Hp},(∀b∈fp,H' b=QF)->(∀p∈pl,p.1∉fp)->∀b∈fp,oi (cw X s H scope h2.objs.size (dY own fv) fp) pl H' b:=fun{pl H'} hn' Xl b f=>by have ok:=AE (C:=h2.objs.size) (N:=dY own fv) I UI ZL YX hC G F;exact⟨hn' b f,(ok.exf b f).1,ok.YU b f,.inl f,(ok.exf b f).2,fun p hp=>by have hp':p∈([]:List (QI×Obj))++pl:=hp;intro z;exact Xl p (by simpa using hp') (by rw[z];exact f)⟩
 have j:∀s4:QL,s4={s with heap:=h1}->
   codeAny (model X.prog X.w) X.A (.compLoop (.ListComp O [⟨tg,l,B,0⟩] scope pos) 0 (.ref it) (.ref s.heap.objs.size) (compEnvC scope (wx X scope h2.objs.size) h2.objs.size X.env)) (RR (.ref s.heap.objs.size) h2.objs.size) s4:=by
  rintro s4 rfl
  have I0:Inv (cw X s H scope h2.objs.size (dY own fv) fp) [] (iG own fv σ) (bv H s.heap.objs.size (.lst [])) {s with heap:=h1}:=
   Es I UI ZL YX hfv (QS _) L hC G F hns hoc kp hd
  have st0:tn 0 h1:=T.keep 0 _ _ st fun b _ o e=>kp b o e;have fr0:∀b∈fp,(bv H s.heap.objs.size (.lst [])) b=QF:=fun b f=>by rw[aA (Ra (F b f))];exact(G b f).1
  refine CP (fun x s1 z=>hEE _ _ x s1 hC z) (fun n s'=>∃i σ' H',Inv (cw X s H scope h2.objs.size (dY own fv) fp) [] σ' H' s'/\tn i s'.heap/\(∀b∈fp,H' b=QF)/\W i n σ' H') ?_ m0 ⟨0,_,_,I0,st0,fr0,w0⟩;rintro n s5 ⟨i,h,H5,I5,U,Z,w5⟩;rcases turn i n h H5 w5 with⟨stop,fin⟩|⟨go,N,hN,step⟩
  ·refine cG (T.done (cw X s H scope h2.objs.size (dY own fv) fp) rfl rfl rfl hc i [] s5 h H5 (fun _ _=>False) I5 (M Z (by simp)) U stop) fun r s6 ⟨hr,R⟩=> ?_;subst hr;obtain⟨mm,hm,_⟩:=R.loc;refine hRR _ _ H5 s6 ?_ fin ⟨mm,hm⟩ hC R.free;exact I.YV (ch:=fp) R.os R.base R.Sa R.bare fun b f=>⟨(G b f).2.2.2.1,(G b f).2.1,(G b f).2.2.2.2.1,(G b f).2.2.2.2.2⟩
  ·refine cG (T.item (cw X s H scope h2.objs.size (dY own fv) fp) rfl rfl rfl hc i [] s5 h H5 (fun _ _=>False) I5 (M Z (by simp)) U go) fun r s6 ⟨u,hr,h6⟩=> ?_
   subst hr;refine cG h6 fun _ s7 ⟨x,H7,I7,r7,y7,t,fr7⟩=> ?_;have I7':=I7.pinned (fp:=fp) (M fr7 (by simp)) (T.obj _ _ t);have q:∀{a:St} {P:Hp} {Q:QL},Inv (cw X s H scope h2.objs.size (dY own fv) fp) ([]++qI fp s7.heap) a P Q->N a P->∃m,m<n/\∃i σ' H',Inv (cw X s H scope h2.objs.size (dY own fv) fp) [] σ' H' Q/\tn i Q.heap/\(∀b∈fp,H' b=QF)/\W i m σ' H':=fun{a P Q} I8 n8=>by obtain⟨m',hm,w8⟩:=hN a P n8;refine⟨m',hm,i+1,a,P,I8.WX,T.keep _ _ _ t fun b f o e=>(I8.pin (b,o) (RT _ (RT _ (jh f e)))).1,fun b f=> ?_,w8⟩;obtain⟨o,e,d⟩:=T.obj _ _ t b f;exact(I8.pin (b,o) (RT _ (RT _ (jh f e)))).2.1
   refine cG (hg _ _ s7 h H7 x u _ I7' r7 (step x H7 y7)) fun _ Q ⟨a,P,I8,q8⟩=> ?_;refine cG (ht _ _ Q a P _ I8 q8) fun ok s9 ⟨H9,I9,q9⟩=> ?_;cases ok with
   |false=>rw[if_neg QV] at q9⊢;exact q I9 q9
   |true=>rw[if_pos rfl] at q9⊢;refine cG (he _ _ s9 a H9 _ (I9.VF _) q9) fun y s10 ⟨S,H10,agF,r10,ys,hy,hl,q10⟩=> ?_;have I10:=agF.UP;refine cG (fJ _ s10 a H10 (.ref s.heap.objs.size) [S] (.ref s.heap.objs.size) [y] (fun _ H11=>N a H11) I10 rfl (.cons r10 .nil) ⟨_,ys,S,rfl,rfl,hy,hl,q10⟩) fun _ s11 ⟨v11,H11,I11,_,q11⟩=> ?_;exact q I11 q11
 exact codeAny_compStart_list (j _ rfl) (T.self _ 0 _ _ _ (T.keep 0 _ _ st fun b _ o e=>kp b o e) (j _ rfl))
def p5 (own:List Str) (fv:List (Str×Nat)) (a:TI) (g:TG) (tc:TT) (te:TE):TE:=fun σ H Q=>a σ H fun J H1=>∀D,H1 D=QF->D0 J D (iG own fv σ) g tc te H1 fun H'=>Q (.ref D) H'
theorem kQ {scope:Uc} (ok:X.Ok) (h:∀y∈scope.names,y.2= .free->(X.env.scope.names.lookup y.1=QB .cell\/X.env.scope.names.lookup y.1=QB .free)):∀y∈scope.names,y.2= .free->∃c,X.env.cells.lookup y.1=QB c:=
 fun y a e=>ok.has y.1 (h y a e)
theorem Er {scope sc:Uc} (h:(scope.names.all fun y=> !(y.2==Ro.free)||(sc.names.lookup y.1==QB Ro.cell)||(sc.names.lookup y.1==QB Ro.free))=QG):
  ∀y∈scope.names,y.2= .free->(sc.names.lookup y.1=QB .cell\/sc.names.lookup y.1=QB .free):=fun y a e=>by
 have q:=Ts.mp h y a;rw[e] at q
 simpa using q
theorem eW {elt tg iter:RN} {ifs:List RN} {scope:Uc} {pos:Pos} (own:List Str) (fv:List (Str×Nat)) {wi:TI} {g:TG} {tc:TT} {te:TE} (hc:X.calm=QG) (hi:PI X tg iter wi)
  (hg:∀s H C fp,PG (cw X s H scope C (dY own fv) fp) tg g) (ht:∀s H C fp,CC (cw X s H scope C (dY own fv) fp) ifs tc) (he:∀s H C fp,PE (cw X s H scope C (dY own fv) fp) elt te) (hfv:Y1 X scope fv)
  (abh:(scope.names.all fun y=> !(y.2==Ro.free)||(X.env.scope.names.lookup y.1==QB Ro.cell)||(X.env.scope.names.lookup y.1==QB Ro.free))=QG)
  (UI:scope.kind= .function:=by rfl) (ZL:(scope.names.map (·.1)).Nodup:=by decide+kernel)
  (XQ:∀y∈scope.names,y.2= .local->scope.names.lookup y.1=QB .local:=by decide+kernel) (hs:∀x,foldedSetIterable iter X.env x=pure x:=by intro _;rfl):
  PE X (.ListComp elt [⟨tg,iter,ifs,0⟩] scope pos) (p5 own fv wi g tc te):=by
 intro pins s σ H Q I h;have YX:=Er abh;rw[ahS];refine VV (use:=QF) rfl hs (lM (kQ I.ok YX)) UI XQ (cG (hi pins s σ H _ I h) fun xv s1 h1=>cG h1 fun itv s2 h2=> ?_);obtain⟨it,fp,tn,J,H2,e,I2,T,st2,f2,R⟩:=h2;subst e;refine lH I2 hc UI ZL (kQ I.ok YX) hfv T st2 f2 (fun C=>hg _ _ C _) (fun C=>ht _ _ C _) (W:=fun _ _ _=>False) (fun C=>he _ _ C _) (fun _ _ _ _ _ z=>z.elim) (Fin:=fun D H'=>Q (.ref D) H') R ?_;intro D C H' s' I' fin hm hC hn;obtain⟨m,hm⟩:=hm;refine⟨m,hm,fun h' hs'=>⟨.ref D,H',?_,rfl,fin⟩⟩;obtain⟨f0,f1,_,f3,f4,f5⟩:=I2.Yn hC hn;exact I'.turned (t':=s'.toks) (fun b o hb q=>(hs'.2 b hb).trans q) f0 f1 f3 f4 f5
theorem pp {elt tg iter:RN} {ifs:List RN} {scope:Uc} {pos aeM py:Pos} {i:Nat} {x:Str} (own:List Str) (fv:List (Str×Nat)) {wi:TI} {g:TG} {tc:TT} {te:TE} (hN:X.N.Nodup) (hi':X.N[i]? =QB x) (hx:X.env.scope.names.lookup x=QB .local)
  (hc:X.calm=QG) (hi:PI X tg iter wi)
  (hg:∀s H C fp,PG (cw X s H scope C (dY own fv) fp) tg g) (ht:∀s H C fp,CC (cw X s H scope C (dY own fv) fp) ifs tc) (he:∀s H C fp,PE (cw X s H scope C (dY own fv) fp) elt te) (hfv:Y1 X scope fv)
  (abh:(scope.names.all fun y=> !(y.2==Ro.free)||(X.env.scope.names.lookup y.1==QB Ro.cell)||(X.env.scope.names.lookup y.1==QB Ro.free))=QG)
  (hsw:Ss (.ListComp elt [⟨tg,iter,ifs,0⟩] scope pos) (QB (.Name x py)) aeM.line X.env=pure QG:=by rfl)
  (UI:scope.kind= .function:=by rfl) (ZL:(scope.names.map (·.1)).Nodup:=by decide+kernel)
  (XQ:∀y∈scope.names,y.2= .local->scope.names.lookup y.1=QB .local:=by decide+kernel) (hs:∀x,foldedSetIterable iter X.env x=pure x:=by intro _;rfl):
  PS X (.Assign [.Name x py] (.ListComp elt [⟨tg,iter,ifs,0⟩] scope pos) aeM) (Dw (p5 own fv wi g tc te) (uB i)):=by
 intro pins s σ H D I h;have YX:=Er abh;rw[exec_Assign_Name_used _ _ _ _ hsw];refine QE (Tt (QE ?_));show wpAny _ _ (do let _<-comprehension (.ListComp elt [⟨tg,iter,ifs,0⟩] scope pos) scope X.env _ (newList []) QN (eval iter X.env) (QB (assign (.Name x py) X.env))) _ _ s;refine QE (cG (VV (use:=QB (assign (.Name x py) X.env)) (Q:=fun _ s'=>SP X pins D .next s') rfl hs (lM (kQ I.ok YX)) UI XQ
  (cG (hi pins s σ H _ I h) fun xv s1 h1=>cG h1 fun itv s2 h2=> ?_)) fun _ s' q=>QQ (QQ q))
 obtain⟨it,fp,tn,J,H2,e,I2,T,st2,f2,R⟩:=h2;subst e;refine lH I2 hc UI ZL (kQ I.ok YX) hfv T st2 f2 (fun C=>hg _ _ C _) (fun C=>ht _ _ C _) (W:=fun _ _ _=>False) (fun C=>he _ _ C _) (fun _ _ _ _ _ z=>z.elim) (Fin:=fun L H'=>D.nx (σ.set i (QB (.ref L))) H') R ?_;intro L C H' s' I' fin hm hC hn;obtain⟨m,hm⟩:=hm;obtain⟨f0,f1,f2',f3,f4,f5⟩:=I2.Yn hC hn;show wpAny _ _ (assign (.Name x py) X.env (.ref L)) _ _ s';refine ade (tV I' hN hi' (.inl hx) (v:= .ref L) rfl (fun s'' I'' ⟨a,sb,ha⟩=> ?_) (.inr hx));have hCa:C≠a:=by
  rcases ha with z|z
  ·rw[z];exact f1
  ·exact fun q=>f4 x a z q.symm
 refine⟨m,hm.sameBut sb hCa,fun h' hs'=>⟨_,H',?_,fin⟩⟩;exact I''.turned (t':=s''.toks) (fun b o hb q=>(hs'.2 b hb).trans q) f0 f1 f3 f4 f5
end
def rS (P:Q7) (w:Rv) (K:QC) (mg:Str->Option QD) (base:Heap) (k:Nat) (x:Str) (ps:List Str) (sp:Sp):Prop:=
 ∃(f:QI) (fd:RQ),FnOk P w K mg base di k f fd ps sp/\Binds K fd ps []/\SI K (.ref f)=QG/\mg x=QB (.ref f)
theorem fH (C:rS X.prog X.w X.K X.mg X.base k x ps sp) (g:S9 j X.A) (ha:PA X (e::es) t) (a:k<=j:=by decide) (h:Gl X x:=by rfl)
  (l:(x==("__debug__":Str))=QN:=by decide) (i:Q9 (e::es) X.env=(QN,eval e X.env)::Q9 es X.env:=by rfl) (n:(backTo pos (Q9 es X.env)).any (·.1)=QN:=by rfl):
  PE X (.Call (.Name x p) (e::es) [] pos) (jQ sp [] E0 t):=by
 obtain⟨f,fd,F,b,kp,m⟩:=C;exact A0 F (g.mono a) h m kp b .nil E6 ha l i n
section
variable {σ:St} {H:Hp} {Q:VK} {D:Ends}
theorem Mz (h:t {D with nx:=u D} σ H):Iq t u D σ H:=h
theorem Ma (h:te σ H fun x H1=>g x σ H1 D.nx):Dw te g D σ H:=h
theorem Jq {Q:St->Hp->Prop} (h:Q (σ.set i (QB v)) H):uB i v σ H Q:=h
theorem PN (h:Q v H):tC v σ H Q:=h
theorem Ou (h:ta σ H fun x H1=>tb σ H1 fun y H2=>r x y H2 Q):KS r ta tb σ H Q:=h
theorem Pb (c:zr x y=QG) (h:Q (.bl (decide (x=y))) H):Qi x y H Q:=⟨c,h⟩
theorem Nz (h:te σ H D.rt):IW te D σ H:=h
theorem J9 (h:te σ H fun _ H1=>D.nx σ H1):x5 te D σ H:=h
theorem NH (h:c σ H fun b H1=>if b=QG then t D σ H1 else u D σ H1):Ir c t u D σ H:=h
theorem Jr (h:D.nx σ H):AC D σ H:=h
theorem P5 {Q:Bool->Hp->Prop} (h:t σ H fun x H'=>∃k,x= .bl k/\Q k H'):tB t σ H Q:=h
theorem O8 {Q:Bool->Prop} (h:Q b):∃k,V.bl b= .bl k/\Q k:=⟨b,rfl,h⟩
theorem Om {Q:Bool->Hp->Prop} (h:t σ H fun c H1=>if c=QG then Q QG H1 else u σ H1 Q):Pt t u σ H Q:=h
theorem LL {Q:Bool->Hp->Prop} (h:t σ H fun c H1=>Q (!c) H1):LM t σ H Q:=h
theorem JQ (h:ta σ H fun x H1=>∃c,x= .bl c/\if c=QG then tb σ H1 Q else Q (.bl QN) H1):B8 ta tb σ H Q:=h
theorem IH (h:ta σ H fun x H1=>∃c,x= .bl c/\Q (.bl (!c)) H1):KW ta σ H Q:=h
theorem Nv {Q:List V->Hp->Prop} (h:Q [] H):mO σ H Q:=h
theorem Km {Q:List V->Hp->Prop} (h:ta σ H fun x H1=>tr σ H1 fun xs H2=>Q (x::xs) H2):iq ta tr σ H Q:=h
theorem Oh (h:t σ H fun vs H1=>r vs H1 Q):Ec r t σ H Q:=h
theorem Ih (h:t σ H fun vs H1=>sp (vs++[]) H1 Q E):jQ sp [] E t σ H Q:=h
theorem LF (h:t σ H fun xs H1=>xs.length<=QU/\∀p,H1 p=QF->Q (.ref p) (bv H1 p (.tup xs))):Je t σ H Q:=h
end
theorem NJ {α:Type} {xs:List α} {i:Int} {v:α} (a:0<=i) (h:xs[i.toNat]? =QB v):kZ xs i=QB v:=by have q:=BI h;rwa [WH a] at q
theorem SD.tup {K:QC} (e:SD H H') (h:Vx K H a xs):Vx K H' a xs:=by
 rcases h with(h|⟨o,h⟩)|h
 ·exact .inl (.inl (e _ _ h))
 ·exact .inl (.inr ⟨o,e _ _ h⟩)
 ·exact .inr h
theorem bM (h:H p=QF) (o:HO):SD H (bv H p o):=fun b u q=>by rw[aA (bU q h)];exact q
theorem KC:RP "max"=QB (.builtin "max"):=by decide+kernel
theorem cR:RP "isinstance"=QB (.builtin "isinstance"):=by decide+kernel
theorem iM:RP "len"=QB (.builtin "len"):=by decide+kernel
theorem wY:RP "sorted"=QB (.builtin "sorted"):=by decide+kernel
theorem Ar:RP "all"=QB (.builtin "all"):=by decide+kernel
theorem K6:RP "int"=QB (.type "int"):=by decide+kernel
theorem Mf:RP "bool"=QB (.type "bool"):=by decide+kernel
theorem z9:RP "list"=QB (.type "list"):=by decide+kernel
theorem ig:RP "tuple"=QB (.type "tuple"):=by decide+kernel
section
variable {X:Cx}
theorem yt:T4 X (.builtin "sorted") (fun xs H Q=>∃(p:QI) (ns:List Int),xs=[.ref p]/\VD X.K H p (ns.map V.int)/\ns.length<64/\∀(l:QI) (a:List Int),H l=QF->a.Perm ns->a.Pairwise (·<=·)->Q (.ref l) (bv H l (.lst (a.map V.int)))):=by
 intro pins s σ H xs us Q I r h;obtain⟨p,ns,rfl,j,t,q⟩:=h;obtain⟨u,rfl,g⟩:=lz r;cases g;obtain⟨RE,rv,pl,w⟩:=I.list j;have m:=rv.length;rw[QH] at m;refine sorted_ints pl.isList (lZ rv) (by omega) fun out a hi hp i=> ?_;obtain⟨e,n⟩:=sortedAll_at s.heap RE out;have f:a.length=ns.length:=hp.length_eq;have v:out.toList.length=a.length:=hi.length;refine⟨.ref (s.heap.objs.size+1),_,I.laid (t':=s.toks) (o:= .lst (a.map V.int)) (fun b ob z=>sortedAll_old z) (XY _) ?_,rfl,q _ a (I.Sa.fresh (XY _)) hp i⟩;refine⟨?_,out.toList,e,iZ hi,n⟩;rw[QH,f];have:(64:Nat)<=QU:=by decide
 omega
end
end L2
namespace L3
open PySem L2
abbrev D:=QJ
inductive PV where
 |fz (d:D)
 |ow (ds:List D)
 |pl (i:Nat)
abbrev a8:=List (Option PV)
structure Xc where
 cls:Str
 fs:List (Str×D)
inductive Res (α:Type) where
 |ok (a:α)
 |er (x:Xc)
 |bad
namespace Res
noncomputable def bind (r:Res α) (f:α->Res β):Res β:=match r with
 | .ok a=>f a
 | .er x=> .er x
 | .bad=> .bad
noncomputable def RO:Option α->Res α
 |some a=> .ok a
 |none=> .bad
theorem bind_ok (a:α) (f:α->Res β):(Res.ok a).bind f=f a:=rfl
end Res
abbrev ce:=QI->Prop
noncomputable def b5 (O:ce) (p:QI):ce:=fun b=>O b\/b=p
noncomputable def Eb (O:ce) (p:QI):ce:=fun b=>O b/\b≠p
noncomputable def Y2:ce:=fun _=>False
def Ev (O:ce) (H:Hp) (O':ce) (H':Hp):Prop:=∀b o,H b=QB o->¬O b->H' b=QB o/\¬O' b
theorem Ev.refl:Ev O H O H:=fun _ _ h n=>⟨h,n⟩
theorem Ev.trans (a:Ev O H O1 H1) (b:Ev O1 H1 O2 H2):Ev O H O2 H2:=fun p o h n=>let⟨h1,n1⟩:=a p o h n;b p o h1 n1
theorem Ev.grow (s:SD H H'):Ev O H O H':=fun b o h n=>⟨s b o h,n⟩
theorem Ev.add (s:SD H H') (hp:H p=QF):Ev O H (b5 O p) H':=fun b o h n=>⟨s b o h,fun z=>z.elim n fun e=>by subst e;rw[h] at hp;cases hp⟩
theorem Ev.sub (h:∀b,O' b->O b):Ev O H O' H:=fun b o e n=>⟨e,fun z=>n (h b z)⟩
theorem Ev.mut (hp:O p) (u:HO):Ev O H O (bv H p u):=fun b o h n=>⟨by rw[aA (fun e=>n (by rw[e];exact hp))];exact h,n⟩
def U8 (K:QC) (H:Hp) (a:QI) (xs:List V):Prop:=Rd H a (.lst xs)\/∃(RE:List QD) (n:Nat),K.lookup a=QB {cls:= .type "list",data:= .seq RE.toArray n}/\xs.length<=QU/\Vals xs RE
theorem U8.sq (h:U8 K H a xs):VD K H a xs:=by
 rcases h with h|⟨RE,n,h1,h2,h3⟩
 ·exact .inl h
 ·exact .inr ⟨_,RE.toArray,n,h1,rfl,rfl,rfl,by rw[Q1,<-h3.length];exact h2,by simpa using h3⟩
theorem U8.of (h:H a=QB (.lst xs)):U8 K H a xs:= .inl (.inl h)
theorem U8.same (e:SD H H') (h:U8 K H a xs):U8 K H' a xs:=by
 rcases h with(h|⟨o,h⟩)|h
 ·exact .inl (.inl (e _ _ h))
 ·exact .inl (.inr ⟨o,e _ _ h⟩)
 ·exact .inr h
theorem kM (H:Hp):SD (fun _=>QF) H:=fun _ _ h=>by cases h
def Xu (O:ce) (K:QC) (H:Hp) (a:QI) (xs:List V):Prop:=U8 K H a xs/\(O a->U8 K (fun _=>QF) a xs)
def V3 (O:ce) (K:QC) (H:Hp) (a:QI) (xs:List V):Prop:=Vx K H a xs/\(O a->Vx K (fun _=>QF) a xs)
section
variable {O O':ce} {K:QC} {H H':Hp} {a:QI} {xs:List V}
theorem Xu.ev (h:Xu O K H a xs) (e:Ev O H O' H'):Xu O' K H' a xs:=by
 obtain⟨h,k⟩:=h;by_cases z:O a
 ·exact⟨U8.same (kM H') (k z),fun _=>k z⟩
 ·rcases h with(h|⟨o,h⟩)|h
  ·obtain⟨h1,h2⟩:=e a _ h z;exact⟨.inl (.inl h1),fun y=>absurd y h2⟩
  ·obtain⟨h1,h2⟩:=e a _ h z;exact⟨.inl (.inr ⟨o,h1⟩),fun y=>absurd y h2⟩
  ·exact⟨.inr h,fun _=> .inr h⟩
theorem V3.ev (h:V3 O K H a xs) (e:Ev O H O' H'):V3 O' K H' a xs:=by
 obtain⟨h,k⟩:=h;by_cases z:O a
 ·exact⟨(kM H').tup (k z),fun _=>k z⟩
 ·rcases h with(h|⟨o,h⟩)|h
  ·obtain⟨h1,h2⟩:=e a _ h z;exact⟨.inl (.inl h1),fun y=>absurd y h2⟩
  ·obtain⟨h1,h2⟩:=e a _ h z;exact⟨.inl (.inr ⟨o,h1⟩),fun y=>absurd y h2⟩
  ·exact⟨.inr h,fun _=> .inr h⟩
end
mutual
inductive DV (O:ce) (K:QC) (H:Hp):V->D->Prop
 |Te:DV O K H .Te .none
 |bl (b:Bool):DV O K H (.bl b) (.bool b)
 |int (i:Int):DV O K H (.int i) (.int i)
 |str (x:Str):DV O K H (.str x) (.str x)
 |tup {a:QI} {xs:List V} {ds:List D}:V3 O K H a xs->SY O K H xs ds->DV O K H (.ref a) (.tuple ds)
 |lst {a:QI} {xs:List V} {ds:List D}:Xu O K H a xs->SY O K H xs ds->DV O K H (.ref a) (.list ds)
inductive SY (O:ce) (K:QC) (H:Hp):List V->List D->Prop
 |nil:SY O K H [] []
 |cons {v:V} {vs:List V} {d:D} {ds:List D}:DV O K H v d->SY O K H vs ds->SY O K H (v::vs) (d::ds)
end
section
variable {O O':ce} {K:QC} {H H':Hp}
mutual
theorem DV.ev (e:Ev O H O' H'):∀{v:V} {d:D},DV O K H v d->DV O' K H' v d
 |_,_,.Te=> .Te
 |_,_,.bl b=> .bl b
 |_,_,.int i=> .int i
 |_,_,.str x=> .str x
 |_,_,.tup h hs=> .tup (h.ev e) (SY.ev e hs)
 |_,_,.lst h hs=> .lst (h.ev e) (SY.ev e hs)
theorem SY.ev (e:Ev O H O' H'):∀{vs:List V} {ds:List D},SY O K H vs ds->SY O' K H' vs ds
 |_,_,.nil=> .nil
 |_,_,.cons h hs=> .cons (DV.ev e h) (SY.ev e hs)
end
theorem SY.length:∀{vs:List V} {ds:List D},SY O K H vs ds->vs.length=ds.length
 |_,_,.nil=>rfl
 |_,_,.cons _ t=>by rw[Q0,Q0,t.length]
theorem SY.get:∀{vs:List V} {ds:List D} {i:Nat} {d:D},SY O K H vs ds->ds[i]? =QB d->∃v,vs[i]? =QB v/\DV O K H v d
 |_,_,_,_,.nil,e=>by simp at e
 |_,_,0,_,.cons h _,e=>by simp at e;subst e;exact⟨_,rfl,h⟩
 |_,_,i+1,d,.cons _ t,e=>by obtain⟨v,h1,h2⟩:=SY.get t (by simpa using e);exact⟨v,by simpa using h1,h2⟩
theorem SY.abU:∀{vs:List V} {ds:List D} {i:Nat} {v:V},SY O K H vs ds->vs[i]? =QB v->∃d,ds[i]? =QB d/\DV O K H v d
 |_,_,_,_,.nil,e=>by simp at e
 |_,_,0,_,.cons h _,e=>by simp at e;subst e;exact⟨_,rfl,h⟩
 |_,_,i+1,v,.cons _ t,e=>by obtain⟨d,h1,h2⟩:=SY.abU t (by simpa using e);exact⟨d,by simpa using h1,h2⟩
theorem SY.append:∀{vs ws:List V} {ds es:List D},SY O K H vs ds->SY O K H ws es->SY O K H (vs++ws) (ds++es)
 |_,_,_,_,.nil,h=>h
 |_,_,_,_,.cons h t,g=> .cons h (SY.append t g)
theorem SY.flat (h:SY O K H vs ds):∀n:Nat,SY O K H (QP n vs).flatten (QP n ds).flatten
 |0=> .nil
 |n+1=>by rw[RZ,RZ,Tb,Tb];exact h.append (SY.flat h n)
mutual
theorem DV.plain:∀{v:V} {d:D},DV O K H v d->L2.DV K H v d
 |_,_,.Te=> .Te
 |_,_,.bl b=> .bl b
 |_,_,.int i=> .int i
 |_,_,.str x=> .str x
 |_,_,.tup h hs=> .tup h.1 (SY.plain hs)
 |_,_,.lst h hs=> .lst h.1.sq (SY.plain hs)
theorem SY.plain:∀{vs:List V} {ds:List D},SY O K H vs ds->L2.SY K H vs ds
 |_,_,.nil=> .nil
 |_,_,.cons h hs=> .cons (DV.plain h) (SY.plain hs)
end
end
def DX (O:ce) (K:QC) (H:Hp) (v:V):D->Prop
 | .list ds=>∃a xs,v= .ref a/\U8 K H a xs/\SY O K H xs ds
 |d=>DV O K H v d
theorem DV.x (h:DV O K H v d):DX O K H v d:=by
 cases h with
 |lst h hs=>exact⟨_,_,rfl,h.1,hs⟩
 |Te=>exact .Te
 |bl b=>exact .bl b
 |int i=>exact .int i
 |str x=>exact .str x
 |tup h hs=>exact .tup h hs
theorem DX.plain (h:DX O K H v d):L2.DV K H v d:=by
 cases d with
 |list ds=>obtain⟨a,xs,rfl,h1,h2⟩:=h;exact .lst h1.sq h2.plain
 |none=>exact DV.plain h
 |bool b=>exact DV.plain h
 |int i=>exact DV.plain h
 |str x=>exact DV.plain h
 |tuple ds=>exact DV.plain h
 |dict Rc=>exact DV.plain h
def Yo (K:QC) (H0:Hp) (O:ce) (H:Hp) (v:V):PV->Prop
 | .fz d=>DV O K H v d
 | .ow ds=>∃a vs,v= .ref a/\O a/\H0 a=QF/\H a=QB (.lst vs)/\SY O K H vs ds
 | .pl _=>False
structure Rl (K:QC) (B:ce) (H0:Hp) (O:ce) (σ:St) (H:Hp) (ρ:a8):Prop where
 same:SD H0 H
 bo:∀a,B a->O a
 bd:∀a,B a->H0 a≠QF
 od:∀a,H a=QF->¬O a
 len:σ.length=ρ.length
 slot:∀(i:Nat) (x:PV),ρ[i]? =QB (QB x)->∃v,σ[i]? =QB (QB v)/\Yo K H0 O H v x
 one:∀(i j:Nat) (ds es:List D) (v:V),ρ[i]? =QB (QB (.ow ds))->ρ[j]? =QB (QB (.ow es))->σ[i]? =QB (QB v)->σ[j]? =QB (QB v)->i=j
def V2 (K:QC) (H0:Hp) (O:ce) (σ:St) (H:Hp) (ρ:a8) (v:V):PV->Prop
 | .fz d=>DV O K H v d
 | .ow ds=>∃a vs,v= .ref a/\O a/\H0 a=QF/\H a=QB (.lst vs)/\SY O K H vs ds/\∀(i:Nat) (es:List D),ρ[i]? =QB (QB (.ow es))->σ[i]?≠QB (QB (.ref a))
 | .pl i=>σ[i]? =QB (QB v)
def kT:PV->Prop
 | .ow _=>False
 |_=>True
noncomputable def d4:PV->PV
 | .ow ds=> .fz (.list ds)
 |p=>p
section
variable {K:QC} {B O O':ce} {H0 H H':Hp} {σ:St} {ρ ρ':a8} {v:V}
theorem Yo.grow (s:SD H H') (h:Yo K H0 O H v x):Yo K H0 O H' v x:=by
 cases x with
 |fz d=>exact DV.ev (Ev.grow s) h
 |ow ds=>obtain⟨a,vs,e,h1,h2,f,b⟩:=h;exact⟨a,vs,e,h1,h2,s _ _ f,b.ev (Ev.grow s)⟩
 |pl i=>exact h
theorem Rl.grow (R:Rl K B H0 O σ H ρ) (s:SD H H'):Rl K B H0 O σ H' ρ:=
 ⟨R.same.trans s,R.bo,R.bd,fun a h=>R.od a (s.free h),R.len,fun i x h=>let⟨v,h1,h2⟩:=R.slot i x h;⟨v,h1,h2.grow s⟩,R.one⟩
theorem Rl.acd (R:Rl K B H0 O σ H ρ) (h:H p=QF):H0 p=QF:=R.same.free h
theorem Rl.add (R:Rl K B H0 O σ H ρ) (s:SD H H') (hp:H p=QF) (b:H' p≠QF):Rl K B H0 (b5 O p) σ H' ρ:=by
 refine⟨R.same.trans s,fun a h=> .inl (R.bo a h),R.bd,fun a h z=>z.elim (R.od a (s.free h)) fun e=>b (by rw[<-e];exact h),R.len,fun i x h=> ?_,R.one⟩;obtain⟨v,h1,h2⟩:=R.slot i x h;refine⟨v,h1,?_⟩;cases x with
 |fz d=>exact DV.ev (Ev.add s hp) h2
 |ow ds=>obtain⟨a,vs,e,l,j,g,f⟩:=h2;exact⟨a,vs,e,.inl l,j,s _ _ g,f.ev (Ev.add s hp)⟩
 |pl i=>exact h2
theorem Rl.abP (R:Rl K B H0 O σ H ρ) (h:H0 a=QF):¬B a:=fun z=>R.bd a z h
theorem Rl.sub (R:Rl K B H0 O σ H ρ) {a:QI} (j:H0 a=QF) (h:∀(i:Nat) (es:List D),ρ[i]? =QB (QB (.ow es))->σ[i]?≠QB (QB (.ref a))):Rl K B H0 (Eb O a) σ H ρ:=by
 refine⟨R.same,fun b f=>⟨R.bo b f,fun e=>R.abP j (e▸f)⟩,R.bd,fun b f z=>R.od b f z.1,R.len,fun i x g=> ?_,R.one⟩;obtain⟨v,h1,h2⟩:=R.slot i x g;refine⟨v,h1,?_⟩;cases x with
 |fz d=>exact DV.ev (Ev.sub fun b z=>z.1) h2
 |ow ds=>obtain⟨b,vs,e,o,n,m,l⟩:=h2;subst e;exact⟨b,vs,rfl,⟨o,fun e=>h i ds g (by rw[h1,e])⟩,n,m,l.ev (Ev.sub fun b z=>z.1)⟩
 |pl i=>exact h2
theorem wf (h:H a=QB (.lst vs)) (n:¬O a) (hd:SY O K H vs ds):DV O K H (.ref a) (.list ds):= .lst ⟨U8.of h,fun z=>absurd z n⟩ hd
theorem kF {pv:PV} (R:Rl K B H0 O σ H ρ) (h:V2 K H0 O σ H ρ v pv):∃O',Ev O H O' H/\Rl K B H0 O' σ H ρ/\V2 K H0 O' σ H ρ v (d4 pv):=by
 cases pv with
 |fz d=>exact⟨O,.refl,R,h⟩
 |pl i=>exact⟨O,.refl,R,h⟩
 |ow ds=>obtain⟨a,vs,rfl,h1,h2,g,f,e⟩:=h;exact⟨Eb O a,Ev.sub fun b z=>z.1,R.sub h2 e,wf g (fun z=>z.2 rfl) (f.ev (Ev.sub fun b z=>z.1))⟩
theorem v5 (pv:PV):kT (d4 pv):=by cases pv<;>trivial
theorem V2.keep {pv:PV} (a:kT pv) (e:Ev O H O' H') (h:V2 K H0 O σ H ρ v pv):V2 K H0 O' σ H' ρ' v pv:=by
 cases pv with
 |fz d=>exact DV.ev e h
 |pl i=>exact h
 |ow ds=>exact a.elim
noncomputable def Qh:Option (Option PV)->Option D
 |some (QB (.fz d))=>QB d
 |some (QB (.ow ds))=>QB (.list ds)
 |_=>QF
noncomputable def Dp (ρ:a8):PV->Option D
 | .fz d=>QB d
 | .ow ds=>QB (.list ds)
 | .pl i=>Qh ρ[i]?
theorem tI {pv:PV} (R:Rl K B H0 O σ H ρ) (h:V2 K H0 O σ H ρ v pv) (e:Dp ρ pv=QB d):DX O K H v d:=by
 cases pv with
 |fz d'=>cases e;exact DV.x h
 |ow ds=>cases e;obtain⟨a,vs,rfl,h1,h2,n,m,p⟩:=h;exact⟨a,vs,rfl,U8.of n,m⟩
 |pl i=>
  have b:Qh ρ[i]? =QB d:=e;have h':=h;cases q:ρ[i]? with
  |none=>rw[q] at b;cases b
  |some o=>
   cases o with
   |none=>rw[q] at b;cases b
   |some x=>
    obtain⟨u,g,f⟩:=R.slot i x q;rw[h'] at g;cases g;rw[q] at b;cases x with
    |fz d'=>cases b;exact DV.x f
    |ow ds=>cases b;obtain⟨a,vs,rfl,k1,k2,k3,l⟩:=f;exact⟨a,vs,rfl,U8.of k3,l⟩
    |pl j=>exact f.elim
noncomputable def P9 (ρ:a8) (i:Nat):Option (Option PV)->Option (D×a8)
 |some (QB (.fz d))=>QB (d,ρ)
 |some (QB (.ow ds))=>QB (.list ds,ρ.set i (QB (.fz (.list ds))))
 |_=>QF
noncomputable def yl (ρ:a8):PV->Option (D×a8)
 | .fz d=>QB (d,ρ)
 | .ow ds=>QB (.list ds,ρ)
 | .pl i=>P9 ρ i ρ[i]?
theorem b8 {l:List α} (h:(l.set i x)[j]? =QB y):(j=i/\y=x)\/(j≠i/\l[j]? =QB y):=by
 rw[Sd] at h;by_cases e:i=j
 ·rw[if_pos e] at h
  split at h
  ·cases h;exact .inl ⟨e.symm,rfl⟩
  ·cases h
 ·rw[if_neg e] at h;exact .inr ⟨fun z=>e z.symm,h⟩
theorem uC {pv:PV} (R:Rl K B H0 O σ H ρ) (h:V2 K H0 O σ H ρ v pv) (e:yl ρ pv=QB (d,ρ')):∃O',Ev O H O' H/\Rl K B H0 O' σ H ρ'/\DV O' K H v d:=by
 cases pv with
 |fz d'=>cases e;exact⟨O,.refl,R,h⟩
 |ow ds=>cases e;obtain⟨a,vs,rfl,h1,h2,J,I,G⟩:=h;exact⟨Eb O a,Ev.sub fun b z=>z.1,R.sub h2 G,wf J (fun z=>z.2 rfl) (I.ev (Ev.sub fun b z=>z.1))⟩
 |pl i=>
  have f:P9 ρ i ρ[i]? =QB (d,ρ'):=e;have h':=h;cases q:ρ[i]? with
  |none=>rw[q] at f;cases f
  |some o=>
   cases o with
   |none=>rw[q] at f;cases f
   |some x=>
    obtain⟨u,t,r⟩:=R.slot i x q;rw[h'] at t;cases t;rw[q] at f;cases x with
    |fz d'=>cases f;exact⟨O,.refl,R,r⟩
    |pl j=>exact r.elim
    |ow ds=>
     cases f;obtain⟨a,vs,rfl,k1,k2,k3,F⟩:=r;have es:Ev O H (Eb O a) H:=Ev.sub fun b z=>z.1;have y:=wf k3 (fun z=>z.2 rfl) (F.ev es);refine⟨Eb O a,es,⟨R.same,fun b l=>⟨R.bo b l,fun e=>R.abP k2 (e▸l)⟩,R.bd,fun b l z=>R.od b l z.1,by rw[R8];exact R.len,fun j x g=> ?_,fun j k xs ys w p n=> ?_⟩,y⟩
     ·rcases b8 g with⟨rfl,ee⟩|⟨WW,g⟩
      ·cases ee;exact⟨_,h',y⟩
      ·obtain⟨u,m1,m⟩:=R.slot j x g
       refine⟨u,m1,?_⟩;cases x with
       |fz d=>exact DV.ev es m
       |pl i=>exact m
       |ow xs=>obtain⟨b,us,rfl,n1,E,C,A⟩:=m;exact⟨b,us,rfl,⟨n1,fun z=>WW (R.one j i xs ds (.ref a) g q (by rw[m1,z]) h')⟩,E,C,A.ev es⟩
     ·rcases b8 p with⟨rfl,ee⟩|⟨_,p⟩
      ·cases ee
      ·rcases b8 n with⟨rfl,ee⟩|⟨_,n⟩
       ·cases ee
       ·exact R.one j k xs ys w p n
end
def XOk (K:QC) (B:ce) (H:Hp) (c:QD) (dx:Option QI) (x:Xc):Prop:=
 (∃a,c= .ref a/\QZ K QW x.cls=QB (QB (.ref a)))/\∃fs,(∀p,dx=QB p->H p=QB (.xd fs))/\∀f d,x.fs.lookup f=QB d->dx≠QF/\∃v,fs.lookup f=QB v/\DV B K H v d
def XE (K:QC) (B:ce) (H0:Hp) (E:XK) (x:Xc):Prop:=∀c dx H',SD H0 H'->XOk K B H' c dx x->E c dx H'
def WR (K:QC) (E:XK) (B:ce) (H0:Hp) (P:α->Prop):Res α->Prop
 | .ok a=>P a
 | .er x=>XE K B H0 E x
 | .bad=>False
section
variable {K:QC} {E:XK} {B:ce} {H0:Hp}
theorem WR.bind (h:WR K E B H0 P (r.bind k)):WR K E B H0 (fun a=>WR K E B H0 P (k a)) r:=by cases r<;>exact h
theorem WR.RO (h:WR K E B H0 P ((Res.RO o).bind k)):∃a,o=QB a/\WR K E B H0 P (k a):=by
 cases o with
 |none=>exact h.elim
 |some a=>exact⟨a,rfl,h⟩
theorem WR.imp (h:WR K E B H0 P r) (g:∀a,P a->P' a):WR K E B H0 P' r:=by
 cases r with
 |ok a=>exact g a h
 |er x=>exact h
 |bad=>exact h
end
abbrev FE:=a8->Res (PV×a8)
abbrev FT:=a8->Res (Bool×a8)
abbrev FA:=a8->Res (List PV×a8)
def EO (K:QC) (E:XK) (t:TE) (f:FE):Prop:=
 ∀(B:ce) (H0:Hp) (O:ce) (σ:St) (H:Hp) (ρ:a8) (Q:VK),Rl K B H0 O σ H ρ->WR K E B H0 (fun r=>∀O' v H',Ev O H O' H'->Rl K B H0 O' σ H' r.2->V2 K H0 O' σ H' r.2 v r.1->Q v H') (f ρ)->t σ H Q
def Zw (K:QC) (E:XK) (t:TT) (f:FT):Prop:=
 ∀(B:ce) (H0:Hp) (O:ce) (σ:St) (H:Hp) (ρ:a8) (Q:Bool->Hp->Prop),Rl K B H0 O σ H ρ->WR K E B H0 (fun r=>∀O' H',Ev O H O' H'->Rl K B H0 O' σ H' r.2->Q r.1 H') (f ρ)->t σ H Q
def AO (K:QC) (E:XK) (t:TA) (f:FA):Prop:=
 ∀(B:ce) (H0:Hp) (O:ce) (σ:St) (H:Hp) (ρ:a8) (Q:List V->Hp->Prop),Rl K B H0 O σ H ρ->WR K E B H0 (fun r=>∀O' vs H',Ev O H O' H'->Rl K B H0 O' σ H' r.2->Paired (fun v pv=>V2 K H0 O' σ H' r.2 v pv/\kT pv) vs r.1->Q vs H') (f ρ)->t σ H Q
inductive RV where
 |fz (d:D)
 |ow (ds:List D)
noncomputable def RV.pv:RV->PV
 | .fz d=> .fz d
 | .ow ds=> .ow ds
def Fin (O:ce) (K:QC) (H:Hp) (Q:VK):RV->Prop
 | .fz d=>∀v H',SD H H'->DV O K H' v d->Q v H'
 | .ow ds=>∀p vs H',SD H H'->H p=QF->H' p=QB (.lst vs)->SY (b5 O p) K H' vs ds->Q (.ref p) H'
def rm (O:ce) (H:Hp):Prop:=∀a,H a=QF->¬O a
section
variable {K:QC} {E:XK} {B O O':ce} {H0 H H':Hp} {σ:St} {ρ ρ':a8} {v:V}
theorem rV (R:Rl K B H0 O σ H ρ) (h:∀O' v H',Ev O H O' H'->Rl K B H0 O' σ H' ρ->V2 K H0 O' σ H' ρ v rv.pv->Q v H'):Fin O K H Q rv:=by
 cases rv with
 |fz d=>exact fun v H' s b=>h O v H' (Ev.grow s) (R.grow s) b
 |ow ds=>intro p vs H' s hp e b;refine h (b5 O p) (.ref p) H' (Ev.add s hp) (R.add s hp (by rw[e];simp)) ⟨p,vs,rfl,.inr rfl,R.acd hp,e,b,fun i es hi z=> ?_⟩;obtain⟨u,h1,a,us,g,m,l,f,j⟩:=R.slot i _ hi;rw[z] at h1;cases h1;cases g;rw[hp] at f;cases f
theorem Fin.new (hd:SY O K H vs ds) (h:Fin O K H Q (.ow ds)):∀p,H p=QF->Q (.ref p) (bv H p (.lst vs)):=fun p hp=>
 h p vs _ (bM hp _) hp aC (hd.ev (Ev.add (bM hp _) hp))
theorem Fin.ab0 (hd:SY O K H vs ds) (a:rm O H) (h:Fin O K H Q (.fz (.tuple ds))):∀p,H p=QF->Q (.ref p) (bv H p (.tup vs)):=fun p hp=>
 h (.ref p) _ (bM hp _) (.tup ⟨Vx.of aC,fun z=>absurd z (a p hp)⟩ (hd.ev (Ev.grow (bM hp _))))
theorem Fin.at (h:Fin O K H Q (.fz d)) (a:DV O K H v d):Q v H:=h v H (SD.refl H) a
noncomputable def B9 (ρ:a8) (i:Nat):Option (Option PV)->Res (PV×a8)
 |some (QB (.fz d))=> .ok (.fz d,ρ)
 |some (QB (.ow _))=> .ok (.pl i,ρ)
 |_=> .bad
noncomputable def ad (i:Nat):FE:=fun ρ=>B9 ρ i ρ[i]?
theorem aw:EO K E (x4 i) (ad i):=by
 intro B H0 O σ H ρ Q R w;unfold ad at w;cases q:ρ[i]? with
 |none=>rw[q] at w;exact w.elim
 |some o=>
  cases o with
  |none=>rw[q] at w;exact w.elim
  |some x=>
   rw[q] at w;obtain⟨v,h1,h2⟩:=R.slot i x q;cases x with
   |fz d=>exact⟨v,h1,w O v H .refl R h2⟩
   |ow ds=>exact⟨v,h1,w O v H .refl R h1⟩
   |pl j=>exact w.elim
noncomputable def pC (d:D):FE:=fun ρ=> .ok (.fz d,ρ)
theorem C0 (h:∀O H,DV O K H v d):EO K E (tC v) (pC d):=fun B H0 O σ H ρ Q R w=>w O v H .refl R (h O H)
theorem bt:EO K E (tC (.int i)) (pC (.int i)):=C0 fun _ _=> .int i
theorem B1:EO K E (tC (.bl b)) (pC (.bool b)):=C0 fun _ _=> .bl b
theorem nI:EO K E (tC (.str x)) (pC (.str x)):=C0 fun _ _=> .str x
theorem iH:EO K E (tC .Te) (pC .none):=C0 fun _ _=> .Te
def oj (K:QC) (r:R2) (f:D->D->Option RV):Prop:=∀(O:ce) (H:Hp) (x y:V) (dx dy:D) (rv:RV) (Q:VK),rm O H->DX O K H x dx->DX O K H y dy->f dx dy=QB rv->Fin O K H Q rv->r x y H Q
noncomputable def aR (f:D->D->Option RV) (fa fb:FE):FE:=fun ρ=>(fa ρ).bind fun a=>(fb a.2).bind fun b=>(Res.RO (Dp b.2 (d4 a.1))).bind fun dx=>(Res.RO (Dp b.2 b.1)).bind fun dy=>(Res.RO (f dx dy)).bind fun rv=> .ok (rv.pv,b.2)
theorem cy (p:oj K r f) (ha:EO K E ta fa) (q:EO K E tb fb):EO K E (KS r ta tb) (aR f fa fb):=by intro B H0 O σ H ρ Q R w;refine ha B H0 O σ H ρ _ R (w.bind.imp fun a w1 M x H1 z C p1=> ?_);obtain⟨I,u,R2,p2⟩:=kF C p1;refine q B H0 I σ H1 a.2 _ R2 (w1.bind.imp fun b e G y L i g o=> ?_);have h:=p2.keep (v5 a.1) i (ρ':=b.2);obtain⟨dx,l,e⟩:=e.RO;obtain⟨dy,j,e⟩:=e.RO;obtain⟨rv,m,e⟩:=e.RO;refine p G L x y dx dy rv Q g.od (tI g h l) (tI g o j) m (rV g fun F v J t A n=> ?_);exact e F v J (z.trans (u.trans (i.trans t))) A n
noncomputable def PU:D->Option Bool
 | .bool b=>QB b
 |_=>QF
theorem Nu (h:DX O K H x d) (e:PU d=QB b):x= .bl b:=by cases d<;>cases e;cases h;rfl
noncomputable def aU (fa:FE):a8->Res (Bool×a8):=fun ρ=>(fa ρ).bind fun a=>(Res.RO (Dp a.2 a.1)).bind fun d=>(Res.RO (PU d)).bind fun b=> .ok (b,a.2)
theorem jX (ha:EO K E ta fa):Zw K E (GY ta) (aU fa):=by intro B H0 O σ H ρ Q R w;refine ha B H0 O σ H ρ _ R (w.bind.imp fun a w1 i x H1 h e p1=> ?_);obtain⟨d,f,w1⟩:=w1.RO;obtain⟨b,g,w1⟩:=w1.RO;exact⟨b,Nu (tI e p1 f) g,w1 i H1 h e⟩
theorem KY (ha:EO K E ta fa):Zw K E (tB ta) (aU fa):=jX ha
noncomputable def zb (fa fb:FT):FT:=fun ρ=>(fa ρ).bind fun a=>if a.1=QG then fb a.2 else .ok (QN,a.2)
noncomputable def My (fa fb:FT):FT:=fun ρ=>(fa ρ).bind fun a=>if a.1=QG then .ok (QG,a.2) else fb a.2
theorem Zw.next (h:Zw K E t f) (R:Rl K B H0 O1 σ H1 ρ) (a:Ev O H O1 H1) (w:WR K E B H0 (fun r=>∀O' H',Ev O H O' H'->Rl K B H0 O' σ H' r.2->Q r.1 H') (f ρ)):t σ H1 Q:=
 h B H0 O1 σ H1 ρ Q R (w.imp fun r q O' H' b e=>q O' H' (a.trans b) e)
theorem EO.next (h:EO K E t f) (R:Rl K B H0 O1 σ H1 ρ) (b:Ev O H O1 H1) (w:WR K E B H0 (fun r=>∀O' v H',Ev O H O' H'->Rl K B H0 O' σ H' r.2->V2 K H0 O' σ H' r.2 v r.1->Q v H') (f ρ)):t σ H1 Q:=
 h B H0 O1 σ H1 ρ Q R (w.imp fun r q O' v H' e g a=>q O' v H' (b.trans e) g a)
theorem HB (h1:Zw K E t f) (h2:Zw K E u g):Zw K E (LS t u) (zb f g):=by
 intro B H0 O σ H ρ Q R w;refine h1 B H0 O σ H ρ _ R (w.bind.imp fun a w1 i H1 e h=> ?_);obtain⟨b,ρ1⟩:=a;cases b with
 |true=>exact h2.next h e w1
 |false=>exact w1 i H1 e h
theorem ML (h1:Zw K E t f) (h2:Zw K E u g):Zw K E (Pt t u) (My f g):=by
 intro B H0 O σ H ρ Q R w;refine h1 B H0 O σ H ρ _ R (w.bind.imp fun a w1 i H1 e h=> ?_);obtain⟨b,ρ1⟩:=a;cases b with
 |true=>exact w1 i H1 e h
 |false=>exact h2.next h e w1
noncomputable def dr:FT:=fun ρ=> .ok (QG,ρ)
theorem ei:Zw K E Gx dr:=fun B H0 O σ H ρ Q R w=>w O H .refl R
noncomputable def DM (fa fb:FE):FE:=fun ρ=>(aU fa ρ).bind fun a=>if a.1=QG then fb a.2 else .ok (.fz (.bool QN),a.2)
theorem EA (ha:EO K E ta fa) (g:EO K E tb fb):EO K E (B8 ta tb) (DM fa fb):=by
 intro B H0 O σ H ρ Q R w;refine jX ha B H0 O σ H ρ (fun c H1=>if c=QG then tb σ H1 Q else Q (.bl QN) H1) R (w.bind.imp fun a w1 h H1 e f=> ?_);obtain⟨b,ρ1⟩:=a;cases b with
 |true=>exact g.next f e w1
 |false=>exact w1 h _ H1 e f (.bl QN)
noncomputable def au:FA:=fun ρ=> .ok ([],ρ)
noncomputable def aa (fa:FE) (e:FA):FA:=fun ρ=>(fa ρ).bind fun a=>(e a.2).bind fun b=> .ok (d4 a.1::b.1,b.2)
theorem bc:AO K E mO au:=fun B H0 O σ H ρ Q R w=>w O [] H .refl R .nil
theorem aB (ha:EO K E ta fa) (h:AO K E tr fr):AO K E (iq ta tr) (aa fa fr):=by intro B H0 O σ H ρ Q R w;refine ha B H0 O σ H ρ _ R (w.bind.imp fun a w1 q x H1 j m p1=> ?_);obtain⟨o,i,R2,p2⟩:=kF m p1;refine h B H0 o σ H1 a.2 _ R2 (w1.bind.imp fun b f n ys p e l g=> ?_);exact f n (x::ys) p (j.trans (i.trans e)) l (.cons ⟨p2.keep (v5 a.1) e,v5 a.1⟩ g)
noncomputable def xp (ρ:a8):List PV->Option (List D)
 |[]=>QB []
 |p::r=>match Dp ρ p with
  |some d=>(match xp ρ r with
   |some ds=>QB (d::ds)
   |none=>QF)
  |none=>QF
theorem zP (R:Rl K B H0 O σ H ρ):∀{vs:List V} {ps:List PV} {ds:List D},Paired (fun v pv=>V2 K H0 O σ H ρ v pv/\kT pv) vs ps->xp ρ ps=QB ds->Paired (DX O K H) vs ds
 |_,_,_,.nil,e=>by cases e;exact .nil
 |_,_,_,.cons (l₂:=ps) (b:=p) h t,e=>by
  unfold xp at e;cases q:Dp ρ p with
  |none=>rw[q] at e;cases e
  |some d=>
   rw[q] at e;dsimp only at e;cases q2:xp ρ ps with
   |none=>rw[q2] at e;cases e
   |some ds'=>rw[q2] at e;cases e;exact .cons (tI R h.1 q) (zP R t q2)
noncomputable def oY (ρ:a8):List PV->Option (List D×a8)
 |[]=>QB ([],ρ)
 |p::r=>match yl ρ p with
  |some (d,ρ1)=>(match oY ρ1 r with
   |some (ds,ρ2)=>QB (d::ds,ρ2)
   |none=>QF)
  |none=>QF
theorem rM:∀{vs:List V} {ps:List PV} {ds:List D} {O:ce} {ρ ρ':a8},Rl K B H0 O σ H ρ->Paired (fun v pv=>V2 K H0 O σ H ρ v pv/\kT pv) vs ps->oY ρ ps=QB (ds,ρ')->∃O',Ev O H O' H/\Rl K B H0 O' σ H ρ'/\SY O' K H vs ds
 |_,_,_,O,_,_,R,.nil,e=>by cases e;exact⟨O,.refl,R,.nil⟩
 |_,_,_,O,ρ,ρ',R,.cons (l₁:=vs) (l₂:=ps) (b:=p) h t,e=>by
  unfold oY at e;cases q:yl ρ p with
  |none=>rw[q] at e;cases e
  |some r=>
   obtain⟨d,ρ1⟩:=r;rw[q] at e;dsimp only at e;cases q2:oY ρ1 ps with
   |none=>rw[q2] at e;cases e
   |some r2=>obtain⟨i,ρ2⟩:=r2;rw[q2] at e;cases e;obtain⟨n,f,l,d1⟩:=uC R h.1 q;have g:Paired (fun v pv=>V2 K H0 n σ H ρ1 v pv/\kT pv) vs ps:=Paired.Vg t fun v pv ⟨h1,h2⟩=>⟨h1.keep h2 f,h2⟩;obtain⟨m,a,R2,j⟩:=rM l g q2;exact⟨m,f.trans a,R2,.cons (d1.ev a) j⟩
abbrev FN:=List D->Res RV
noncomputable def oP (K:QC) (n:Nat) (F:FN):Sp:=fun vs H Q E=>vs.length=n/\∃(B:ce) (ds:List D),(∀a,B a->H a≠QF)/\SY B K H vs ds/\WR K E B H (Fin B K H Q) (F ds)
noncomputable def b7 (fa:FA):FE:=fun ρ=>(fa ρ).bind fun a=>(Res.RO (oY a.2 a.1)).bind fun b=>if b.1.length<=1000 then .ok (.fz (.tuple b.1),b.2) else .bad
noncomputable def cZ (fa:FA):FE:=fun ρ=>(fa ρ).bind fun a=>(Res.RO (oY a.2 a.1)).bind fun b=>if b.1.length<=1000 then .ok (.ow b.1,b.2) else .bad
theorem yB (h:n<=1000):n<=QU:=Rx h (by decide)
theorem jW (ha:AO K E ta fa):EO K E (Je ta) (b7 fa):=by
 intro B H0 O σ H ρ Q R w;refine ha B H0 O σ H ρ _ R (w.bind.imp fun a w1 p vs H1 i l p1=> ?_);obtain⟨⟨ds,ρ2⟩,q,b⟩:=w1.RO;obtain⟨o,h,R2,e⟩:=rM l p1 q;dsimp only at b;by_cases hn:ds.length<=1000
 ·rw[if_pos hn] at b;refine⟨by rw[e.length];exact yB hn,Fin.ab0 e R2.od (rV R2 fun m v n g j f=>b m v n (i.trans (h.trans g)) j f)⟩
 ·rw[if_neg hn] at b;exact b.elim
theorem jP (ha:AO K E ta fa):EO K E (OD ta) (cZ fa):=by
 intro B H0 O σ H ρ Q R w;refine ha B H0 O σ H ρ _ R (w.bind.imp fun a w1 p vs H1 i l p1=> ?_);obtain⟨⟨ds,ρ2⟩,q,b⟩:=w1.RO;obtain⟨o,h,R2,e⟩:=rM l p1 q;dsimp only at b;by_cases hn:ds.length<=1000
 ·rw[if_pos hn] at b;refine⟨by rw[e.length];exact yB hn,Fin.new e (rV R2 fun m v n g j f=>b m v n (i.trans (h.trans g)) j f)⟩
 ·rw[if_neg hn] at b;exact b.elim
def Hm (K:QC) (r:List V->Hp->VK->Prop) (f:List D->Option RV):Prop:=∀(O:ce) (H:Hp) (xs:List V) (ds:List D) (rv:RV) (Q:VK),rm O H->Paired (DX O K H) xs ds->f ds=QB rv->Fin O K H Q rv->r xs H Q
noncomputable def gy (f:List D->Option RV) (fa:FA):FE:=fun ρ=>(fa ρ).bind fun a=>(Res.RO (xp a.2 a.1)).bind fun ds=>(Res.RO (f ds)).bind fun rv=> .ok (rv.pv,a.2)
theorem jD (i:Hm K r f) (ha:AO K E ta fa):EO K E (Ec r ta) (gy f fa):=by intro B H0 O σ H ρ Q R w;refine ha B H0 O σ H ρ _ R (w.bind.imp fun a w1 o vs H1 l e p1=> ?_);obtain⟨ds,q,b⟩:=w1.RO;obtain⟨rv,g,b⟩:=b.RO;exact i o H1 vs ds rv Q e.od (zP e p1 q) g (rV e fun n v p j m h=>b n v p (l.trans j) m h)
end
theorem uF {l:List α} (h:(l.set i x)[i]? =QB y):i<l.length:=by
 rw[Sd] at h;rw[if_pos rfl] at h;split at h
 ·assumption
 ·cases h
section
variable {K:QC} {E:XK} {B O O':ce} {H0 H H':Hp} {σ:St} {ρ ρ':a8} {v:V}
theorem Rl.mut {i:Nat} {ds g:List D} {a:QI} {f:List V} (R:Rl K B H0 O σ H ρ) (hi:ρ[i]? =QB (QB (.ow ds))) (A:σ[i]? =QB (QB (.ref a))) (C:O a) (E:H0 a=QF) (hd:SY O K H f g):
  Rl K B H0 O σ (bv H a (.lst f)) (ρ.set i (QB (.ow g))):=by
 have ev:Ev O H O (bv H a (.lst f)):=Ev.mut C _;refine⟨fun b o e=>by rw[aA (bU e E)];exact R.same b o e,R.bo,R.bd,fun b m=> ?_,by rw[R8];exact R.len,fun j x l=> ?_,fun j k xs ys w L J t M=> ?_⟩
 ·by_cases e:b=a
  ·rw[e,aC] at m;cases m
  ·rw[aA e] at m;exact R.od b m
 ·rcases b8 l with⟨rfl,ee⟩|⟨WW,l⟩
  ·cases ee;exact⟨_,A,a,f,rfl,C,E,aC,hd.ev ev⟩
  ·obtain⟨u,m1,q⟩:=R.slot j x l
   refine⟨u,m1,?_⟩;cases x with
   |fz d=>exact DV.ev ev q
   |pl i=>exact q
   |ow xs=>obtain⟨b,us,rfl,n1,I,G,F⟩:=q;have y:b≠a:=fun z=>WW (R.one j i xs ds (.ref a) l hi (by rw[m1,z]) A);exact⟨b,us,rfl,n1,I,by rw[aA y];exact G,F.ev ev⟩
 ·have own:∀{j:Nat} {xs:List D},(ρ.set i (QB (.ow g)))[j]? =QB (QB (.ow xs))->∃ys,ρ[j]? =QB (QB (.ow ys)):=fun{j xs} h=>by
   rcases b8 h with⟨rfl,_⟩|⟨_,h⟩
   ·exact⟨_,hi⟩
   ·exact⟨_,h⟩
  obtain⟨p,v⟩:=own L;obtain⟨n,r⟩:=own J;exact R.one j k p n w v r t M
theorem tP (h:n<1000000):n<QU:=Q6 h (by decide)
noncomputable def GR:Option (Option PV)->Option (List D)
 |some (QB (.ow ds))=>QB ds
 |_=>QF
theorem B3 (h:GR o=QB ds):o=QB (QB (.ow ds)):=by
 unfold GR at h;split at h
 ·cases h;rfl
 ·cases h
noncomputable def zC (i:Nat) (fe:FE):FE:=fun ρ=>(Res.RO (GR ρ[i]?)).bind fun _=>(fe ρ).bind fun a=>(Res.RO (yl a.2 a.1)).bind fun b=>(Res.RO (GR b.2[i]?)).bind fun ds=>
 if ds.length<1000000 then .ok (.fz .none,b.2.set i (QB (.ow (ds++[b.1])))) else .bad
theorem DF (m:EO K E te fe):EO K E (P0 K "list" vR (x4 i) (iq te mO)) (zC i fe):=by
 intro B H0 O σ H ρ Q R w;obtain⟨t,j,w⟩:=w.RO;obtain⟨v,g,a,vs,rfl,G,F,n,C⟩:=R.slot i _ (B3 j);refine⟨_,g,.inl ⟨rfl,_,VD.of n⟩,?_⟩;refine m B H0 O σ H ρ _ R (w.bind.imp fun b w1 J y H1 p u p1=> ?_);obtain⟨⟨d,ρ2⟩,h,w1⟩:=w1.RO;obtain⟨z,o,R2,r⟩:=uC u p1 h;obtain⟨ds,e,w1⟩:=w1.RO;have e:=B3 e;obtain⟨A,k1,I,f,q,k2,k3,l,k5⟩:=R2.slot i _ e;subst q;rw[g] at k1;cases k1;dsimp only at w1;by_cases hl:ds.length<1000000
 ·rw[if_pos hl] at w1;refine⟨a,f,y,rfl,rfl,l,tP (by rw[k5.length];exact hl),?_⟩;exact w1 z .Te _ (p.trans (o.trans (Ev.mut k2 _))) (R2.mut e g k2 k3 (k5.append (.cons r .nil))) .Te
 ·rw[if_neg hl] at w1;exact w1.elim
abbrev FG:=PV->a8->Res a8
abbrev Ol:=List D->a8->Res a8
def GO (K:QC) (E:XK) (g:TG) (f:FG):Prop:=
 ∀(B:ce) (H0:Hp) (O:ce) (σ:St) (H:Hp) (ρ:a8) (v:V) (pv:PV) (Q:St->Hp->Prop),Rl K B H0 O σ H ρ->V2 K H0 O σ H ρ v pv->WR K E B H0 (fun ρ'=>∀O' σ' H',Ev O H O' H'->Rl K B H0 O' σ' H' ρ'->Q σ' H') (f pv ρ)->g v σ H Q
def Pu (K:QC) (E:XK) (g:MV) (f:Ol):Prop:=
 ∀(B:ce) (H0:Hp) (O:ce) (σ:St) (H:Hp) (ρ:a8) (vs:List V) (ds:List D) (Q:St->Hp->Prop),Rl K B H0 O σ H ρ->SY O K H vs ds->WR K E B H0 (fun ρ'=>∀O' σ' H',Ev O H O' H'->Rl K B H0 O' σ' H' ρ'->Q σ' H') (f ds ρ)->g vs σ H Q
theorem Rl.ad0 (R:Rl K B H0 O σ H ρ) (h:DV O K H v d):Rl K B H0 O (σ.set i (QB v)) H (ρ.set i (QB (.fz d))):=by
 refine⟨R.same,R.bo,R.bd,R.od,by rw[R8,R8];exact R.len,fun j x b=> ?_,fun j k xs ys w g f a l=> ?_⟩
 ·rcases b8 b with⟨rfl,e⟩|⟨WW,b⟩
  ·cases e;have:=uF b;exact⟨v,by rw[Sd,if_pos rfl,if_pos (by rw[R.len];exact this)],h⟩
  ·obtain⟨u,m1,m⟩:=R.slot j x b;exact⟨u,by rw[Sd,if_neg (fun z=>WW z.symm)];exact m1,m⟩
 ·rcases b8 g with⟨rfl,ee⟩|⟨n1,g⟩
  ·cases ee
  ·rcases b8 f with⟨rfl,ee⟩|⟨n2,f⟩
   ·cases ee
   ·rw[Sd,if_neg (fun z=>n1 z.symm)] at a;rw[Sd,if_neg (fun z=>n2 z.symm)] at l;exact R.one j k xs ys w g f a l
theorem Rl.ahy (R:Rl K B H0 O σ H ρ) (h:V2 K H0 O σ H ρ v (.ow ds)):Rl K B H0 O (σ.set i (QB v)) H (ρ.set i (QB (.ow ds))):=by
 obtain⟨a,vs,rfl,h1,h2,r,q,m⟩:=h;refine⟨R.same,R.bo,R.bd,R.od,by rw[R8,R8];exact R.len,fun j x l=> ?_,fun j k xs ys w p f b g=> ?_⟩
 ·rcases b8 l with⟨rfl,e⟩|⟨WW,l⟩
  ·cases e;have:=uF l;exact⟨.ref a,by rw[Sd,if_pos rfl,if_pos (by rw[R.len];exact this)],a,vs,rfl,h1,h2,r,q⟩
  ·obtain⟨u,m1,n⟩:=R.slot j x l;exact⟨u,by rw[Sd,if_neg (fun z=>WW z.symm)];exact m1,n⟩
 ·rcases b8 p with⟨rfl,ee⟩|⟨n1,hjj⟩
  ·rcases b8 f with⟨rfl,ee2⟩|⟨n2,f⟩
   ·rfl
   ·rw[Sd,if_neg (fun z=>n2 z.symm)] at g
    rcases b8 b with⟨_,e⟩|⟨z,_⟩
    ·cases e;exact absurd g (m k ys f)
    ·exact absurd rfl z
  ·have o:=hjj
   rw[Sd,if_neg (fun z=>n1 z.symm)] at b;rcases b8 f with⟨rfl,ee⟩|⟨n2,f⟩
   ·rcases b8 g with⟨_,e⟩|⟨z,_⟩
    ·cases e;exact absurd b (m j xs hjj)
    ·exact absurd rfl z
   ·rw[Sd,if_neg (fun z=>n2 z.symm)] at g;exact R.one j k xs ys w hjj f b g
noncomputable def gN (i:Nat):FG:=fun pv ρ=>match pv with
 | .ow ds=> .ok (ρ.set i (QB (.ow ds)))
 | .fz d=> .ok (ρ.set i (QB (.fz d)))
 | .pl j=>(Res.RO (yl ρ (.pl j))).bind fun b=> .ok (b.2.set i (QB (.fz b.1)))
theorem b3:GO K E (uB i) (gN i):=by
 intro B H0 O σ H ρ v pv Q R p w;cases pv with
 |ow ds=>exact w O _ H .refl (R.ahy p)
 |fz d=>exact w O _ H .refl (R.ad0 p)
 |pl j=>obtain⟨⟨d,ρ2⟩,q,w⟩:=WR.RO (show WR K E B H0 _ ((Res.RO (yl ρ (.pl j))).bind fun b=> .ok (b.2.set i (QB (.fz b.1)))) from w);obtain⟨f,a,R2,e⟩:=uC R p q;exact w f _ H a (R2.ad0 e)
noncomputable def Pp:Ol:=fun ds ρ=>match ds with
 |[]=> .ok ρ
 |_=> .bad
noncomputable def N7 (f:FG) (g:Ol):Ol:=fun ds ρ=>match ds with
 |[]=> .bad
 |d::r=>(f (.fz d) ρ).bind fun ρ1=>g r ρ1
theorem FR:Pu K E L7 Pp:=by
 intro B H0 O σ H ρ vs ds Q R a w;cases a with
 |nil=>exact⟨rfl,w O σ H .refl R⟩
 |cons _ _=>exact w.elim
theorem v4 (h1:GO K E t f) (h2:Pu K E u g):Pu K E (FO t u) (N7 f g):=by
 intro B H0 O σ H ρ vs ds Q R i w;cases i with
 |nil=>exact w.elim
 |cons hd tl=>rename_i v vs d ds;refine⟨_,_,rfl,h1 B H0 O σ H ρ _ (.fz d) _ R hd (WR.imp (WR.bind w) fun ρ1 w1 m b H1 e j=> ?_)⟩;exact h2 B H0 m b H1 ρ1 _ _ Q j (tl.ev e) (w1.imp fun ρ2 q l a H2 h R2=>q l a H2 (e.trans h) R2)
noncomputable def Ql:D->Option (List D)
 | .tuple ds=>QB ds
 |_=>QF
theorem FB (h:DX O K H x d) (e:Ql d=QB ds):∃a xs,x= .ref a/\V3 O K H a xs/\SY O K H xs ds:=by
 cases d<;>cases e;cases h with
 |tup h hs=>exact⟨_,_,rfl,h,hs⟩
noncomputable def gT (n:Nat) (f:Ol):FG:=fun pv ρ=>(Res.RO (Dp ρ pv)).bind fun d=>(Res.RO (Ql d)).bind fun ds=>if ds.length=n then f ds ρ else .bad
theorem EZ (h:Pu K E t f):GO K E (MW K n t) (gT n f):=by
 intro B H0 O σ H ρ v pv Q R p w;obtain⟨d,g,w⟩:=w.RO;obtain⟨ds,e,w⟩:=w.RO;obtain⟨a,xs,rfl,i,b⟩:=FB (tI R p g) e;by_cases hn:ds.length=n
 ·rw[if_pos hn] at w;exact⟨a,xs,rfl,i.1,b.length.trans hn,h B H0 O σ H ρ xs ds Q R b w⟩
 ·rw[if_neg hn] at w;exact w.elim
inductive Fl where
 |nx (ρ:a8)
 |rt (rv:RV)
 |bk (ρ:a8)
 |ct (ρ:a8)
abbrev FS:=a8->Res Fl
def aad (K:QC) (B:ce) (H0:Hp) (O:ce) (H:Hp) (D:Ends):Fl->Prop
 | .nx ρ'=>∀O' σ' H',Ev O H O' H'->Rl K B H0 O' σ' H' ρ'->D.nx σ' H'
 | .bk ρ'=>∀O' σ' H',Ev O H O' H'->Rl K B H0 O' σ' H' ρ'->D.bk σ' H'
 | .ct ρ'=>∀O' σ' H',Ev O H O' H'->Rl K B H0 O' σ' H' ρ'->D.ct σ' H'
 | .rt rv=>Fin B K H0 D.rt rv
def SO (K:QC) (E:XK) (t:TS) (g:FS):Prop:=
 ∀(B:ce) (H0:Hp) (O:ce) (σ:St) (H:Hp) (ρ:a8) (D:Ends),Rl K B H0 O σ H ρ->WR K E B H0 (aad K B H0 O H D) (g ρ)->t D σ H
theorem aad.ev {D:Ends} (e:Ev O H O1 H1) (h:aad K B H0 O H D fl):aad K B H0 O1 H1 D fl:=by
 cases fl with
 |nx ρ'=>exact fun O' a H' b f=>h O' a H' (e.trans b) f
 |bk ρ'=>exact fun O' a H' b f=>h O' a H' (e.trans b) f
 |ct ρ'=>exact fun O' a H' b f=>h O' a H' (e.trans b) f
 |rt rv=>exact h
noncomputable def eO:FS:=fun ρ=> .ok (.nx ρ)
noncomputable def bV (f g:FS):FS:=fun ρ=>(f ρ).bind fun fl=>match fl with
 | .nx ρ1=>g ρ1
 |fl=> .ok fl
noncomputable def oy (f:FE):FS:=fun ρ=>(f ρ).bind fun a=> .ok (.nx a.2)
noncomputable def gX (f:FE) (g:FG):FS:=fun ρ=>(f ρ).bind fun a=>(g a.1 a.2).bind fun ρ1=> .ok (.nx ρ1)
noncomputable def mM (c:FT) (f g:FS):FS:=fun ρ=>(c ρ).bind fun a=>if a.1=QG then f a.2 else g a.2
noncomputable def Db (ρ:a8):PV->Option RV
 | .fz d=>QB (.fz d)
 | .ow ds=>QB (.ow ds)
 | .pl i=>match ρ[i]? with
  |some (QB (.fz d))=>QB (.fz d)
  |some (QB (.ow ds))=>QB (.ow ds)
  |_=>QF
noncomputable def dW (f:FE):FS:=fun ρ=>(f ρ).bind fun a=>(Res.RO (Db a.2 a.1)).bind fun rv=> .ok (.rt rv)
theorem IV:SO K E AC eO:=fun B H0 O σ H ρ D R w=>w O σ H .refl R
theorem dz (h1:SO K E t f) (h2:SO K E u g):SO K E (Iq t u) (bV f g):=by
 intro B H0 O σ H ρ D R w;refine h1 B H0 O σ H ρ {D with nx:=u D} R (WR.imp (WR.bind w) fun fl w1=> ?_);cases fl with
 |nx ρ1=>exact fun h a H1 b e=>h2 B H0 h a H1 ρ1 D e (WR.imp w1 fun fl q=>q.ev b)
 |rt rv=>exact w1
 |bk ρ1=>exact w1
 |ct ρ1=>exact w1
theorem Bb (h:EO K E t f):SO K E (x5 t) (oy f):=by intro B H0 O σ H ρ D R w;exact h B H0 O σ H ρ _ R (w.bind.imp fun a w1 g x H1 b e p1=>w1 g σ H1 b e)
theorem l6 (h:EO K E t f) (i:GO K E g fg):SO K E (Dw t g) (gX f fg):=by intro B H0 O σ H ρ D R w;refine h B H0 O σ H ρ _ R (w.bind.imp fun a w1 o x H1 l m p1=> ?_);exact i B H0 o σ H1 a.2 x a.1 _ m p1 (w1.bind.imp fun ρ1 e n b H2 j R2=>e n b H2 (l.trans j) R2)
theorem OY (j:Zw K E c fc) (h1:SO K E t f) (h2:SO K E u g):SO K E (Ir c t u) (mM fc f g):=by
 intro B H0 O σ H ρ D R w;refine j B H0 O σ H ρ _ R (w.bind.imp fun a w1 i H1 e h=> ?_);obtain⟨b,ρ1⟩:=a;cases b with
 |true=>exact h1 B H0 i σ H1 ρ1 D h (WR.imp w1 fun fl q=>q.ev e)
 |false=>exact h2 B H0 i σ H1 ρ1 D h (WR.imp w1 fun fl q=>q.ev e)
theorem Mv {pv:PV} (R:Rl K B H0 O σ H ρ) (p:V2 K H0 O σ H ρ v pv) (e:Db ρ pv=QB rv) (w:Fin B K H0 Q rv):Q v H:=by
 have ow:∀{a:QI} {vs:List V} {ds:List D},O a->H0 a=QF->H a=QB (.lst vs)->SY O K H vs ds->Fin B K H0 Q (.ow ds)->Q (.ref a) H:=fun{a vs ds} h1 h2 g f w=>
  w a vs H R.same h2 g (f.ev (Ev.sub fun b z=>z.elim (R.bo b) fun e=>by rw[e];exact h1))
 have fz:∀{d:D},DV O K H v d->Fin B K H0 Q (.fz d)->Q v H:=fun{d} h w=>w v H R.same (h.ev (Ev.sub R.bo));cases pv with
 |fz d=>cases e;exact fz p w
 |ow ds=>cases e;obtain⟨a,vs,rfl,h1,h2,g,f,r⟩:=p;exact ow h1 h2 g f w
 |pl i=>
  have n:=p;unfold Db at e;dsimp only at e;cases q:ρ[i]? with
  |none=>rw[q] at e;cases e
  |some o=>
   cases o with
   |none=>rw[q] at e;cases e
   |some x=>
    obtain⟨u,m,l⟩:=R.slot i x q;rw[n] at m;cases m;rw[q] at e;cases x with
    |fz d=>cases e;exact fz l w
    |ow ds=>cases e;obtain⟨a,vs,rfl,h1,h2,g,f⟩:=l;exact ow h1 h2 g f w
    |pl j=>exact l.elim
theorem kh (h:EO K E t f):SO K E (IW t) (dW f):=by intro B H0 O σ H ρ D R w;refine h B H0 O σ H ρ _ R (w.bind.imp fun a w1 g x H1 e b p1=> ?_);obtain⟨rv,q,w1⟩:=w1.RO;exact Mv b p1 q w1
def zR (K:QC) (J:It) (O:ce) (H:Hp) (ds:List D):Prop:=∀O' H',Ev O H O' H'->rm O' H'->
 (∀i,i<ds.length->J.go i H'/\∀x H'',J.yld i H' x H''->SD H' H''/\∃d,ds[i]? =QB d/\DV O' K H'' x d)/\J.stop ds.length H'
abbrev FI:=a8->Res (List D×a8)
def IO (K:QC) (E:XK) (b:TI) (e:FI):Prop:=
 ∀(B:ce) (H0:Hp) (O:ce) (σ:St) (H:Hp) (ρ:a8) (a:It->Hp->Prop),Rl K B H0 O σ H ρ->WR K E B H0 (fun r=>∀O' J H',Ev O H O' H'->Rl K B H0 O' σ H' r.2->zR K J O' H' r.1->a J H') (e ρ)->b σ H a
noncomputable def o0 (gt:FG) (b:FS):List D->FS
 |[],ρ=> .ok (.nx ρ)
 |d::r,ρ=>(gt (.fz d) ρ).bind fun ρ1=>(b ρ1).bind fun fl=>match fl with
  | .nx ρ2=>o0 gt b r ρ2
  | .ct ρ2=>o0 gt b r ρ2
  | .bk ρ2=> .ok (.nx ρ2)
  | .rt rv=> .ok (.rt rv)
noncomputable def oM (e:FI) (gt:FG) (b:FS):FS:=fun ρ=>(e ρ).bind fun a=>o0 gt b a.1 a.2
theorem zz (hi:IO K E wi fi) (G:GO K E g gt) (I:SO K E tb b):SO K E (MR wi g tb) (oM fi gt b):=by
 intro B H0 O σ H ρ D R w;refine hi B H0 O σ H ρ _ R (w.bind.imp fun a w1 t J H1 A C it=> ?_);obtain⟨ds,ρ1⟩:=a;dsimp only at w1 it C;refine⟨fun i m f H'=>m=ds.length - i/\i<=ds.length/\∃O2 ρ2,Ev t H1 O2 H'/\Rl K B H0 O2 f H' ρ2/\WR K E B H0 (aad K B H0 O H D) (o0 gt b (ds.drop i) ρ2),⟨_,rfl,RF _,t,ρ1,.refl,C,w1⟩,?_⟩;rintro i m l H2 ⟨rfl,hi,O2,ρ2,e2,R2,w2⟩;obtain⟨go,stop⟩:=it O2 H2 e2 R2.od;by_cases U4:i<ds.length
 ·obtain⟨M,L⟩:=go i U4
  refine .inr ⟨M,fun f H'=>i+1<=ds.length/\∃O2 ρ2,Ev t H1 O2 H'/\Rl K B H0 O2 f H' ρ2/\WR K E B H0 (aad K B H0 O H D) (o0 gt b (ds.drop (i+1)) ρ2),fun f H' ⟨h1,h2⟩=>⟨ds.length - (i+1),by omega,rfl,h1,h2⟩,fun x v y=> ?_⟩;obtain⟨z,d,hd,S⟩:=L x v y;have N:ds.drop i=d::ds.drop (i+1):=by obtain⟨_,q⟩:=QK.mp hd;rw[T7 U4,q]
  rw[N] at w2;have Q:Ev O2 H2 O2 v:=Ev.grow z;refine G B H0 O2 l v ρ2 x (.fz d) _ (R2.grow z) S (WR.imp (WR.bind w2) fun ρ3 F U r X P T=> ?_);have j:=e2.trans (Q.trans P);refine I B H0 U r X ρ3 _ T (WR.imp (WR.bind F) fun fl w4=> ?_);cases fl with
  |nx ρ5=>exact fun p h u n o=>⟨U4,p,ρ5,j.trans n,o,w4⟩
  |ct ρ5=>exact fun p h u n o=>⟨U4,p,ρ5,j.trans n,o,w4⟩
  |bk ρ5=>exact fun p h u n o=>w4 p h u (A.trans (j.trans n)) o
  |rt rv=>exact w4
 ·have e:i=ds.length:=by omega
  subst e;rw[Ut (QS _)] at w2;exact .inl ⟨stop,w2 O2 l H2 (A.trans e2) R2⟩
noncomputable def eN:D->Option (List D)
 | .tuple ds=>QB ds
 | .list ds=>QB ds
 |_=>QF
def Ck (K:QC) (tl:TE):TI:=fun σ H R=>tl σ H fun x H1=>∃a,x= .ref a/\(((∃xs,VD K H1 a xs)/\R (PB K a) H1)\/((∃xs,Vx K H1 a xs)/\R (Pz K a) H1))
theorem fM (j:PE X l tl):PI X tg l (Ck X.K tl):=by
 intro pins s σ H R I h;refine cG (j pins s σ H _ I h) fun v s1 ⟨x,H1,f,r1,q1⟩=> ?_;obtain⟨a,e,q⟩:=q1;subst e;cases r1;rcases q with⟨⟨xs,hq⟩,q⟩|⟨⟨xs,hq⟩,q⟩
 ·obtain⟨RE,rv,p,i⟩:=f.list hq
  refine Vi p.isList ?_;refine⟨s1.heap.objs.size,[s1.heap.objs.size],_,_,H1,rfl,f.kept fun b o e=>Heap.get?_push_of_some _ e,CU a _,⟨_,Heap.get?_push_size _ rfl,rfl,rfl⟩,fun b g=> ?_,q⟩;have e:b=s1.heap.objs.size:=by simpa using g
  subst e;exact f.Yn (QS _) (f.Sa.fresh (QS _))
 ·obtain⟨RE,rv,p,i⟩:=f.tuple hq
  refine WI (show s1.heap.IsTuple a RE.toArray from p) ?_;refine⟨s1.heap.objs.size,[s1.heap.objs.size],_,_,H1,rfl,f.kept fun b o e=>Heap.get?_push_of_some _ e,zk a _,⟨_,Heap.get?_push_size _ rfl,rfl,rfl⟩,fun b g=> ?_,q⟩;have e:b=s1.heap.objs.size:=by simpa using g
  subst e;exact f.Yn (QS _) (f.Sa.fresh (QS _))
theorem AF (h:Xu O K H a xs) (hd:SY O K H xs ds):zR K (PB K a) O H ds:=by intro O' H' e n;have h':=h.ev e;have b:=hd.ev e;refine⟨fun i hi=> ?_,⟨xs,h'.1.sq,by rw[hd.length];exact QS _⟩⟩;obtain⟨x,g,_⟩:=b.get (QR hi);refine⟨⟨xs,x,h'.1.sq,g⟩,?_⟩;rintro y j ⟨rfl,hy⟩;obtain⟨d,q1,f⟩:=b.abU (hy xs h'.1.sq);exact⟨SD.refl _,d,q1,f⟩
theorem FU (h:V3 O K H a xs) (hd:SY O K H xs ds):zR K (Pz K a) O H ds:=by intro O' H' e n;have h':=h.ev e;have b:=hd.ev e;refine⟨fun i hi=> ?_,⟨xs,h'.1,by rw[hd.length];exact QS _⟩⟩;obtain⟨x,g,_⟩:=b.get (QR hi);refine⟨⟨xs,x,h'.1,g⟩,?_⟩;rintro y j ⟨rfl,hy⟩;obtain⟨d,q1,f⟩:=b.abU (hy xs h'.1);exact⟨SD.refl _,d,q1,f⟩
noncomputable def ib (fe:FE):FI:=fun ρ=>(fe ρ).bind fun a=>(Res.RO (yl a.2 a.1)).bind fun b=>(Res.RO (eN b.1)).bind fun ds=> .ok (ds,b.2)
theorem iu (h:EO K E tl fe):IO K E (Ck K tl) (ib fe):=by
 intro B H0 O σ H ρ l R w;refine h B H0 O σ H ρ _ R (w.bind.imp fun a w1 m x H1 f j p1=> ?_);obtain⟨⟨d,ρ2⟩,q,w1⟩:=w1.RO;obtain⟨g,e,R2,i⟩:=uC j p1 q;obtain⟨ds,b,w1⟩:=w1.RO;dsimp only at b;cases i with
 |tup h hs=>cases b;exact⟨_,rfl,.inr ⟨⟨_,h.1⟩,w1 g _ H1 (f.trans e) R2 (FU h hs)⟩⟩
 |lst h hs=>cases b;exact⟨_,rfl,.inl ⟨⟨_,h.1.sq⟩,w1 g _ H1 (f.trans e) R2 (AF h hs)⟩⟩
 |_=>cases b
noncomputable def gf (lo:Int) (n:Nat):List D:=(Q2 n).map fun(k:Nat)=> .int (lo+(k:Int))
theorem Gg:zR K (Pf lo n) O H (gf lo n):=by
 intro O' H' e f;have a:(gf lo n).length=n:=by unfold gf;rw[QH,Rz]
 refine⟨fun i hi=> ?_,by show n<=_;rw[a];exact QS _⟩;rw[a] at hi;refine⟨hi,?_⟩;rintro x b ⟨rfl,rfl⟩;exact⟨SD.refl _,.int (lo+i),by unfold gf;rw[QT,List.getElem?_range hi];rfl,.int _⟩
def kH (i:Int):Prop:= -(2^62)<=i/\i<2^62
noncomputable instance (i:Int):Decidable (kH i):=by unfold kH;infer_instance
noncomputable def jH:List D->Option (List D)
 |[.int j]=>if kH j then QB (gf 0 j.toNat) else QF
 |_=>QF
noncomputable def oX (f:List D->Option (List D)) (fa:FA):FI:=fun ρ=>(fa ρ).bind fun a=>(Res.RO (xp a.2 a.1)).bind fun ds=>(Res.RO (f ds)).bind fun xs=> .ok (xs,a.2)
theorem jd (h:AO K E ta fa):IO K E (K8 ta) (oX jH fa):=by
 intro B H0 O σ H ρ l R w;refine h B H0 O σ H ρ _ R (w.bind.imp fun a w1 i vs H1 g e p1=> ?_);obtain⟨ds,q,w1⟩:=w1.RO;obtain⟨xs,b,w1⟩:=w1.RO;have f:=zP e p1 q;unfold jH at b;split at b
 ·rename_i j
  split at b
  ·rename_i hj
   cases b;cases f with
   |cons h1 h2=>cases h2;cases h1;exact⟨j,rfl,hj.1,hj.2,w1 i _ H1 g e Gg⟩
  ·cases b
 ·cases b
end
section
variable {K:QC} {E:XK} {B O O':ce} {H0 H H':Hp} {σ:St} {ρ ρ':a8} {v:V}
noncomputable def FW:Option PV->Option PV
 |some (.fz d)=>QB (.fz d)
 |_=>QF
noncomputable def de (ρ:a8):a8:=ρ.map FW
theorem yL {i:Nat} (h:(de ρ)[i]? =QB (QB x)):∃d,x= .fz d/\ρ[i]? =QB (QB (.fz d)):=by
 unfold de at h;rw[QT] at h;cases q:ρ[i]? with
 |none=>rw[q] at h;cases h
 |some o=>
  rw[q] at h;have h':=QX h;unfold FW at h';split at h'
  ·cases h';exact⟨_,rfl,rfl⟩
  ·cases h'
noncomputable def ui (ρ:a8):List Nat->Option (List D×a8)
 |[]=>QB ([],ρ)
 |j::r=>match yl ρ (.pl j) with
  |some (d,ρ1)=>(match ui ρ1 r with
   |some (c,ρ2)=>QB (d::c,ρ2)
   |none=>QF)
  |none=>QF
theorem Cw (R:Rl K B H0 O σ H ρ) (h:yl ρ (.pl i)=QB (d,ρ')):∃v,σ[i]? =QB (QB v):=by
 have a:P9 ρ i ρ[i]? =QB (d,ρ'):=h;cases q:ρ[i]? with
 |none=>rw[q] at a;cases a
 |some o=>
  cases o with
  |none=>rw[q] at a;cases a
  |some x=>obtain⟨v,b,_⟩:=R.slot i x q;exact⟨v,b⟩
theorem x3:∀{fv:List Nat} {ds:List D} {O:ce} {ρ ρ':a8},Rl K B H0 O σ H ρ->ui ρ fv=QB (ds,ρ')->∃O' vs,Ev O H O' H/\Rl K B H0 O' σ H ρ'/\SY O' K H vs ds/\fv.map (fun j=>(σ[j]?).join)=vs.map QB
 |[],_,O,_,_,R,e=>by cases e;exact⟨O,[],.refl,R,.nil,rfl⟩
 |j::r,_,O,ρ,ρ',R,e=>by
  unfold ui at e;cases q:yl ρ (.pl j) with
  |none=>rw[q] at e;cases e
  |some p=>
   obtain⟨d,ρ1⟩:=p;rw[q] at e;dsimp only at e;cases q2:ui ρ1 r with
   |none=>rw[q2] at e;cases e
   |some p2=>obtain⟨c,ρ2⟩:=p2;rw[q2] at e;cases e;obtain⟨v,a⟩:=Cw R q;obtain⟨l,f,h,d1⟩:=uC (pv:= .pl j) R a q;obtain⟨i,vs,b,R2,g,h2⟩:=x3 h q2;exact⟨i,v::vs,f.trans b,R2,.cons (d1.ev b) g,by rw[QY,QY,h2,a];rfl⟩
noncomputable def dm (gt:FG) (ft:FT) (fe:FE):List D->a8->List D->Res (List D)
 |[],_,acc=> .ok acc
 |d::r,ρ,acc=>(gt (.fz d) ρ).bind fun ρ1=>(ft ρ1).bind fun b=>if b.1=QG then(fe b.2).bind fun a=>(Res.RO (yl a.2 a.1)).bind fun x=>
   if acc.length<1000000 then dm gt ft fe r (de x.2) (acc++[x.1]) else .bad
  else dm gt ft fe r (de b.2) acc
noncomputable def ku:Res α->Res α
 | .er _=> .bad
 |r=>r
noncomputable def dZ (n:Nat) (fv:List Nat) (b:FI) (gt:FG) (ft:FT) (fe:FE):FE:=fun ρ=>(b ρ).bind fun a=>(Res.RO (ui a.2 fv)).bind fun c=>
 (ku (dm gt ft fe a.1 (QP n QF++c.1.map fun d=>QB (.fz d)) [])).bind fun xs=> .ok (.ow xs,c.2)
theorem AR {own:List Str} (h:own.length=n):own.map (fun _=>(QF:Option V))=QP n QF:=by
 subst h
 induction own with
 |nil=>rfl
 |cons x r ih=>rw[QY,ih,Q0,RZ]
theorem A2 (h:WR K E B H0 P (ku r)):∃a,r= .ok a/\P a:=by
 cases r with
 |ok a=>exact⟨a,rfl,h⟩
 |er x=>exact h.elim
 |bad=>exact h.elim
def OL (K:QC) (J:It) (O:ce) (H:Hp) (ds:List D):Prop:=∀O' H',Ev O H O' H'->SD H H'->rm O' H'->
 (∀i,i<ds.length->J.go i H'/\∀x H'',J.yld i H' x H''->SD H' H''/\∃d,ds[i]? =QB d/\DV O' K H'' x d)/\J.stop ds.length H'
def PR (K:QC) (E:XK) (b:TI) (e:FI):Prop:=
 ∀(B:ce) (H0:Hp) (O:ce) (σ:St) (H:Hp) (ρ:a8) (a:It->Hp->Prop),Rl K B H0 O σ H ρ->WR K E B H0 (fun r=>∀O' J H',Ev O H O' H'->Rl K B H0 O' σ H' r.2->OL K J O' H' r.1->a J H') (e ρ)->b σ H a
theorem IO.s (h:IO K E wi fi):PR K E wi fi:=fun B H0 O σ H ρ b R w=>h B H0 O σ H ρ b R (w.imp fun r q O' J H' e R it=>q O' J H' e R fun f H2 a _ n=>it f H2 a n)
theorem wF (hn:own.length=n) (hf:fv.map (·.2)=fj)
  (hi:PR K E wi fi) (hg:GO K E0 g gt) (ht:Zw K E0 tc ft) (he:EO K E0 te fe):EO K E (p5 own fv wi g tc te) (dZ n fj fi gt ft fe):=by
 intro B H0 O σ H ρ Q R w;refine hi B H0 O σ H ρ _ R (w.bind.imp fun a w1 O1 J H1 e1 R1 it=> ?_);obtain⟨ds,ρ1⟩:=a;obtain⟨⟨cs,ρ2⟩,qc,w1⟩:=w1.RO;dsimp only at qc it;obtain⟨F,vs,e2,R2,dvs,hvs⟩:=x3 R1 qc;obtain⟨xs,qx,w1⟩:=A2 (WR.bind w1);intro l C;have hB:∀{H':Hp},SD H1 H'->H' l≠QF->∀a,b5 F l a->H' a≠QF:=fun{H'} s nd a h z=>h.elim (fun q=>R2.od a (s.free z) q) fun e=>nd (by rw[<-e];exact z);refine⟨fun i m G H'=>m=ds.length - i/\i<=ds.length/\∃(v:List D) (ys:List V) (t:a8),SD H1 H'/\H' l=QB (.lst ys)/\SY (b5 F l) K H' ys v/\G.length=t.length/\(∀(j:Nat) (x:PV),t[j]? =QB (QB x)->∃d u,x=PV.fz d/\G[j]? =QB (QB u)/\DV (b5 F l) K H' u d)/\dm gt ft fe (ds.drop i) t v= .ok xs,
  ⟨_,rfl,RF _,[],[],_,bM C _,aC,.nil,?_,fun j x I=> ?_,qx⟩,?_⟩
 ·unfold iG;rw[QM,QM,QH,QH,Rt,QH,hn,<-dvs.length];have:=congrArg Wg hvs;rw[QH,QH,<-hf,QH] at this;omega
 ·have hm:fv.map (fun p=>(σ[p.2]?).join)=vs.map QB:=by rw[<-hvs,<-hf,RI];rfl
  unfold iG;rw[AR hn,hm];by_cases hj:j<n
  ·rw[Rg (by rw[Rt];exact hj),Tr,if_pos hj] at I;cases I
  ·rw[Ru (by rw[Rt];omega),Rt,QT] at I⊢
   cases qd:cs[j - n]? with
   |none=>rw[qd] at I;cases I
   |some d=>rw[qd] at I;cases I;obtain⟨u,hu,du⟩:=dvs.get qd;exact⟨d,u,rfl,by rw[hu];rfl,du.ev (Ev.add (bM C _) C)⟩
 ·rintro i m G H' ⟨rfl,hi,v,ys,t,s,hD,dys,hl,hsl,f⟩
  have nD:H' l≠QF:=by rw[hD];simp
  have no':=fun a z h=>hB s nD a h z;have ev1:=e2.trans (Ev.add s C);obtain⟨go,stop⟩:=it (b5 F l) H' ev1 s no';by_cases U4:i<ds.length
  ·obtain⟨g1,g2⟩:=go i U4
   refine .inr ⟨g1,fun A L=>i+1<=ds.length/\∃(v:List D) (ys:List V) (t:a8),SD H1 L/\L l=QB (.lst ys)/\SY (b5 F l) K L ys v/\A.length=t.length/\(∀(j:Nat) (x:PV),t[j]? =QB (QB x)->∃d u,x=PV.fz d/\A[j]? =QB (QB u)/\DV (b5 F l) K L u d)/\dm gt ft fe (ds.drop (i+1)) t v= .ok xs,
    fun A L ⟨h1,h2⟩=>⟨ds.length - (i+1),by omega,rfl,h1,h2⟩,fun x Y y=> ?_⟩
   obtain⟨s3,d,hd,dv⟩:=g2 x Y y;have ed:ds.drop i=d::ds.drop (i+1):=by obtain⟨_,q⟩:=QK.mp hd;rw[T7 U4,q]
   rw[ed] at f;have X:=s3 _ _ hD;have nD3:Y l≠QF:=by rw[X];simp
   have sv:=s.trans s3;have RC:Rl K (b5 F l) Y (b5 F l) G Y t:=⟨SD.refl _,fun _ h=>h,hB sv nD3,fun a z h=>hB sv nD3 a h z,hl,fun j x I=>by obtain⟨d,u,rfl,h1,h2⟩:=hsl j x I;exact⟨u,h1,h2.ev (Ev.grow s3)⟩,fun j k xs ys w hj=>by obtain⟨d,u,e,_⟩:=hsl j _ hj;cases e⟩;unfold dm at f;have S:∀{O5:ce} {A:St} {L:Hp} {M:a8} {T:Hp},Rl K (b5 F l) Y O5 A L M->(∀b o,b≠l->L b=QB o->T b=QB o)->A.length=(de M).length/\∀(j:Nat) (x:PV),(de M)[j]? =QB (QB x)->∃d u,x=PV.fz d/\A[j]? =QB (QB u)/\DV (b5 F l) K T u d:=fun{O5 A L M T} P k=>by refine⟨by unfold de;rw[QH];exact P.len,fun j x I=> ?_⟩;obtain⟨d,rfl,hxx⟩:=yL I;obtain⟨u,h1,h2⟩:=P.slot j _ hxx;refine⟨d,u,rfl,h1,DV.ev (fun b o h n=>⟨k b o (fun e=>n (.inr e)) h,n⟩) (DV.ev (Ev.sub P.bo) h2)⟩
   refine hg _ _ _ G Y t x (.fz d) _ RC dv ?_;cases qg:gt (.fz d) t with
   |er z=>rw[qg] at f;cases f
   |bad=>rw[qg] at f;cases f
   |ok ρ3=>
    rw[qg,Res.bind_ok] at f;intro O4 Z H4 e4 R4;refine ht _ _ _ Z H4 ρ3 _ R4 ?_;cases qt:ft ρ3 with
    |er z=>rw[qt] at f;cases f
    |bad=>rw[qt] at f;cases f
    |ok b=>
     obtain⟨b,U⟩:=b;rw[qt,Res.bind_ok] at f;intro O5 L e5 P;cases b with
     |false=>rw[if_neg QV] at f⊢;obtain⟨l5,k5⟩:=S P fun b o _ h=>h;refine⟨U4,v,ys,de U,sv.trans P.same,P.same _ _ X,?_,l5,k5,f⟩;exact dys.ev (Ev.grow (s3.trans P.same))
     |true=>
      rw[if_pos rfl] at f⊢;refine he _ _ _ Z L U _ P ?_;cases qe:fe U with
      |er z=>rw[qe] at f;cases f
      |bad=>rw[qe] at f;cases f
      |ok r=>
       rw[qe,Res.bind_ok] at f;intro O6 yv T e6 R6 p6;cases q7:yl r.2 r.1 with
       |none=>rw[q7] at f;cases f
       |some xr=>
        obtain⟨xd,ρ7⟩:=xr;rw[q7] at f;obtain⟨O7,e7,R7,dv7⟩:=uC R6 p6 q7;have hD7:=R7.same _ _ X;have N:(if v.length<1000000 then dm gt ft fe (ds.drop (i+1)) (de ρ7) (v++[xd]) else .bad)= .ok xs:=f;by_cases hl6:v.length<1000000
        ·rw[if_pos hl6] at N
         have up:∀b o,b≠l->T b=QB o->bv T l (.lst (ys++[yv])) b=QB o:=fun b o hb h=>by rw[aA hb];exact h
         have cH:Ev (b5 F l) T (b5 F l) (bv T l (.lst (ys++[yv]))):=fun b o h n=>⟨up b o (fun e=>n (.inr e)) h,n⟩;have ahb:=dys.ev (Ev.grow (s3.trans R7.same));obtain⟨l5,k5⟩:=S R7 up;refine⟨ys,hD7,tP (by rw[dys.length];exact hl6),U4,v++[xd],ys++[yv],de ρ7,fun b o h=> ?_,aC,?_,l5,k5,N⟩
         ·rw[aA (bU h C)];exact R7.same _ _ (sv _ _ h)
         ·exact(ahb.append (.cons (DV.ev (Ev.sub R7.bo) dv7) .nil)).ev cH
        ·rw[if_neg hl6] at N;cases N
  ·have e:i=ds.length:=by omega
   subst e;rw[Ut (QS _)] at f;have f:=f;cases f;refine .inl ⟨stop,?_⟩;refine w1 (b5 F l) (.ref l) H' (e1.trans ev1) (R2.add s C nD) ⟨l,ys,rfl,.inr rfl,R2.acd C,hD,dys,fun k es hk z=> ?_⟩;obtain⟨u,h1,b,us,e2,g1,g2,g3,g4⟩:=R2.slot k _ hk;rw[z] at h1;cases h1;cases e2;rw[C] at g3;cases g3
theorem fh (hn:own.length=n) (e:fv.map (·.2)=fj)
  (hi:IO K E wi fi) (b:GO K E0 g gt) (a:Zw K E0 tc ft) (f:EO K E0 te fe):EO K E (p5 own fv wi g tc te) (dZ n fj fi gt ft fe):=wF hn e hi.s b a f
noncomputable def Mw (ρ:a8):Option (Option PV)->Res (List D×a8)
 |some (QB (.ow ds))=> .ok (ds,ρ)
 |_=> .bad
noncomputable def tS (i:Nat):FI:=fun ρ=>Mw ρ ρ[i]?
theorem xX:PR K E (Ck K (x4 i)) (tS i):=by
 intro B H0 O σ H ρ u R w;unfold tS at w;cases q:ρ[i]? with
 |none=>rw[q] at w;exact w.elim
 |some o=>
  cases o with
  |none=>rw[q] at w;exact w.elim
  |some x=>
   cases x with
   |fz d=>rw[q] at w;exact w.elim
   |pl j=>rw[q] at w;exact w.elim
   |ow ds=>rw[q] at w;obtain⟨v,h1,a,vs,rfl,t,r,f,m⟩:=R.slot i _ q;refine⟨_,h1,a,rfl,.inl ⟨⟨vs,VD.of f⟩,w O _ H .refl R fun O' H' e s n=> ?_⟩⟩;have k:=s _ _ f;have b:=m.ev e;refine⟨fun j l=> ?_,⟨vs,VD.of k,by rw[b.length];exact QS _⟩⟩;obtain⟨x,h,_⟩:=b.get (QR l);refine⟨⟨vs,x,VD.of k,h⟩,?_⟩;rintro y p ⟨rfl,hy⟩;obtain⟨d,q1,g⟩:=b.abU (hy vs (VD.of k));exact⟨SD.refl _,d,q1,g⟩
noncomputable def dI (F:FN) (n:Nat) (fa:FA):FE:=fun ρ=>(fa ρ).bind fun a=>(Res.RO (oY a.2 a.1)).bind fun b=>if b.1.length=n then(ku (F b.1)).bind fun rv=> .ok (rv.pv,b.2) else .bad
theorem jV (ha:AO K E ta fa):EO K E (jQ (oP K n F) [] E0 ta) (dI F n fa):=by
 intro B H0 O σ H ρ Q R w;refine ha B H0 O σ H ρ _ R (w.bind.imp fun a w1 u vs H1 l o p1=> ?_);obtain⟨⟨ds,ρ2⟩,q,b⟩:=w1.RO;obtain⟨r,j,R2,e⟩:=rM o p1 q;dsimp only at b;by_cases hn:ds.length=n
 ·rw[if_pos hn] at b;obtain⟨rv,f,b⟩:=A2 (WR.bind b);rw[Rf];refine⟨e.length.trans hn,r,ds,fun a z h=>R2.od a h z,e,?_⟩;rw[f];exact rV R2 fun p v t i m g=>b p v t (l.trans (j.trans i)) m g
 ·rw[if_neg hn] at b;exact b.elim
end
noncomputable def gC (N:Nat) (g:FS):FN:=fun ds=>(g (ds.map (fun d=>QB (.fz d))++QP (N - ds.length) QF)).bind fun fl=>match fl with
 | .rt rv=> .ok rv
 | .nx _=> .ok (.fz .none)
 |_=> .bad
theorem Gd (g:∀a,B a->H a≠QF) (l:SY B K H vs ds):Rl K B H B (L2.start N vs) H (ds.map (fun d=>QB (.fz d))++QP (N.length - ds.length) QF):=by
 have n:=l.length;refine⟨SD.refl _,fun _ h=>h,g,fun a z h=>g a h z,?_,fun i x m=> ?_,fun i j xs ys w hi=> ?_⟩
 ·unfold L2.start;rw[QM,QM,QH,QH,Rt,Rt,n]
 all_goals
  have b:∀{i:Nat} {x:PV},(ds.map (fun d=>QB (PV.fz d))++QP (N.length - ds.length) QF)[i]? =QB (QB x)->∃d,x= .fz d/\ds[i]? =QB d:=fun{i x} h=>by
   by_cases hi:i<ds.length
   ·rw[Rg (by rw[QH];exact hi),QT] at h
    cases q:ds[i]? with
    |none=>rw[q] at h;cases h
    |some d=>rw[q] at h;cases h;exact⟨d,rfl,rfl⟩
   ·rw[Ru (by rw[QH];omega),Tr] at h;split at h<;>cases h
 ·obtain⟨d,rfl,hd⟩:=b m;obtain⟨v,f,h2⟩:=l.get hd;refine⟨v,?_,h2⟩;have hi:=(QK.mp f).1;unfold L2.start;rw[Rg (by rw[QH];exact hi),QT,f];rfl
 ·obtain⟨d,e,_⟩:=b hi;cases e
theorem Qr (F:Up K x qual st f fd) (S:Tz N ps (ay st)) (hn:ps.length=n)
  (o:∀(Sl:QD) (A:Rp) (outer:List Env) (s:QL) (H:Hp) (E:XK),S9 k (A.deeper (Rb qual (ay st) s.heap.objs.size f Sl))->
   ∃t,Xg (eT di P w K mg base N qual (ay st) f Sl A outer s H E).nox (b6 st) t/\SO K E t g):FnOk P w K mg base di (k+1) f fd ps (oP K n (gC N.length g)):=by
 refine F.ok S (fun vs H Q E h=>h.1.trans hn.symm) (fun Sl A outer s H vs Q E j h=> ?_);obtain⟨t,b,i⟩:=o Sl A outer s H E j;obtain⟨p,B,ds,l,m,h⟩:=h;refine⟨t,b,i B H B _ H _ _ (Gd l m) (WR.imp (WR.bind h) fun fl q=> ?_)⟩;cases fl with
 |rt rv=>exact q
 |nx ρ=>exact fun O' a H' e R=>q .Te H' R.same .Te
 |bk ρ=>exact q.elim
 |ct ρ=>exact q.elim
end L3
namespace L3
open PySem PySem.Spec PyProof.Rows L2
theorem OpR.or (h:OpR X f r) (h':OpR X f r'):OpR X f (fun x y H Q=>r x y H Q\/r' x y H Q):=by
 intro pins s σ H x y v u Q I b a q;rcases q with q|q
 ·exact h pins s σ H x y v u Q I b a q
 ·exact h' pins s σ H x y v u Q I b a q
theorem M4 (I:Inv X pins σ H s) (h:U8 X.K H l xs):xs.length<=QU/\∃(RE:List QD) (n:Nat),Vals xs RE/\xs.length=RE.length/\s.heap.get? l=QB {cls:= .type "list",data:= .seq RE.toArray n}:=by
 rcases h with(h|⟨o,h⟩)|⟨RE,n,h1,h2,h3⟩
 ·exact I.ac7 h
 ·obtain⟨_,z,RE,n,r,e⟩:=I.Sa l _ h;exact⟨z,RE,n,r,r.length,e⟩
 ·exact⟨h2,RE,n,h3,h3.length,I.UT _ _ h1⟩
def KI (K:QC):R2:=fun x y H Q=>∃l b xs zs,x= .ref l/\y= .ref b/\U8 K H l xs/\U8 K H b zs/\xs.length+zs.length<=QU/\∀p,H p=QF->Q (.ref p) (bv H p (.lst (xs++zs)))
theorem HU:OpR X (S0 .Add) (KI X.K):=by
 intro pins s σ H x y v u Q I g f h;obtain⟨l,b,xs,zs,rfl,rfl,m,o,B,q⟩:=h;cases g;cases f;obtain⟨z,RE,n,r,C,e⟩:=M4 I m;obtain⟨w,a,A,i,j,t⟩:=M4 I o;refine PySem.P.add_list e t ?_ (by rw[Q1,Q1];omega);have p:RE.toArray++a.toArray=(RE++a).toArray:=by simp
 rw[p];exact⟨.ref _,_,I.aei (r.append i) (by rw[QM];omega),rfl,q _ I.fresh⟩
def KU (K:QC):R2:=fun x y H Q=>∃l k xs,x= .ref l/\y= .int k/\U8 K H l xs/\ -(2^63)<=k/\k<2^63/\xs.length*k.toNat<=QU/\
 ∀p,H p=QF->Q (.ref p) (bv H p (.lst (QP k.toNat xs).flatten))
theorem IR:OpR X (S0 .Mult) (KU X.K):=by
 intro pins s σ H x y v u Q I A w h;obtain⟨l,k,xs,rfl,rfl,C,h1,h2,o,q⟩:=h;cases A;obtain⟨t,rfl⟩:=w;obtain⟨z,RE,n,r,B,e⟩:=M4 I C;have b:RE.toArray.size*k.toNat<=QU:=by rw[Q1,<-B];exact o
 have j:¬RE.toArray.size*k.toNat>(2^63 - 1)/8:=by
  have:(QU:Nat)<=(2^63 - 1)/8:=by decide
  omega
 have f:¬(!RY.List.listFitsIndex k)=QG:=by rw[fitsIndex_both h1 h2];exact QV
 have g:¬RY.List.listTooLong (RE.toArray.size*k.toNat)=QG:=by rw[G4 b];exact QV
 have i:VQ (fun x1 p=>x1++p) #[] (QP (if RE.toArray.isEmpty=QG then 0 else k.toNat) RE.toArray)=(QP k.toNat RE).flatten.toArray:=by
  have E:=fun m=>by have:=nQ RE m [];rw[XZ] at this;exact this
  rw[E];cases RE with
  |nil=>simp
  |cons a r'=>rw[if_neg (by simp)]
 refine ZV (by decide) ⟨_,e,rfl⟩ (fun s'=>XA s' k t) noFill_list_mul F.fills_int_mul F.slot_int_rmul repeat_list F.slot_int_index.lookup
  (Vu F.slot_int_rmul (XA s k t) F.entry_int_rmul (F.args_int_rmul_2 _ _) (int___rmul___int_list k t l RE.toArray n)
   ⟨e,rfl,⟨_,e,rfl⟩,Vu F.slot_list_mul ⟨_,e,rfl⟩ F.entry_list_mul (F.args_list_mul_2 _ _) (AutoListH.list___mul___list_int_3 l RE.toArray n k t f j g) ⟨e,?_⟩⟩)
 rw[i];exact⟨.ref _,_,I.aei (r.rep k.toNat) (by rw[Cg,Nat.mul_comm];exact o),rfl,q _ I.fresh⟩
section
variable {K:QC}
noncomputable def fI (g:Int->Int->Int):D->D->Option RV
 | .int i,.int j=>QB (.fz (.int (g i j)))
 |_,_=>QF
noncomputable def fB (g:Int->Int->Bool):D->D->Option RV
 | .int i,.int j=>QB (.fz (.bool (g i j)))
 |_,_=>QF
noncomputable def NN (C:Int->Int->Bool) (g:Int->Int->Int):D->D->Option RV
 | .int i,.int j=>if C i j=QG then QB (.fz (.int (g i j))) else QF
 |_,_=>QF
theorem ED (h:fI g dx dy=QB rv):∃i j,dx= .int i/\dy= .int j/\rv= .fz (.int (g i j)):=by
 unfold fI at h;split at h
 ·cases h;exact⟨_,_,rfl,rfl,rfl⟩
 ·cases h
theorem KA:oj K (yx fun i j=> .int (g i j)) (fI g):=by intro O H x y dx dy rv Q n b a e q;obtain⟨i,j,rfl,rfl,rfl⟩:=ED e;cases b;cases a;exact⟨i,j,rfl,rfl,q.at (.int _)⟩
theorem FL:oj K (yx fun i j=> .bl (g i j)) (fB g):=by
 intro O H x y dx dy rv Q n b a e q;unfold fB at e;split at e
 ·cases e;cases b;cases a;exact⟨_,_,rfl,rfl,q.at (.bl _)⟩
 ·cases e
theorem sF (f:∀i j,C i j=QG->C' i j):oj K (rI C' fun i j=> .int (g i j)) (NN C g):=by
 intro O H x y dx dy rv Q n b a e q;unfold NN at e;split at e
 ·split at e
  ·rename_i hc;cases e;cases b;cases a;exact⟨_,_,rfl,rfl,f _ _ hc,q.at (.int _)⟩
  ·cases e
 ·cases e
theorem Dq (h:DX O K H x (.list ds)):∃a xs,x= .ref a/\U8 K H a xs/\SY O K H xs ds:=h
theorem Hl (h:DX O K H x (.tuple ds)):∃a xs,x= .ref a/\V3 O K H a xs/\SY O K H xs ds:=FB h rfl
def Lo (K:QC):R2:=fun x y H Q=>yx (fun i j=> .int (i+j)) x y H Q\/KI K x y H Q\/KP K x y H Q
theorem mJ:OpR X (S0 .Add) (Lo X.K):=OpR.or Nl (OpR.or HU JT)
noncomputable def dB:D->D->Option RV
 | .int i,.int j=>QB (.fz (.int (i+j)))
 | .list xs,.list ys=>if xs.length+ys.length<=1000000 then QB (.ow (xs++ys)) else QF
 | .tuple xs,.tuple ys=>if xs≠[]/\xs.length+ys.length<=1000000 then QB (.fz (.tuple (xs++ys))) else QF
 |_,_=>QF
theorem BP (h:n<=1000000):n<=QU:=Rx h (by decide)
theorem SY.ne (h:SY O K H vs ds):vs=[]↔ds=[]:=by cases h<;>simp
theorem mI:oj K (Lo K) dB:=by
 intro O H x y dx dy rv Q n h g e q;unfold dB at e;split at e
 ·cases e;cases h;cases g;exact .inl ⟨_,_,rfl,rfl,q.at (.int _)⟩
 ·split at e
  ·rename_i hl;cases e;obtain⟨a,xs,rfl,h1,h2⟩:=Dq h;obtain⟨b,ys,rfl,i,f⟩:=Dq g;exact .inr (.inl ⟨a,b,xs,ys,rfl,rfl,h1,i,BP (by rw[h2.length,f.length];exact hl),Fin.new (h2.append f) q⟩)
  ·cases e
 ·split at e
  ·rename_i hl;cases e;obtain⟨a,xs,rfl,h1,h2⟩:=Hl h;obtain⟨b,ys,rfl,i,f⟩:=Hl g;refine .inr (.inr ⟨a,b,xs,ys,rfl,rfl,h1.1,i.1,fun z=>hl.1 (h2.ne.mp z),BP (by rw[h2.length,f.length];exact hl.2),fun z=> ?_,fun _=>Fin.ab0 (h2.append f) n q⟩);have j:=f.ne.mp z;subst j;rw[Rf] at q;exact q.at (.tup h1 h2)
  ·cases e
 ·cases e
def EU (K:QC):R2:=fun x y H Q=>rI abK (fun i j=> .int (i*j)) x y H Q\/KU K x y H Q
theorem J3:OpR X (S0 .Mult) (EU X.K):=OpR.or Mb IR
noncomputable def gB (i:Int):Bool:=decide (-(2^64)<i/\i<2^64)
theorem qG (h:gB i=QG): -(2^64)<i/\i<2^64:=of_decide_eq_true h
noncomputable def zn:D->D->Option RV
 | .int i,.int j=>if(gB i||gB j)=QG then QB (.fz (.int (i*j))) else QF
 | .list xs,.int k=>if xs.length*k.toNat<=1000000/\ -(2^63)<=k/\k<2^63 then QB (.ow (QP k.toNat xs).flatten) else QF
 |_,_=>QF
theorem Ju:oj K (EU K) zn:=by
 intro O H x y dx dy rv Q n f b e q;unfold zn at e;split at e
 ·split at e
  ·rename_i hc
   cases e;cases f;cases b;refine .inl ⟨_,_,rfl,rfl,?_,q.at (.int _)⟩;rcases(VW _ _).mp hc with z|z
   ·exact .inl (qG z)
   ·exact .inr (qG z)
  ·cases e
 ·split at e
  ·rename_i hc;cases e;cases b;obtain⟨a,xs,rfl,h1,h2⟩:=Dq f;exact .inr ⟨a,_,xs,rfl,rfl,h1,hc.2.1,hc.2.2,BP (by rw[h2.length];exact hc.1),Fin.new (h2.flat _) q⟩
  ·cases e
 ·cases e
noncomputable def sD:=fI fun i j=>i - j
theorem Bf:oj K (yx fun i j=> .int (i - j)) sD:=KA
noncomputable def NA (_ j:Int):Bool:=decide (0<j)
noncomputable def qH:=NN NA fun i j=>i % j
theorem J4:oj K (rI (fun _ j=>0<j) fun i j=> .int (i % j)) qH:=sF fun i j h=>of_decide_eq_true h
noncomputable def Mq (_ j:Int):Bool:=decide (0<j/\j<2^128)
noncomputable def CZ:=NN Mq fun i j=>i/j
theorem Kv:oj K (rI (fun _ j=>0<j/\j.natAbs.log2<9000) fun i j=> .int (i/j)) CZ:=sF fun i j h=>by
 have h':=of_decide_eq_true h;refine⟨h'.1,?_⟩;have h2:j.natAbs<2^128:=by have:=h'.2;omega
 have a:=(Nat.log2_lt (by omega)).mpr h2;omega
noncomputable def yp (i j:Int):Bool:=decide (0<=j/\j<=1000000/\i.natAbs<2^64)
theorem Bm (i j:Int) (h:yp i j=QG):Hi i j:=by unfold yp at h;exact(show 0<=j/\j<=1000000/\i.natAbs<2^64 from of_decide_eq_true h)
noncomputable def Jf:=NN yp fun i j=>i^j.toNat
theorem HQ:oj K (rI Hi fun i j=> .int (i^j.toNat)) Jf:=sF Bm
noncomputable def Nb:=NN yp fun i j=>i*2^j.toNat
theorem BB:oj K (rI Hi fun i j=> .int (i*2^j.toNat)) Nb:=sF Bm
noncomputable def P7 (_ j:Int):Bool:=decide (0<=j)
noncomputable def Jn:=NN P7 fun i j=>i/2^j.toNat
theorem Au:oj K (rI (fun _ j=>0<=j) fun i j=> .int (i/2^j.toNat)) Jn:=sF fun i j h=>of_decide_eq_true h
noncomputable def BK:=fI fun i j=>RY.bitAnd i j
theorem Br:oj K (yx fun i j=> .int (RY.bitAnd i j)) BK:=KA
noncomputable def NL:=fB fun i j=>decide (i<j)
noncomputable def MF:=fB fun i j=>decide (j<i)
noncomputable def Pw:=fB fun i j=>decide (j<=i)
theorem zi:oj K (yx fun i j=> .bl (decide (i<j))) NL:=FL
theorem zX:oj K (yx fun i j=> .bl (decide (j<i))) MF:=FL
theorem FH:oj K (yx fun i j=> .bl (decide (j<=i))) Pw:=FL
noncomputable def lw (d:D):Bool:=d.canLay0&&decide (d.depth<=64)
noncomputable def dA (d e:D):Option RV:=if(lw d&&e.canLay0)=QG then QB (.fz (.bool (QJ.eqv d e))) else QF
noncomputable def sL (d e:D):Option RV:=if(lw d&&e.canLay0)=QG then QB (.fz (.bool (!QJ.eqv d e))) else QF
theorem nY:oj K (Jj K QN) dA:=by
 intro O H x y dx dy rv Q n b a e q;unfold dA at e;split at e
 ·rename_i hc;cases e;unfold lw at hc;simp only[Rn,decide_eq_true_eq] at hc;exact⟨dx,dy,b.plain,a.plain,hc.1.1,hc.2,hc.1.2,q.at (.bl _)⟩
 ·cases e
theorem Gw:oj K (Jj K QG) sL:=by
 intro O H x y dx dy rv Q n b a e q;unfold sL at e;split at e
 ·rename_i hc;cases e;unfold lw at hc;simp only[Rn,decide_eq_true_eq] at hc;exact⟨dx,dy,b.plain,a.plain,hc.1.1,hc.2,hc.1.2,q.at (.bl _)⟩
 ·cases e
noncomputable def sZ:D->D->Option RV
 | .none,.none=>QB (.fz (.bool QG))
 |_,.none=>QB (.fz (.bool QN))
 |_,_=>QF
noncomputable def ri:D->D->Option RV
 | .none,.none=>QB (.fz (.bool QN))
 |_,.none=>QB (.fz (.bool QG))
 |_,_=>QF
theorem DQ (h:DX O K H x d) (hd:d≠ .none):x≠ .Te:=by
 cases d with
 |none=>exact absurd rfl hd
 |list ds=>obtain⟨a,xs,rfl,_⟩:=Dq h;simp
 |tuple ds=>obtain⟨a,xs,rfl,_⟩:=Hl h;simp
 |bool b=>cases h;simp
 |int b=>cases h;simp
 |str b=>cases h;simp
 |dict b=>cases h
theorem Ks:oj K (fun x y H Q=>y= .Te/\Q (.bl (decide (x= .Te))) H) sZ:=by
 intro O H x y dx dy rv Q n b a e q;unfold sZ at e;split at e
 ·cases e;cases b;cases a;exact⟨rfl,q.at (.bl _)⟩
 ·rename_i hd;cases e;cases a;refine⟨rfl,?_⟩;rw[decide_eq_false (DQ b hd)];exact q.at (.bl _)
 ·cases e
theorem AZ:oj K (fun x y H Q=>y= .Te/\Q (.bl (!decide (x= .Te))) H) ri:=by
 intro O H x y dx dy rv Q n b a e q;unfold ri at e;split at e
 ·cases e;cases b;cases a;exact⟨rfl,q.at (.bl _)⟩
 ·rename_i hd;cases e;cases a;refine⟨rfl,?_⟩;rw[decide_eq_false (DQ b hd)];exact q.at (.bl _)
 ·cases e
def HV (K:QC) (neg:Bool):R2:=fun x y H Q=>∃d ds,L2.DV K H x d/\(L2.DV K H y (.list ds)\/L2.DV K H y (.tuple ds))/\d.canLay0=QG/\QJ.canLayAll0 ds=QG/\d.depth<=64/\Q (.bl (if neg then !(ds.any fun e=>QJ.eqv e d) else ds.any fun e=>QJ.eqv e d)) H
theorem uI (g:X.A.units+65<cLine):OpR X (S3 .In) (HV X.K QN):=by
 intro pins s σ H x y v u Q I f b h;obtain⟨d,ds,h1,h2,l1,e,hd,q⟩:=h;obtain⟨as,r1⟩:=h1.reads I f;have hm:min (QJ.depthAll ds) d.depth<=64:=Rx (abv _ _) hd;rcases h2 with h2|h2
 ·obtain⟨bs,a⟩:=h2.reads I b;exact afY a r1 e l1 (by omega) ⟨.bl _,H,I,rfl,q⟩
 ·obtain⟨bs,a⟩:=h2.reads I b;exact afZ a r1 e l1 (by omega) ⟨.bl _,H,I,rfl,q⟩
theorem Hu (g:X.A.units+65<cLine):OpR X (S3 .NotIn) (HV X.K QG):=by
 intro pins s σ H x y v u Q I f b h;obtain⟨d,ds,h1,h2,l1,e,hd,q⟩:=h;obtain⟨as,r1⟩:=h1.reads I f;have hm:min (QJ.depthAll ds) d.depth<=64:=Rx (abv _ _) hd;rcases h2 with h2|h2
 ·obtain⟨bs,a⟩:=h2.reads I b;exact af0 a r1 e l1 (by omega) ⟨.bl _,H,I,rfl,q⟩
 ·obtain⟨bs,a⟩:=h2.reads I b;exact af1 a r1 e l1 (by omega) ⟨.bl _,H,I,rfl,q⟩
noncomputable def JP (d e:D):Option RV:=match eN e with
 |some ds=>if(lw d&&QJ.canLayAll0 ds)=QG then QB (.fz (.bool (ds.any fun e=>QJ.eqv e d))) else QF
 |none=>QF
noncomputable def ze (d e:D):Option RV:=match eN e with
 |some ds=>if(lw d&&QJ.canLayAll0 ds)=QG then QB (.fz (.bool (!ds.any fun e=>QJ.eqv e d))) else QF
 |none=>QF
theorem DY (a:DX O K H y e) (h:eN e=QB ds):L2.DV K H y (.list ds)\/L2.DV K H y (.tuple ds):=by
 unfold eN at h;split at h
 ·cases h;exact .inr a.plain
 ·cases h;exact .inl a.plain
 ·cases h
theorem vh:oj K (HV K QN) JP:=by
 intro O H x y dx dy rv Q n b a e q;unfold JP at e;split at e
 ·rename_i ds hs
  split at e
  ·rename_i hc;cases e;unfold lw at hc;simp only[Rn,decide_eq_true_eq] at hc;exact⟨dx,ds,b.plain,DY a hs,hc.1.1,hc.2,hc.1.2,q.at (.bl _)⟩
  ·cases e
 ·cases e
theorem Hs:oj K (HV K QG) ze:=by
 intro O H x y dx dy rv Q n b a e q;unfold ze at e;split at e
 ·rename_i ds hs
  split at e
  ·rename_i hc;cases e;unfold lw at hc;simp only[Rn,decide_eq_true_eq] at hc;exact⟨dx,ds,b.plain,DY a hs,hc.1.1,hc.2,hc.1.2,q.at (.bl _)⟩
  ·cases e
 ·cases e
noncomputable def bA (d e:D):Option RV:=match eN d,e with
 |some ds,.int i=>(kZ ds i).map .fz
 |_,_=>QF
theorem Eu (h:SY O K H xs ds) (e:kZ ds i=QB d):∃v,kZ xs i=QB v/\DV O K H v d:=by
 unfold kZ at e⊢;rw[h.length];cases q:K3 ds.length i with
 |none=>rw[q] at e;cases e
 |some j=>rw[q] at e;exact h.get e
theorem dC:oj K (Pr K) bA:=by
 intro O H x y dx dy rv Q n g h e q;unfold bA at e;split at e
 ·rename_i ds i hs
  cases h;cases qa:kZ ds i with
  |none=>rw[qa] at e;cases e
  |some d=>
   rw[qa] at e;cases e;unfold eN at hs;split at hs
   ·cases hs;obtain⟨a,xs,rfl,h1,h2⟩:=Hl g;obtain⟨v,b,f⟩:=Eu h2 qa;exact .inr (.inl ⟨a,xs,i,v,rfl,rfl,h1.1,b,q.at f⟩)
   ·cases hs;obtain⟨a,xs,rfl,h1,h2⟩:=Dq g;obtain⟨v,b,f⟩:=Eu h2 qa;exact .inl ⟨a,xs,i,v,rfl,rfl,h1.sq,b,q.at f⟩
   ·cases hs
 ·cases e
noncomputable def dS:List D->Option RV
 |[d]=>(match eN d with
  |some ds=>QB (.fz (.int ds.length))
  |none=>QF)
 |_=>QF
theorem fL:Hm K (fun xs H Q=>∃x n,xs=[x]/\OM K x H n/\Q (.int n) H) dS:=by
 intro O H xs ds rv Q n hp e q;unfold dS at e;split at e
 ·split at e
  ·rename_i es hs
   cases e;cases hp with
   |cons h1 h2=>
    cases h2;unfold eN at hs;split at hs
    ·cases hs;obtain⟨a,xs,rfl,h1,h2⟩:=Hl h1;exact⟨_,xs.length,rfl,.inr ⟨xs,h1.1,rfl⟩,by rw[h2.length];exact q.at (.int _)⟩
    ·cases hs;obtain⟨a,xs,rfl,h1,h2⟩:=Dq h1;exact⟨_,xs.length,rfl,.inl ⟨xs,h1.sq,rfl⟩,by rw[h2.length];exact q.at (.int _)⟩
    ·cases hs
  ·cases e
 ·cases e
noncomputable def hV:List D->Option RV
 |[.tuple ds]=>QB (.fz (.tuple ds))
 |[.list ds]=>QB (.fz (.tuple ds))
 |_=>QF
theorem gP:Hm K (fun xs H Q=>∃p ys,xs=[.ref p]/\((VD K H p ys/\∀l,H l=QF->Q (.ref l) (bv H l (.tup ys)))\/(Vx K H p ys/\Q (.ref p) H))) hV:=by
 intro O H xs ds rv Q n hp e q;unfold hV at e;split at e
 ·cases e
  cases hp with
  |cons h1 h2=>cases h2;obtain⟨a,xs,rfl,h1,h2⟩:=Hl h1;exact⟨a,xs,rfl,.inr ⟨h1.1,q.at (.tup h1 h2)⟩⟩
 ·cases e
  cases hp with
  |cons h1 h2=>cases h2;obtain⟨a,xs,rfl,h1,h2⟩:=Dq h1;exact⟨a,xs,rfl,.inl ⟨h1.sq,Fin.ab0 h2 n q⟩⟩
 ·cases e
noncomputable def vx:List D->Option RV
 |[d]=>(eN d).map .ow
 |_=>QF
theorem HL:Hm K (fun xs H Q=>∃p ys,xs=[.ref p]/\(VD K H p ys\/Vx K H p ys)/\∀l,H l=QF->Q (.ref l) (bv H l (.lst ys))) vx:=by
 intro O H xs ds rv Q n hp e q;unfold vx at e;split at e
 ·rename_i d
  cases hp with
  |cons h1 h2=>
   cases h2;cases hs:eN d with
   |none=>rw[hs] at e;cases e
   |some es=>
    rw[hs] at e;cases e;unfold eN at hs;split at hs
    ·cases hs;obtain⟨a,xs,rfl,h1,h2⟩:=Hl h1;exact⟨a,xs,rfl,.inr h1.1,Fin.new h2 q⟩
    ·cases hs;obtain⟨a,xs,rfl,h1,h2⟩:=Dq h1;exact⟨a,xs,rfl,.inl h1.sq,Fin.new h2 q⟩
    ·cases hs
 ·cases e
noncomputable def AW:List D->Option RV
 |[.int i,.int j]=>QB (.fz (.int (if j>i then j else i)))
 |_=>QF
theorem IB:Hm K (fun xs H Q=>∃i j,xs=[.int i,.int j]/\Q (.int (if j>i then j else i)) H) AW:=by
 intro O H xs ds rv Q n hp e q;unfold AW at e;split at e
 ·cases e
  cases hp with
  |cons h1 h2=>
   cases h2 with
   |cons h2 h3=>cases h3;cases h1;cases h2;exact⟨_,_,rfl,q.at (.int _)⟩
 ·cases e
end
end L3
namespace PySem
open Sem (wp)
open AutoSeq1 (wpAny_loadPart')
open Builtin Builtin.Str
section
variable {prog:Q7} {w:Rv} {A:Rp} {E:QD->QL->Prop} {s:QL}
theorem mo (a:s.heap.IsTupleIter it t i) (h:s.heap.IsTuple t items) (g:items[i]? =QB x)
  (l:∀h',h'.IsTupleIter it t (i+1)->Heap.SameBut it s.heap h'->Q x {s with heap:=h'}):wpAny (model prog w) A (RY.SmallTypes.nextOf (.ref it)) Q E s:=by
 obtain⟨o,b,j,hd⟩:=id a;obtain⟨m,e,_,n,f⟩:=h;unfold RY.SmallTypes.nextOf;refine QE (UC a.typeIs F.slot_tuple_iterator_next
  (Uh F.slot_tuple_iterator_next a.typeIs F.entry_tuple_iterator_next ?_ (F.args_tuple_iterator_next_1 _)))
 show wpAny _ _ (field (.ref it) 0>>=_) _ _ s;refine QE (Ry b hd rfl ?_);show wpAny _ _ (if(QD.ref t==QD.none)=QG then _ else _) _ _ s;rw[if_neg (show¬((QD.ref t==QD.none)=QG) from QV)];refine QE (Ry b hd rfl ?_);refine QE (Sv e f ?_);simp only[Sj,g];refine QE (Si b hd (by simp) (QQ ⟨x,rfl,QQ (l _ ?_ (Heap.SameBut.update ..))⟩));exact⟨_,Heap.get?_update_self _ b (Obj.isFreed_of_fields (Obj.data_mapFields hd _)),(Obj.cls_mapFields ..).trans j,by rw[Obj.data_mapFields hd];simp[rawInt]⟩
theorem n6 (h:A.handled=QF) (a:s.heap.IsTupleIter it t i) (l:s.heap.IsTuple t items) (j:items[i]? =QF)
  (m:∀h' e,Heap.ExtBut it s.heap h'->(∃o,h'.get? e=QB o/\o.cls= .type "StopIteration")->E (.ref e) {s with heap:=h'}):wpAny (model prog w) A (RY.SmallTypes.nextOf (.ref it)) Q E s:=by
 obtain⟨o,f,q,hd⟩:=id a;obtain⟨n,b,_,p,g⟩:=l;unfold RY.SmallTypes.nextOf;refine QE (UC a.typeIs F.slot_tuple_iterator_next
  (Uh F.slot_tuple_iterator_next a.typeIs F.entry_tuple_iterator_next ?_ (F.args_tuple_iterator_next_1 _)))
 show wpAny _ _ (field (.ref it) 0>>=_) _ _ s;refine QE (Ry f hd rfl ?_);show wpAny _ _ (if(QD.ref t==QD.none)=QG then _ else _) _ _ s;rw[if_neg (show¬((QD.ref t==QD.none)=QG) from QV)];refine QE (Ry f hd rfl ?_);refine QE (Sv b g ?_);simp only[Sj,j];refine QE (XD (QE (Si f hd (by simp) ?_)));refine QE ?_;simp only[newExc,newTuple];refine QE (SS ?_ (by size_fits));refine QE (YD (by first|rfl|(simp only[firstArgMember];rfl)) ?_);refine SS ?_ (by size_fits);simp only[raiseNew];refine QE (wpAny_handled ?_)
 first|rw[show A.in1.handled=QF from h]|rw[h]
 refine QE (QQ (wpAny_throw ?_));exact m _ _ (((Heap.SameBut.update ..).extBut.push _).push _) ⟨_,Heap.get?_push_size _ rfl,rfl⟩
end
end PySem
namespace L3
open PySem PySem.Spec PyProof.Rows L2
theorem Kw (I:Inv X pins σ H s) (h1:Vx X.K H a xs) (h2:Vx X.K H a ys):xs=ys:=by
 obtain⟨RE,r1,⟨o,h,_,n,d1⟩,_⟩:=I.tuple h1;obtain⟨f,g,⟨i,b,_,j,e⟩,_⟩:=I.tuple h2;rw[h] at b;cases b;rw[d1] at e;have:RE=f:=by
  have q:RE.toArray=f.toArray:=by injection e
  simpa using q
 subst this;exact r1.inj g
theorem Cn {bs:List Bool} (r:Vals (bs.map V.bl) RE) {i:Nat} (h:RE[i]? =QB v):∃b,bs[i]? =QB b/\v= .bool b:=by
 have e:=r.length;rw[QH] at e;have hi:i<bs.length:=by rw[e];exact(QK.mp h).1
 obtain⟨u,a,f⟩:=r.get (by rw[QT,QR hi];rfl);rw[h] at a;cases a;exact⟨bs[i],QR hi,f⟩
theorem Ag (bs:List Bool):((Q2 bs.length).all fun i=>(bs[i]?).getD QG)=bs.all id:=by
 rw[Ug,Ts,Ts];constructor
 ·intro h b a;obtain⟨i,hi,e⟩:=List.mem_iff_getElem.mp a;have:=h i (Tq.mpr hi);rw[QR hi,e] at this;exact this
 ·intro h i hi;have hi:=Tq.mp hi;rw[QR hi];exact h _ (Xv hi)
section
variable {X:Cx}
theorem md (n:X.calm=QG):T4 X (.builtin "all") (fun xs H Q=>∃(p:QI) (bs:List Bool),xs=[.ref p]/\VD X.K H p (bs.map V.bl)/\Q (.bl (bs.all id)) H):=by
 intro pins s σ H xs us Q I r h;obtain⟨l,bs,rfl,j,q⟩:=h;obtain⟨u,rfl,g⟩:=lz r;cases g;obtain⟨RE,rv,pl,y⟩:=I.list j;have a:=rv.length;rw[QH] at a;have w:l<s.heap.objs.size:=by obtain⟨_,_,e,_⟩:=pl;exact Heap.lt_size e
 refine call_all_walk (Vi pl.isList ?_);refine⟨s.heap.objs.size,[s.heap.objs.size,l],[s.heap.objs.size],RE.toArray.size,_,_,fun i=>(bs[i]?).getD QG,rfl,Walks.list (A:=X.A.in1) (I.ok.hd n) _ l (Ra w) RE.toArray,
  ⟨⟨_,Heap.get?_push_size _ rfl,rfl,rfl⟩,pl.isList.push _⟩,fun i v s' z B t f=> ?_,fun h' tk m=> ?_⟩
 ·obtain⟨b,e,rfl⟩:=Cn rv (by simpa using t);simp only[e,Xj] at f;exact Tj f
 ·rw[Q1,<-a,Ag];refine⟨.bl _,H,I.kept fun b o e=>m b o (fun hm=> ?_) (Heap.get?_push_of_some _ e),rfl,q⟩;rw[Ri.mp hm] at e;exact Sg _ (Heap.lt_size e)
end
section
variable {K:QC}
noncomputable def oS:List D->Option (List Bool)
 |[]=>QB []
 | .bool b::r=>(oS r).map (b::·)
 |_=>QF
theorem AU:∀{xs:List V} {ds:List D} {bs:List Bool},SY O K H xs ds->oS ds=QB bs->xs=bs.map V.bl
 |_,_,_,.nil,e=>by cases e;rfl
 |_,_,bs,.cons (ds:=r) h t,e=>by
  cases h with
  |bl b=>
   have a:(oS r).map (b::·)=QB bs:=e;cases q:oS r with
   |none=>rw[q] at a;cases a
   |some bs'=>rw[q] at a;cases a;rw[AU t q];rfl
  |_=>cases e
noncomputable def qY:List D->Option RV
 |[.list ds]=>(oS ds).map fun bs=> .fz (.bool (bs.all id))
 |_=>QF
theorem vV:Hm K (fun xs H Q=>∃(p:QI) (bs:List Bool),xs=[.ref p]/\VD K H p (bs.map V.bl)/\Q (.bl (bs.all id)) H) qY:=by
 intro O H xs ds rv Q n hp e q;unfold qY at e;split at e
 ·rename_i es
  cases qs:oS es with
  |none=>rw[qs] at e;cases e
  |some bs=>
   rw[qs] at e;cases e;cases hp with
   |cons h1 h2=>cases h2;obtain⟨a,ys,rfl,h1,h2⟩:=Dq h1;have:=AU h2 qs;subst this;exact⟨a,bs,rfl,h1.sq,q.at (.bl _)⟩
 ·cases e
noncomputable def nc:List D->Option (List Int)
 |[]=>QB []
 | .int b::r=>(nc r).map (b::·)
 |_=>QF
theorem pA:∀{xs:List V} {ds:List D} {bs:List Int},SY O K H xs ds->nc ds=QB bs->xs=bs.map V.int
 |_,_,_,.nil,e=>by cases e;rfl
 |_,_,bs,.cons (ds:=r) h t,e=>by
  cases h with
  |int b=>
   have a:(nc r).map (b::·)=QB bs:=e;cases q:nc r with
   |none=>rw[q] at a;cases a
   |some bs'=>rw[q] at a;cases a;rw[pA t q];rfl
  |_=>cases e
noncomputable def yC (x:Int):List Int->List Int
 |[]=>[x]
 |y::r=>if x<=y then x::y::r else y::yC x r
noncomputable def jS:List Int->List Int
 |[]=>[]
 |x::r=>yC x (jS r)
theorem nz (x:Int):∀l,(yC x l).Perm (x::l)
 |[]=>Xr _
 |y::r=>by
  unfold yC;split
  ·exact Xr _
  ·exact((nz x r).cons y).trans (aje x y r)
theorem eK:∀l,(jS l).Perm l
 |[]=>Xr _
 |x::r=>(nz x _).trans ((eK r).cons x)
theorem ou (x:Int):∀l:List Int,l.Pairwise (·<=·)->(yC x l).Pairwise (·<=·)
 |[],_=>by simp[yC]
 |y::r,h=>by
  unfold yC;obtain⟨h1,h2⟩:=Vc.mp h;split
  ·rename_i hxy
   refine Vc.mpr ⟨fun z a=> ?_,h⟩;rcases Rk.mp a with e|e
   ·rw[e];exact hxy
   ·have:=h1 z e;omega
  ·rename_i hxy
   refine Vc.mpr ⟨fun z a=> ?_,ou x r h2⟩;rcases Rk.mp ((nz x r).mem_iff.mp a) with e|e
   ·rw[e];omega
   ·exact h1 z e
theorem dX:∀l,(jS l).Pairwise (·<=·)
 |[]=>VU
 |x::r=>ou x _ (dX r)
theorem kX {l m:List Int} (hp:l.Perm m) (e:l.Pairwise (·<=·)) (hm:m.Pairwise (·<=·)):l=m:=hp.eq_of_pairwise (fun a b _ _ h1 h2=>Int.le_antisymm h1 h2) e hm
noncomputable def u0:List D->Option RV
 |[.list ds]=>(match nc ds with
  |some ns=>if ns.length<64 then QB (.ow ((jS ns).map .int)) else QF
  |none=>QF)
 |_=>QF
theorem pV (ns:List Int):SY O K H (ns.map V.int) (ns.map .int):=by
 induction ns with
 |nil=>exact .nil
 |cons n r ih=>exact .cons (.int n) ih
theorem uq:Hm K (fun xs H Q=>∃(p:QI) (ns:List Int),xs=[.ref p]/\VD K H p (ns.map V.int)/\ns.length<64/\∀(l:QI) (b:List Int),H l=QF->b.Perm ns->b.Pairwise (·<=·)->Q (.ref l) (bv H l (.lst (b.map V.int)))) u0:=by
 intro O H xs ds rv Q n hp e q;unfold u0 at e;split at e
 ·rename_i es
  cases qs:nc es with
  |none=>rw[qs] at e;cases e
  |some ns=>
   rw[qs] at e;dsimp only at e;split at e
   ·rename_i f
    cases e;cases hp with
    |cons h1 h2=>cases h2;obtain⟨a,ys,rfl,h1,h2⟩:=Dq h1;have:=pA h2 qs;subst this;refine⟨a,ns,rfl,h1.sq,f,fun l b f hp g=> ?_⟩;have h:=kX (hp.trans (eK ns).symm) g (dX ns);subst h;exact Fin.new (pV _) q l f
   ·cases e
 ·cases e
end
def Qe (K:QC) (H:Hp) (x:V) (t:String):Prop:=match x with
 | .Te=>t= "NoneType"
 | .bl _=>t= "bool"
 | .int _=>t= "int"
 | .str _=>t= "str"
 | .ref a=>(t= "list"/\∃xs,VD K H a xs)\/(t= "tuple"/\∃xs,Vx K H a xs)
 |_=>False
def Fe (K:QC):List V->Hp->VK->Prop:=fun xs H Q=>∃x n t b,xs=[x,.ty n]/\Qe K H x t/\RL K (.type t) (.type n)=QB b/\Q (.bl b) H
theorem nt {X:Cx}:T4 X (.builtin "isinstance") (Fe X.K):=by
 intro pins s σ H xs us Q I r h;obtain⟨x,n,t,b,rfl,ty,e,q⟩:=h;obtain⟨u,j,rfl,g,l⟩:=oB r;obtain rfl:j=QD.type n:=l;have f:∀tk,EP X pins σ Q (.bool b) {s with toks:=tk}:=fun tk=>⟨.bl b,H,I.tok tk,rfl,q⟩;cases x with
 |Te=>cases(show t= "NoneType" from ty);cases(show u=QD.none from g);exact RH ZR I.UT True.intro e (fun z=>nomatch z) f
 |bl y=>cases(show t= "bool" from ty);cases(show u=QD.bool y from g);exact RH ZS I.UT True.intro e (fun z=>nomatch z) f
 |int i=>cases(show t= "int" from ty);obtain⟨t,q⟩:=(show∃t,u=QD.int i t from g);cases q;exact RH Z9 I.UT True.intro e (fun z=>nomatch z) f
 |str y=>cases(show t= "str" from ty);obtain⟨t,q⟩:=(show∃t,u=QD.str y t from g);cases q;exact RH aaa I.UT True.intro e (fun z=>nomatch z) f
 |ref a=>
  cases(show u=QD.ref a from g);rcases ty with⟨rfl,xs,h⟩|⟨rfl,xs,h⟩
  ·obtain⟨RE,r,⟨o,k,h1,h2,_⟩,_⟩:=I.list h;exact RH WG I.UT ⟨_,h1,h2⟩ e (fun z=>nomatch z) f
  ·obtain⟨RE,r,⟨o,h1,h2,_⟩,_⟩:=I.tuple h;exact RH Zi I.UT ⟨o,h1,h2⟩ e (fun z=>nomatch z) f
 |_=>exact(show False from ty).elim
section
variable {K:QC} {E:XK} {B O O':ce} {H0 H H':Hp} {σ:L2.St} {ρ ρ':a8} {v:V}
noncomputable def xT:D->Option String
 | .none=>QB "NoneType"
 | .bool _=>QB "bool"
 | .int _=>QB "int"
 | .str _=>QB "str"
 | .list _=>QB "list"
 | .tuple _=>QB "tuple"
 | .dict _=>QF
noncomputable def zd (n t:String):Bool:=n==t||(n== "int"&&t== "bool")
theorem pE {n t:String} (hn:n= "int"\/n= "bool"\/n= "str"\/n= "list"\/n= "tuple") {d:D} (a:xT d=QB t):RL K (.type t) (.type n)=QB (zd n t):=by cases d<;>(cases a;try (rcases hn with rfl|rfl|rfl|rfl|rfl<;>rfl))
theorem Ln {x:V} {d:D} {t:String} (h:DX O K H x d) (e:xT d=QB t):Qe K H x t:=by
 cases d with
 |none=>cases e;cases h;rfl
 |bool b=>cases e;cases h;rfl
 |int b=>cases e;cases h;rfl
 |str b=>cases e;cases h;rfl
 |dict b=>cases e
 |list ds=>cases e;obtain⟨a,xs,rfl,h1,_⟩:=Dq h;exact .inl ⟨rfl,xs,h1.sq⟩
 |tuple ds=>cases e;obtain⟨a,xs,rfl,h1,_⟩:=Hl h;exact .inr ⟨rfl,xs,h1.1⟩
noncomputable def v3 (n:String) (fa:FE):FE:=fun ρ=>(fa ρ).bind fun a=>(Res.RO (Dp a.2 a.1)).bind fun d=>(Res.RO (xT d)).bind fun t=> .ok (.fz (.bool (zd n t)),a.2)
theorem GD {n:String} {ta:TE} {fa:FE} (hn:n= "int"\/n= "bool"\/n= "str"\/n= "list"\/n= "tuple") (ha:EO K E ta fa):EO K E (Ec (Fe K) (iq ta (iq (tC (.ty n)) mO))) (v3 n fa):=by intro B H0 O σ H ρ Q R w;refine ha B H0 O σ H ρ _ R (w.bind.imp fun a w1 g x H1 f e p1=> ?_);obtain⟨d,q,w1⟩:=w1.RO;obtain⟨t,b,w1⟩:=w1.RO;exact⟨x,n,t,zd n t,rfl,Ln (tI e p1 q) b,pE hn b,w1 g _ H1 f e (.bl _)⟩
end
theorem Cv {P:Q7} {w:Rv} {K:QC} {mg mb:Str->Option QD} {k:Nat} {fa a:QI} {fd:RQ} {x:Str} {F:FN} {b:QL} {vs:List QD} {ns:List Int}
  (m:K.In b.heap) (f:b.heap.Ns QW mg) (t:b.heap.Ns builtinsNs mb) (g:∀x:Str,x≠ "__name__"->mb x=RP x) (i:b.heap.NoLimit) (q:b.gens= #[])
  (ha:b.heap.get? a=QB {cls:= .type "list",data:= .seq vs.toArray}) (hi:IntsAre vs ns) (l:ns.length<=QU) (p:S9 k callerA)
  (FF:∀base:Heap,K.In base->base.Ns QW mg->FnOk P w K mg base di k fa fd [x] (oP K 1 F)) (j:∀(s:QL) (u:QD),Wr s fd ⟨[u],[]⟩ [(x,u)])
  (A:F [.list (ns.map .int)]= .ok (.fz (.bool QG))):
  codeAny (model P w) callerA (.call (.ref fa) ⟨[.ref a],[]⟩) (fun r s'=>r= .ok (.ret (.bool QG))/\OldK b.heap s'.heap/\s'.os=b.os/\AllBare s'.gens) b:=by
 refine D3 (sp:=fun vs H Q E=>oP K 1 F vs H Q E\/(vs.length=1/\False)) m f t g i q ha hi l p (fun base k1 k2=>(FF base k1 k2).imp fun vs H Q E h=> ?_) j (fun H C y=> ?_) fun _ _ _ h=>h
 ·rcases h with h|h
  ·exact h
  ·exact h.2.elim
 ·refine .inl ⟨rfl,Y2,[.list (ns.map .int)],fun a z=>z.elim,.cons (.lst ⟨?_,fun z=>z.elim⟩ (pV ns)) .nil,?_⟩
  ·rcases y with h|⟨o,RE,n,h1,h2,h3,h4,h5,h6⟩
   ·exact .inl h
   ·have e:=m a o h1;rw[ha] at e;cases e;cases h4;exact .inr ⟨vs,0,h1,by rw[QH];exact l,by simpa using h6⟩
  ·rw[A];exact fun v H' s B=>by cases B;rfl
theorem Oz {l:aat} {n k:Nat} {q:Q7} {i:List Str} {J:(Str->Option QD)->Heap->Prop} {z:Rv->Heap->Prop} {d:DefRec} {K:Params->QC} {F:FN} {x:Str}
  (hn:l.most=QB n) (m:n<=QU) (r:d.params.defaults=[]) (B:S9 k callerA)
  (H:∀(w:Rv) (h:Heap),z w h->(K w.params).In h)
  (FF:∀(w:Rv) (mg:Str->Option QD) (fa:QI) (h:Heap),(K w.params).In h->h.Ns QW mg->mg d.name=QB (.ref fa)->
   ∃fd:RQ,(∀(s:QL) (u:QD),Wr s fd ⟨[u],[]⟩ [(x,u)])/\∀base:Heap,(K w.params).In base->base.Ns QW mg->FnOk l.prog w (K w.params) mg base di k fa fd [x] (oP (K w.params) 1 F))
  (I:∀ns:List Int,ns.length<=n->F [.list (ns.map .int)]= .ok (.fz (.bool QG))):
  PySem.W.WalkO q i J z l.row.toRowW d [] (fun f vs=>adU f vs):=by
 refine Att.attach_call hn r fun w s₀ y mg mb fa o pm cd doc a vs ns G Y L hd M p v j e C=> ?_;have A:=H w _ Y;obtain⟨fd,E,t⟩:=FF w mg fa _ A G.T.g p;exact Cv A G.T.g G.T.b G.T.builtins G.T.nolimit C v j (Rx e m) B t E (I ns e)
theorem Qo {P:Q7} {w:Rv} {K:QC} {mg:Str->Option QD} {base:Heap} {x qual:Str} {st:Tg} {f:QI} {fd:RQ} {N ps:List Str} {k n m:Nat} {g:FS} {FF:FN} (F:Up K x qual st f fd) (S:Tz N ps (ay st)) (hn:ps.length=n) (hm:N.length=m) (a:FF=gC m g)
  (b:∀(Sl:QD) (A:Rp) (outer:List Env) (s:QL) (H:Hp) (E:XK),S9 k (A.deeper (Rb qual (ay st) s.heap.objs.size f Sl))->
   ∃t,Xg (eT di P w K mg base N qual (ay st) f Sl A outer s H E).nox (b6 st) t/\SO K E t g):FnOk P w K mg base di (k+1) f fd ps (oP K n FF):=by
 subst a hm;exact Qr F S hn b
noncomputable abbrev g7 (P:Q7) (w:Rv) (K:QC) (mg:Str->Option QD) (base:Heap) (k:Nat) (x:Str) (ps:List Str) (n:Nat) (F:FN):Prop:=rS P w K mg base k x ps (oP K n F)
end L3
namespace L3
open PySem L2
noncomputable abbrev nd (n:Nat):D:= .int (n:Int)
noncomputable def bO (ns:List Nat):List D:=ns.map nd
theorem fQ (ns:List Nat):(bO ns).length=ns.length:=by unfold bO;rw[QH]
theorem Kk (xs ys:List Nat):bO (xs++ys)=bO xs++bO ys:=by unfold bO;rw[Q3]
theorem pU {i:Nat} (h:(bO ns)[i]? =QB d):∃n,ns[i]? =QB n/\d=nd n:=by
 unfold bO at h;rw[QT] at h;cases e:ns[i]? with
 |none=>rw[e] at h;cases h
 |some n=>rw[e] at h;exact⟨n,rfl,(QX h).symm⟩
theorem bf (a:α):Res.RO (QB a)= .ok a:=rfl
theorem yo (a:α):ku (Res.ok a)= .ok a:=rfl
theorem zM (i:Nat) (ρ:a8):ad i ρ=B9 ρ i ρ[i]? :=rfl
theorem Fv (ρ:a8) (i:Nat) (d:D):B9 ρ i (QB (QB (.fz d)))= .ok (.fz d,ρ):=rfl
theorem GN (ρ:a8) (i:Nat) (ds:List D):B9 ρ i (QB (QB (.ow ds)))= .ok (.pl i,ρ):=rfl
theorem nO (ds:List D):GR (QB (QB (.ow ds)))=QB ds:=rfl
theorem GL (i:Nat) (d:D) (ρ:a8):gN i (.fz d) ρ= .ok (ρ.set i (QB (.fz d))):=rfl
theorem yq (b:Bool):PU (.bool b)=QB b:=rfl
theorem jT (ds:List D):dS [.tuple ds]=QB (.fz (nd ds.length)):=rfl
theorem eX (ds:List D):dS [.list ds]=QB (.fz (nd ds.length)):=rfl
theorem lO (i j:Int):NL (.int i) (.int j)=QB (.fz (.bool (decide (i<j)))):=rfl
theorem Bj (i j:Int):MF (.int i) (.int j)=QB (.fz (.bool (decide (j<i)))):=rfl
theorem yu (i j:Int):Pw (.int i) (.int j)=QB (.fz (.bool (decide (j<=i)))):=rfl
theorem gp (i j:Int):dB (.int i) (.int j)=QB (.fz (.int (i+j))):=rfl
theorem oa (i j:Int):sD (.int i) (.int j)=QB (.fz (.int (i - j))):=rfl
theorem vf (h:0<j):qH (.int i) (.int j)=QB (.fz (.int (i % j))):=by show(if NA i j=QG then _ else _)=_;rw[if_pos (show NA i j=QG from decide_eq_true h)]
theorem Gb (h:0<j/\j<2^128):CZ (.int i) (.int j)=QB (.fz (.int (i/j))):=by show(if Mq i j=QG then _ else _)=_;rw[if_pos (show Mq i j=QG from decide_eq_true h)]
theorem Ja (h: -(2^64)<i/\i<2^64):zn (.int i) (.int j)=QB (.fz (.int (i*j))):=by show(if(gB i||gB j)=QG then _ else _)=_;rw[if_pos (by rw[show gB i=QG from decide_eq_true h,Uu])]
theorem Kb (h: -(2^64)<j/\j<2^64):zn (.int i) (.int j)=QB (.fz (.int (i*j))):=by show(if(gB i||gB j)=QG then _ else _)=_;rw[if_pos (by rw[show gB j=QG from decide_eq_true h,U3])]
theorem Kc (h:kH j):jH [.int j]=QB (gf 0 j.toNat):=by show(if kH j then _ else _)=_;rw[if_pos h]
theorem G6 (n:Nat):gf 0 n=bO (Q2 n):=by unfold gf bO;apply U0;intro k _;rw[Int.zero_add]
theorem jq (h:n<=1000000):jH [nd n]=QB (bO (Q2 n)):=by rw[Kc (by unfold kH;omega),G6,Sj]
theorem Gm (h:f ρ= .ok (.nx ρ1)):bV f g ρ=g ρ1:=by unfold bV;rw[h];rfl
theorem Ef (h:f ρ= .ok (.rt rv)):bV f g ρ= .ok (.rt rv):=by unfold bV;rw[h];rfl
theorem PO (h:c ρ= .ok (QG,ρ1)):mM c f g ρ=f ρ1:=by unfold mM;rw[h];rfl
theorem Qb (h:c ρ= .ok (QN,ρ1)):mM c f g ρ=g ρ1:=by unfold mM;rw[h];rfl
theorem zJ (h:fi ρ= .ok (ds,ρ1)):oM fi gt b ρ=o0 gt b ds ρ1:=by unfold oM;rw[h];rfl
theorem MH (h:j<=1000000/\i.natAbs<2^64):Jf (.int i) (nd j)=QB (.fz (.int (i^j))):=by show(if yp i (j:Int)=QG then QB (RV.fz (.int (i^((j:Nat):Int).toNat))) else QF)=_;rw[if_pos (by unfold yp;exact decide_eq_true ⟨by omega,by omega,h.2⟩),Sj]
theorem KN:Jf (.int 10) (.int 18)=QB (.fz (.int (10^18))):=MH ⟨by decide,by decide⟩
noncomputable def jO (gt:FG) (ft:FT) (fe:FE) (d:D) (ρ:a8):Res (Option D×a8):=(gt (.fz d) ρ).bind fun ρ1=>(ft ρ1).bind fun b=>if b.1=QG then(fe b.2).bind fun a=>(Res.RO (yl a.2 a.1)).bind fun x=> .ok (QB x.1,de x.2) else .ok (QF,de b.2)
theorem qz (h:jO gt ft fe d ρ= .ok (o,ρ')) (e:acc.length<1000000):dm gt ft fe (d::r) ρ acc=dm gt ft fe r ρ' (acc++o.toList):=by
 unfold jO at h;show(gt (.fz d) ρ).bind _=_;cases q1:gt (.fz d) ρ with
 |er x=>rw[q1] at h;cases h
 |bad=>rw[q1] at h;cases h
 |ok ρ1=>
  rw[q1,Res.bind_ok] at h;rw[Res.bind_ok];cases q2:ft ρ1 with
  |er x=>rw[q2] at h;cases h
  |bad=>rw[q2] at h;cases h
  |ok b=>
   obtain⟨b,ρ2⟩:=b;rw[q2,Res.bind_ok] at h;rw[Res.bind_ok];cases b with
   |false=>rw[if_neg QV] at h⊢;cases h;rw[ZW,Rf]
   |true=>
    rw[if_pos rfl] at h⊢;cases q3:fe ρ2 with
    |er x=>rw[q3] at h;cases h
    |bad=>rw[q3] at h;cases h
    |ok a=>
     rw[q3,Res.bind_ok] at h;rw[Res.bind_ok];cases q4:yl a.2 a.1 with
     |none=>rw[q4] at h;cases h
     |some x=>rw[q4] at h;cases h;show(if acc.length<1000000 then _ else _)=_;rw[if_pos e];rfl
theorem IQ (c:Nat) (h:c<=1000):Nb (.int 1) (nd c)=QB (.fz (nd (2^c))):=by show(if yp 1 (c:Int)=QG then QB (RV.fz (.int (1*2^((c:Nat):Int).toNat))) else QF)=_;rw[if_pos (by unfold yp;exact decide_eq_true ⟨by omega,by omega,by decide⟩),Int.one_mul,Sj];simp
theorem Np (a b:Nat):decide ((a:Int)=(b:Int))=decide (a=b):=by
 by_cases h:a=b
 ·rw[decide_eq_true h,decide_eq_true (by rw[h])]
 ·rw[decide_eq_false h,decide_eq_false (by omega)]
theorem Hc (a b:Nat):QJ.eqv (nd a) (nd b)=decide (a=b):=Np a b
theorem jn (a b:Int):dA (.int a) (.int b)=QB (.fz (.bool (decide (a=b)))):=by rfl
theorem vX (a b:Int):sL (.int a) (.int b)=QB (.fz (.bool (!decide (a=b)))):=by rfl
theorem mr:∀ns:List Nat,QJ.canLayAll0 (bO ns)=QG
 |[]=>rfl
 |n::r=>by show(QJ.canLay0 (nd n)&&QJ.canLayAll0 (bO r))=QG;rw[mr r];rfl
theorem pT:∀ns:List Nat,QJ.depthAll (bO ns)=0
 |[]=>rfl
 |n::r=>by show max (QJ.depth (nd n)) (QJ.depthAll (bO r))=0;rw[pT r];rfl
theorem AA:∀xs ys:List Nat,QJ.eqvAll (bO xs) (bO ys)=decide (xs=ys)
 |[],[]=>rfl
 |[],_::_=>rfl
 |_::_,[]=>rfl
 |n::r,m::t=>by show(QJ.eqv (nd n) (nd m)&&QJ.eqvAll (bO r) (bO t))=_;rw[AA r t,Hc];rw[Ug];simp
theorem LP (ns:List Nat):lw (.list (bO ns))=QG:=by show(QJ.canLayAll0 (bO ns)&&decide (QJ.depthAll (bO ns)+1<=64))=QG;rw[mr,pT];rfl
theorem we (xs ys:List Nat):dA (.list (bO xs)) (.list (bO ys))=QB (.fz (.bool (decide (xs=ys)))):=by unfold dA;rw[LP,show QJ.canLay0 (.list (bO ys))=QG from mr ys,TK,if_pos rfl,show QJ.eqv (.list (bO xs)) (.list (bO ys))=_ from AA xs ys]
theorem Ku (x:Nat) (xs:List Nat):((bO xs).any fun e=>QJ.eqv e (nd x))=decide (x∈xs):=by
 induction xs with
 |nil=>rfl
 |cons y r ih=>
  show(QJ.eqv (nd y) (nd x)||(bO r).any fun e=>QJ.eqv e (nd x))=_;rw[ih,Hc];by_cases h:y=x
  ·rw[decide_eq_true h,decide_eq_true (show x∈y::r by rw[h];exact Q8),Uu]
  ·rw[decide_eq_false h,Vq]
   by_cases g:x∈r
   ·rw[decide_eq_true g,decide_eq_true (Q4 _ g)]
   ·rw[decide_eq_false g,decide_eq_false (fun z=>(Rk.mp z).elim (fun e=>h e.symm) g)]
theorem ww (x:Nat) (xs:List Nat):JP (nd x) (.tuple (bO xs))=QB (.fz (.bool (decide (x∈xs)))):=by show(if(lw (nd x)&&QJ.canLayAll0 (bO xs))=QG then _ else _)=_;rw[mr,show lw (nd x)=QG from rfl,TK,if_pos rfl,Ku]
theorem Fk {i:Nat} (h:xs[i]? =QB v):kZ xs (i:Int)=QB v:=BI h
theorem LO (h:ds[i]? =QB d):bA (.tuple ds) (nd i)=QB (.fz d):=by show(kZ ds (i:Int)).map RV.fz=_;rw[Fk h];rfl
theorem BC (h:ds[i]? =QB d):bA (.list ds) (nd i)=QB (.fz d):=by show(kZ ds (i:Int)).map RV.fz=_;rw[Fk h];rfl
section
variable {ρ ρ1 ρ2 ρ3:a8} {fa fb fc fe:FE} {pa pb pv:PV} {dx dy d:D} {rv:RV} {ps:List PV} {ds:List D}
theorem ah (h:ρ[i]? =QB (QB (.fz d))):ad i ρ= .ok (.fz d,ρ):=by rw[zM,h,Fv]
theorem jy (h:ρ[i]? =QB (QB (.ow ds))):ad i ρ= .ok (.pl i,ρ):=by rw[zM,h,GN]
theorem aH:pC d ρ= .ok (.fz d,ρ):=rfl
theorem aW (ha:fa ρ= .ok (pa,ρ1)) (g:fb ρ1= .ok (pb,ρ2)) (b:Dp ρ2 (d4 pa)=QB dx) (a:Dp ρ2 pb=QB dy) (e:f dx dy=QB rv):aR f fa fb ρ= .ok (rv.pv,ρ2):=by unfold aR;rw[ha,Res.bind_ok,g,Res.bind_ok,b,bf,Res.bind_ok,a,bf,Res.bind_ok,e,bf,Res.bind_ok]
theorem cF (ha:fa ρ= .ok (pa,ρ1)) (a:Dp ρ1 pa=QB (.bool b)):aU fa ρ= .ok (b,ρ1):=by unfold aU;rw[ha,Res.bind_ok,a,bf,Res.bind_ok,yq,bf,Res.bind_ok]
theorem vC (ha:f ρ= .ok (a,ρ1)) (e:a=QG->g ρ1= .ok (b,ρ1)):zb f g ρ= .ok (a&&b,ρ1):=by
 unfold zb;rw[ha,Res.bind_ok];cases a with
 |true=>rw[if_pos rfl,e rfl,Vr]
 |false=>rw[if_neg QV,Va]
theorem Fb (ha:f ρ= .ok (a,ρ1)) (e:a=QN->g ρ1= .ok (b,ρ1)):My f g ρ= .ok (a||b,ρ1):=by
 unfold My;rw[ha,Res.bind_ok];cases a with
 |true=>rw[if_pos rfl,Uu]
 |false=>rw[if_neg QV,e rfl,Vq]
theorem vi (ha:aU fa ρ= .ok (a,ρ1)) (e:a=QG->fb ρ1= .ok (.fz (.bool b),ρ1)):DM fa fb ρ= .ok (.fz (.bool (a&&b)),ρ1):=by
 unfold DM;rw[ha,Res.bind_ok];cases a with
 |true=>rw[if_pos rfl,e rfl,Vr]
 |false=>rw[if_neg QV,Va]
theorem aI:au ρ= .ok ([],ρ):=rfl
theorem ai (ha:fa ρ= .ok (pa,ρ1)) (a:fr ρ1= .ok (ps,ρ2)):aa fa fr ρ= .ok (d4 pa::ps,ρ2):=by unfold aa;rw[ha,Res.bind_ok,a,Res.bind_ok]
theorem eR (ha:fr ρ= .ok (ps,ρ1)) (hd:xp ρ1 ps=QB ds) (a:f ds=QB rv):gy f fr ρ= .ok (rv.pv,ρ1):=by unfold gy;rw[ha,Res.bind_ok,hd,bf,Res.bind_ok,a,bf,Res.bind_ok]
theorem cB (ha:fr ρ= .ok (ps,ρ1)) (hd:oY ρ1 ps=QB (ds,ρ2)) (hn:ds.length=n) (a:F ds= .ok rv):dI F n fr ρ= .ok (rv.pv,ρ2):=by unfold dI;rw[ha,Res.bind_ok,hd,bf,Res.bind_ok];dsimp only;rw[if_pos hn,a,yo,Res.bind_ok]
theorem fy (ha:fr ρ= .ok (ps,ρ1)) (hd:oY ρ1 ps=QB (ds,ρ2)) (hn:ds.length<=1000):b7 fr ρ= .ok (.fz (.tuple ds),ρ2):=by unfold b7;rw[ha,Res.bind_ok,hd,bf,Res.bind_ok];dsimp only;rw[if_pos hn]
theorem nG (ha:fr ρ= .ok (ps,ρ1)) (hd:oY ρ1 ps=QB (ds,ρ2)) (hn:ds.length<=1000):cZ fr ρ= .ok (.ow ds,ρ2):=by unfold cZ;rw[ha,Res.bind_ok,hd,bf,Res.bind_ok];dsimp only;rw[if_pos hn]
theorem Ft (ha:fa ρ= .ok (pa,ρ1)) (a:Dp ρ1 pa=QB dx) (b:xT dx=QB t):v3 n fa ρ= .ok (.fz (.bool (zd n t)),ρ1):=by unfold v3;rw[ha,Res.bind_ok,a,bf,Res.bind_ok,b,bf,Res.bind_ok]
theorem v7 (f:ρ[i]? =QB (QB (.ow es))) (ha:fe ρ= .ok (pa,ρ1)) (b:yl ρ1 pa=QB (d,ρ2)) (h1:ρ2[i]? =QB (QB (.ow ds))) (e:ds.length<1000000) (a:ρ2.set i (QB (.ow (ds++[d])))=x):zC i fe ρ= .ok (.fz .none,x):=by unfold zC;rw[f,nO,bf,Res.bind_ok,ha,Res.bind_ok,b,bf,Res.bind_ok];dsimp only;rw[h1,nO,bf,Res.bind_ok,if_pos e,a]
theorem eB (hi:fi ρ= .ok (ds,ρ1)) (a:ui ρ1 fv=QB (cs,ρ2)) (hp:ku (dm gt ft fe ds (QP n QF++cs.map fun d=>QB (.fz d)) [])= .ok xs):dZ n fv fi gt ft fe ρ= .ok (.ow xs,ρ2):=by unfold dZ;rw[hi,Res.bind_ok];dsimp only;rw[a,bf,Res.bind_ok];dsimp only;rw[hp,Res.bind_ok]
theorem iX:bA (.tuple (a::r)) (.int 0)=QB (.fz a):=LO rfl
theorem lL:bA (.tuple (a::b::r)) (.int 1)=QB (.fz b):=LO rfl
theorem sY:bA (.tuple (a::b::c::r)) (.int 2)=QB (.fz c):=LO rfl
theorem MS (h1:k<=1000) (h2:xs.length<=1000):zn (.list xs) (nd k)=QB (.ow (QP k xs).flatten):=by show(if xs.length*((k:Nat):Int).toNat<=1000000/\ -(2^63)<=(k:Int)/\(k:Int)<2^63 then QB (RV.ow (QP ((k:Nat):Int).toNat xs).flatten) else QF)=_;rw[Sj,if_pos ⟨Rx (Ws h2 h1) (by decide),by omega,by omega⟩]
theorem kI (ha:fe ρ= .ok (pa,ρ1)) (a:yl ρ1 pa=QB (d,ρ2)) (b:eN d=QB es):ib fe ρ= .ok (es,ρ2):=by unfold ib;rw[ha,Res.bind_ok,a,bf,Res.bind_ok];dsimp only;rw[b,bf,Res.bind_ok]
theorem Il (ha:fr ρ= .ok (ps,ρ1)) (hd:xp ρ1 ps=QB ds) (a:f ds=QB es):oX f fr ρ= .ok (es,ρ1):=by unfold oX;rw[ha,Res.bind_ok,hd,bf,Res.bind_ok,a,bf,Res.bind_ok]
theorem zl (b:fe ρ= .ok (pv,ρ1)) (a:g pv ρ1= .ok ρ2) (hn:ρ2=ρ3):gX fe g ρ= .ok (.nx ρ3):=by unfold gX;rw[b,Res.bind_ok];dsimp only;rw[a,Res.bind_ok,hn]
theorem BU (a:fe ρ= .ok (pv,ρ1)):oy fe ρ= .ok (.nx ρ1):=by unfold oy;rw[a,Res.bind_ok]
theorem wo (b:fe ρ= .ok (pv,ρ1)) (a:Db ρ1 pv=QB rv):dW fe ρ= .ok (.rt rv):=by unfold dW;rw[b,Res.bind_ok];dsimp only;rw[a,bf,Res.bind_ok]
theorem Ij (e:gt (.fz d) ρ= .ok ρ1) (b:ft ρ1= .ok (QG,ρ2)) (g:fe ρ2= .ok (pv,ρ3)) (a:yl ρ3 pv=QB (x,ρ4)) (f:de ρ4=ρ5):jO gt ft fe d ρ= .ok (QB x,ρ5):=by unfold jO;rw[e,Res.bind_ok,b,Res.bind_ok,if_pos rfl,g,Res.bind_ok,a,bf,Res.bind_ok,f]
theorem Od (b:gt (.fz d) ρ= .ok ρ1) (a:ft ρ1= .ok (QN,ρ2)) (e:de ρ2=ρ5):jO gt ft fe d ρ= .ok (QF,ρ5):=by unfold jO;rw[b,Res.bind_ok,a,Res.bind_ok,if_neg QV,e]
end
end L3
namespace PySem
open Sem (wp)
open Builtin
open AutoSeq1 (wpAny_loadPart')
theorem nM:fillsNumberSlot (.type "tuple") "mul"=pure QN:=
 fillsNumberSlot_seq F.slot_tuple_mul.lookup (by decide+kernel) F.slot_tuple_rmul.lookup (by decide+kernel)
theorem wz:seqRepeat? (.type "tuple")=pure (QB (.builtin "tuple.__mul__")):=by unfold seqRepeat?;rw[seqSlot_of (name:= "__mul__") F.slot_tuple_mul.lookup (by decide+kernel),seqSlot_of (name:= "__rmul__") F.slot_tuple_rmul.lookup (by decide+kernel)];rfl
theorem rJ (a:Int) (t:Tok) (l:QI) (items:Array QD) (n:Nat) (WN:Option QI) (sl:Array (Option QD)):
  Meets (RY.«int.__rmul__» ⟨[.int a t,.ref l],[]⟩) (fun _ R s=>s.heap.get? l=QB {cls:= .type "tuple",dict:=WN,data:= .seq items n,slots:=sl}/\R (.ok (.ret QD.notImplemented)) s):=
 .of_wp fun prog w A R s h=>by obtain⟨hp,g,d,tk,os⟩:=s;obtain⟨b,h⟩:=h;wp_walk;exact⟨_,rfl,h⟩
theorem wK (l:QI) (items:Array QD) (n:Nat) (WN:Option QI) (sl:Array (Option QD)) (u:Tok):
  Meets (RY.«tuple.__mul__» ⟨[.ref l,.int 1 u],[]⟩) (fun _ R s=>s.heap.get? l=QB {cls:= .type "tuple",dict:=WN,data:= .seq items n,slots:=sl}/\R (.ok (.ret (QD.ref l))) s):=
 .of_wp fun prog w A R s h=>by
  obtain⟨hp,g,d,tk,os⟩:=s;obtain⟨a,h⟩:=h
  wp_walk
  exact⟨_,rfl,h⟩
theorem xU (l:QI) (items:Array QD) (n:Nat) (WN:Option QI) (sl:Array (Option QD)) (x:Int) (u:Tok) (h1:2<=x) (h2:x<=1000) (e:items.isEmpty=QN) (hz:items.size<=1000):
  Meets (RY.«tuple.__mul__» ⟨[.ref l,.int x u],[]⟩) (fun _ R s=>s.heap.get? l=QB {cls:= .type "tuple",dict:=WN,data:= .seq items n,slots:=sl}/\R (.ok (.ret (QD.ref s.heap.objs.size))) {s with heap:=s.heap.push {cls:=QD.type "tuple",data:=Data.seq (VQ (fun x1 x2=>x1++x2) #[] (QP x.toNat items))},toks:=s.toks}):=
 .of_wp fun prog w A R s h=>by
  obtain⟨hp,g,d,tk,os⟩:=s;obtain⟨i,h⟩:=h;have c1:¬(decide (x< -(2^63))||decide (x≥2^63))=QG:=by simp;omega
  have q:(x==1)=QN:=by simp;omega
  have p:decide (x<=0)=QN:=by simp;omega
  have t:(items.isEmpty||x==1)=QN:=by rw[e,q];rfl
  have c4:(decide (x<=0)||items.isEmpty)=QN:=by rw[e,p];rfl
  have a:(items.size:Int)*x<=1000000:=by have:(items.size:Int)*x<=1000*1000:=Int.mul_le_mul (by omega) h2 (by omega) (by omega);omega
  have o:¬(items.size:Int)*x>(2^63 - 1)/8:=by omega
  have c6:¬Tuple.tupleTooMany ((items.size:Int)*x)=QG:=by
   unfold Tuple.tupleTooMany;simp;have:(QU:Nat)=16777216:=by decide
   omega
  wp_walk
  rw[if_neg c1]
  wp_walk using wpAny_loadPart' i
  rw[if_neg o];dsimp only;rw[if_neg c6];have f:(VQ (fun x1 x2=>x1++x2) #[] (QP x.toNat items)).size<=QU:=by
   have j:∀(m:Nat) (b:Array QD),(VQ (fun x1 x2=>x1++x2) b (QP m items)).size=b.size+m*items.size:=by
    intro m
    induction m with
    |zero=>intro b;simp
    |succ m ih=>intro b;rw[RZ,VS,ih,Array.size_append,adT];omega
   rw[j];have r:x.toNat*items.size<=1000*1000:=Ws (by omega) hz;have:(QU:Nat)=16777216:=by decide
   simp;omega
  wp_walk
  exact⟨_,rfl,h⟩
end PySem
namespace L3
open PySem PySem.Spec PyProof.Rows L2
def K7 (K:QC):R2:=fun x y H Q=>∃(a:QI) (k:Nat) (xs:List V),x= .ref a/\y= .int (k:Int)/\Vx K H a xs/\xs≠[]/\1<=k/\k<=1000/\xs.length<=1000/\
 (k=1->Q (.ref a) H)/\(2<=k->∀p,H p=QF->Q (.ref p) (bv H p (.tup (QP k xs).flatten)))
theorem J6:OpR X (S0 .Mult) (K7 X.K):=by
 intro pins s σ H x y v u Q I l j h;obtain⟨a,k,xs,rfl,rfl,o,A,h1,h2,w,q1,m⟩:=h;cases l;obtain⟨t,rfl⟩:=j;obtain⟨RE,r,p,B⟩:=I.tuple o;obtain⟨⟨cls,dd,data,sl⟩,e,g,n,hd⟩:=id p;simp only at g hd;subst g hd;have f:=r.length;refine ZV (by decide) ⟨_,e,rfl⟩ (fun s'=>XA s' k t) nM F.fills_int_mul F.slot_int_rmul wz F.slot_int_index.lookup
  (Vu F.slot_int_rmul (XA s k t) F.entry_int_rmul (F.args_int_rmul_2 _ _) (rJ k t a RE.toArray n dd sl) ⟨e,rfl,⟨_,e,rfl⟩,?_⟩)
 by_cases hk:k=1
 ·subst hk;exact Vu F.slot_tuple_mul ⟨_,e,rfl⟩ F.entry_tuple_mul (F.args_tuple_mul_2 _ _) (wK a RE.toArray n dd sl t) ⟨e,⟨.ref a,H,I,rfl,q1 rfl⟩⟩
 ·refine Vu F.slot_tuple_mul ⟨_,e,rfl⟩ F.entry_tuple_mul (F.args_tuple_mul_2 _ _) (xU a RE.toArray n dd sl k t (by omega) (by omega) ?_ (by rw[Q1];omega)) ⟨e,?_⟩
  ·cases RE with
   |nil=>cases r;exact absurd rfl A
   |cons y ys=>rfl
  ·have z:VQ (fun x1 i=>x1++i) #[] (QP ((k:Nat):Int).toNat RE.toArray)=(QP k RE).flatten.toArray:=by
    have:=nQ RE k [];rw[XZ] at this;rw[Sj];exact this
   rw[z];refine⟨.ref s.heap.objs.size,_,I.laid (fun b ob q=>Heap.get?_push_of_some _ q) (QS _) ?_,rfl,m (by omega) _ (I.Sa.fresh (QS _))⟩;refine⟨?_,_,r.rep k,XJ.new _ _⟩;rw[Cg];exact Rx (Ws h2 w) (by decide)
def La (K:QC):R2:=fun x y H Q=>EU K x y H Q\/K7 K x y H Q
theorem BM:OpR X (S0 .Mult) (La X.K):=OpR.or J3 J6
noncomputable def gU:D->D->Option RV
 | .tuple xs,.int k=>if xs≠[]/\1<=k/\k<=1000/\xs.length<=1000 then QB (.fz (.tuple (QP k.toNat xs).flatten)) else QF
 |d,e=>zn d e
theorem wR {K:QC}:oj K (La K) gU:=by
 intro O H x y dx dy rv Q n f b e q;unfold gU at e;split at e
 ·rename_i ds k
  split at e
  ·rename_i hc
   cases e;cases b;obtain⟨a,xs,rfl,h1,h2⟩:=Hl f;obtain⟨m,rfl⟩:∃m:Nat,k=(m:Int):=⟨k.toNat,by omega⟩;rw[Sj] at q;refine .inr ⟨a,m,xs,rfl,rfl,h1.1,fun z=>hc.1 (h2.ne.mp z),by omega,by omega,by rw[h2.length];exact hc.2.2.2,fun e=> ?_,fun _=>Fin.ab0 (h2.flat m) n q⟩;subst e;have g:(QP 1 ds).flatten=ds:=by simp
   rw[g] at q;exact q.at (.tup h1 h2)
  ·cases e
 ·exact .inl (Ju O H x y dx dy rv Q n f b e q)
theorem yf (i j:Int):gU (.int i) (.int j)=zn (.int i) (.int j):=rfl
theorem mQ (h: -(2^64)<i/\i<2^64):gU (.int i) (.int j)=QB (.fz (.int (i*j))):=(yf i j).trans (Ja h)
theorem FP (h: -(2^64)<j/\j<2^64):gU (.int i) (.int j)=QB (.fz (.int (i*j))):=(yf i j).trans (Kb h)
end L3
namespace PySem
open Sem (wp)
open Builtin Builtin.Str
def itAt:Bool->Heap->QI->QI->Nat->Prop
 |true,h,it,a,i=>h.IsTupleIter it a i
 |false,h,it,a,i=>h.IsListIter it a i
def sqAt:Bool->Heap->QI->Array QD->Prop
 |true,h,a,xs=>h.IsTuple a xs
 |false,h,a,xs=>h.IsList a xs
noncomputable def yk:Bool->String
 |true=> "tuple_iterator"
 |false=> "list_iterator"
theorem itAt.ext (x:itAt b h it a i) (e:Heap.ExtBut c h h') (n:it≠c):itAt b h' it a i:=by
 cases b with
 |true=>exact Heap.IsTupleIter.extBut x e n
 |false=>exact Heap.IsListIter.extBut x e n
theorem itAt.to (x:itAt b h it a i) (e:∀o,h.get? it=QB o->h'.get? it=QB o):itAt b h' it a i:=by
 cases b with
 |true=>exact Heap.IsTupleIter.at x e
 |false=>exact Heap.IsListIter.at x e
theorem itAt.live (x:itAt b h it a i):∃o,h.get? it=QB o/\∀v,o.data≠ .cell v:=by
 cases b with
 |true=>obtain⟨o,e,_,d⟩:=(show h.IsTupleIter it a i from x);exact⟨o,e,fun v z=>by rw[d] at z;cases z⟩
 |false=>obtain⟨o,e,_,d⟩:=(show h.IsListIter it a i from x);exact⟨o,e,fun v z=>by rw[d] at z;cases z⟩
theorem sqAt.ext (x:sqAt b h a xs) (e:Heap.ExtBut c h h') (n:a≠c):sqAt b h' a xs:=by
 cases b with
 |true=>exact Heap.IsTuple.extBut x e n
 |false=>exact Heap.IsList.extBut x e n
theorem sqAt.psh (x:sqAt b h a xs) (o:Obj):sqAt b (h.push o) a xs:=by
 cases b with
 |true=>exact Heap.IsTuple.push x o
 |false=>exact Heap.IsList.push x o
theorem sqAt.lt (x:sqAt b h a xs):a<h.objs.size:=by
 cases b with
 |true=>obtain⟨o,e,_⟩:=(show h.IsTuple a xs from x);exact Heap.lt_size e
 |false=>obtain⟨o,e,_⟩:=(show h.IsList a xs from x);exact Heap.lt_size e
section
variable {prog:Q7} {w:Rv} {A:Rp} {E:QD->QL->Prop} {s:QL}
theorem uV (hi:itAt b s.heap it l i) (e:sqAt b s.heap l xs) (a:xs[i]? =QB x)
  (q:∀h',itAt b h' it l (i+1)->Heap.SameBut it s.heap h'->Q x {s with heap:=h'}):wpAny (model prog w) A (SmallTypes.nextOf (.ref it)) Q E s:=by
 cases b with
 |true=>exact mo hi e a q
 |false=>exact wpAny_nextOf_list_item hi e a q
theorem A6 (g:A.handled=QF) (hi:itAt b s.heap it l i) (f:sqAt b s.heap l xs) (a:xs[i]? =QF)
  (q:∀h' e,Heap.ExtBut it s.heap h'->(∃o,h'.get? e=QB o/\o.cls= .type "StopIteration")->E (.ref e) {s with heap:=h'}):wpAny (model prog w) A (SmallTypes.nextOf (.ref it)) Q E s:=by
 cases b with
 |true=>exact n6 g hi f a q
 |false=>exact wpAny_nextOf_list_end g hi f a q
theorem Ay (a:sqAt b s.heap l xs)
  (q:Q (.ref s.heap.objs.size) {s with heap:=s.heap.push {cls:= .type (yk b),data:= .fields #[.ref l,.int 0 0]}}):wpAny (model prog w) A (pyIter (.ref l)) Q E s:=by
 cases b with
 |true=>exact WI a q
 |false=>exact Vi a q
theorem Dh {Q:QD->QL->Prop} (D:X6 z TI TO i1 i2 l1 l2) (hz:Zm s.heap z TI TO .none)
  (hTI:IsPair s.heap TI (.ref i1) (.ref i2)) (hTO:IsPair s.heap TO a b) (h1:itAt b1 s.heap i1 l1 n) (h2:itAt b2 s.heap i2 l2 n) (YZ:sqAt b1 s.heap l1 xs) (Z:sqAt b2 s.heap l2 ys) (hx:xs[n]? =QB x) (hy:ys[n]? =QB y)
  (q:∀h',Zm h' z TI TO (rawInt s.heap.objs.size)->IsPair h' TO x y->itAt b1 h' i1 l1 (n+1)->itAt b2 h' i2 l2 (n+1)->IsPair h' s.heap.objs.size x y->h'.objs.size=s.heap.objs.size+1->
   (∀c o,c≠z->c≠TO->c≠i1->c≠i2->s.heap.get? c=QB o->h'.get? c=QB o)->Q (.ref s.heap.objs.size) {s with heap:=h'}):
  wpAny (model prog w) A (RY.«zip.__next__» ⟨[.ref z],[]⟩) (fun fin s'=>∃v,fin= .done (.ret v)/\Q v s') E s:=by
 show wpAny _ _ (field (.ref z) 2>>=_) _ _ _;refine QE (Ry hz rfl rfl ?_);show wpAny _ _ (field (.ref z) 3>>=_) _ _ _;refine QE (Ry hz rfl rfl ?_);refine QE (Sv hTI rfl ?_);show wpAny _ _ (SmallTypes.ownedTupleIsFree (.ref z)>>=_) _ _ _;refine QE ?_;unfold SmallTypes.ownedTupleIsFree;refine QE (Ry hz rfl rfl (QQ ?_));simp only[if_true];refine QE (XD ?_);refine QE (Ry hz rfl rfl ?_);refine QE (TR hz (by simp) fun k₁ t g=> ?_);have abD:=t;clear t;refine QE ?_;simp only[abk,abw,UW,Wh];refine QE (QE (Xw ?_));show wpAny _ _ (SmallTypes.nextOf (.ref i1)>>=_) _ _ _;refine QE (uV (h1.ext g.extBut D.i1z) (YZ.ext g.extBut D.l1z) hx fun k₂ X i=>QQ ?_);have J:=i.extBut _ _ D.TOi1 (g.extBut _ _ D.TOz hTO);refine QE (Sv J rfl ?_);refine QE (WZ J fun k₃ I h=> ?_);have M:=I;clear I;refine QE (UD (QQ ?_));refine QE (QE (Xw ?_));show wpAny _ _ (SmallTypes.nextOf (.ref i2)>>=_) _ _ _;refine QE (uV (((h2.ext g.extBut D.i2z).ext i.extBut D.i12.symm).ext h.extBut D.TOi2.symm) (((Z.ext g.extBut D.l2z).ext i.extBut D.l2i1).ext h.extBut D.l2TO) hy fun k₄ U l=>QQ ?_);have H:=l.extBut _ _ D.TOi2 M;refine QE (Sv H rfl ?_);refine QE (WZ H fun f G j=> ?_);have p:IsPair f TO x y:=G;clear G;refine QE (UD (QQ (QQ ?_)));refine QE (Sv p rfl ?_);refine QE (wpAny_newTuple ?_);have T:f.objs.size=s.heap.objs.size:=by rw[j.1,l.1,h.1,i.1,g.1]
 have C:=j.extBut _ _ D.TOz.symm (l.extBut _ _ D.i2z.symm (h.extBut _ _ D.TOz.symm (i.extBut _ _ D.i1z.symm abD)));have kp:∀c o,c≠z->c≠TO->c≠i1->c≠i2->s.heap.get? c=QB o->f.get? c=QB o:=fun c o c1 Y c3 c4 e=>
  j.extBut _ _ Y (l.extBut _ _ c4 (h.extBut _ _ Y (i.extBut _ _ c3 (g.extBut _ _ c1 e))))
 have S:=((X.ext h.extBut D.TOi1.symm).ext l.extBut D.i12).ext j.extBut D.TOi1.symm;have R:=U.ext j.extBut D.TOi2.symm;have U4:=Heap.lt_size C;show wpAny _ _ (SmallTypes.ownedTupleHandOut (.ref z) (.ref f.objs.size)>>=_) _ _ _;refine QE ?_;unfold SmallTypes.ownedTupleHandOut;have P:Zm (f.push {cls:= .type "tuple",data:= .seq #[x,y]}) z TI TO .ellipsis:=Heap.get?_push_of_some _ C;refine QE (TR P (by simp) fun k₇ O B=> ?_);have L:=O;refine TR L (by simp) fun r N u=> ?_;have m:=N;have up:∀c o,c≠z->f.get? c=QB o->r.get? c=QB o:=fun c o c1 e=>u.extBut _ _ c1 (B.extBut _ _ c1 (Heap.get?_push_of_some _ e));have F:=u.extBut _ _ (Se U4) (B.extBut _ _ (Se U4) (Heap.get?_push_size _ rfl));have K:r.objs.size=f.objs.size+1:=by rw[u.1,B.1,Heap.size_push]
 rw[T] at m F K;refine QQ ⟨_,rfl,?_⟩;rw[T];exact q r m (up _ _ D.TOz p) (S.to fun o e=>up _ o D.i1z e) (R.to fun o e=>up _ o D.i2z e) F K fun c o c1 Y c3 c4 e=>up c o c1 (kp c o c1 Y c3 c4 e)
theorem Ey (R:A.handled=QF) (D:X6 z TI TO i1 i2 l1 l2) (hz:Zm s.heap z TI TO .none)
  (K:IsPair s.heap TI (.ref i1) (.ref i2)) (J:IsPair s.heap TO a b) (h1:itAt b1 s.heap i1 l1 n) (h2:itAt b2 s.heap i2 l2 n) (T:sqAt b1 s.heap l1 xs) (H:sqAt b2 s.heap l2 ys) (M:xs[n]? =QF\/ys[n]? =QF)
  (q:∀h' e,(∀c o,c≠z->c≠TO->c≠i1->c≠i2->s.heap.get? c=QB o->h'.get? c=QB o)->(∃o,h'.get? e=QB o/\o.cls= .type "StopIteration")->E (.ref e) {s with heap:=h'}):
  wpAny (model prog w) A (RY.«zip.__next__» ⟨[.ref z],[]⟩) Q E s:=by
 show wpAny _ _ (field (.ref z) 2>>=_) _ _ _;refine QE (Ry hz rfl rfl ?_);show wpAny _ _ (field (.ref z) 3>>=_) _ _ _;refine QE (Ry hz rfl rfl ?_);refine QE (Sv K rfl ?_);show wpAny _ _ (SmallTypes.ownedTupleIsFree (.ref z)>>=_) _ _ _;refine QE ?_;unfold SmallTypes.ownedTupleIsFree;refine QE (Ry hz rfl rfl (QQ ?_));simp only[if_true];refine QE (XD ?_);refine QE (Ry hz rfl rfl ?_);refine QE (TR hz (by simp) fun P y f=> ?_);have F:=y;refine QE ?_;simp only[abk,abw,UW,Wh];refine QE (QE (Xw ?_));show wpAny _ _ (SmallTypes.nextOf (.ref i1)>>=_) _ _ _;cases hx:xs[n]? with
 |none=>
  refine QE (A6 R (h1.ext f.extBut D.i1z) (T.ext f.extBut D.l1z) hx fun C e g I=> ?_);obtain⟨G,i,j⟩:=I;have m:=g _ _ D.i1z.symm F;have ne:e≠z:=fun t=>by subst t;rw[m] at i;cases i;simp at j
  exact TR m (by simp) fun r _ h=>q r e (fun c o c1 _ L _ t=>h.extBut _ _ c1 (g _ _ L (f.extBut _ _ c1 t))) ⟨G,h.extBut _ _ ne i,j⟩
 |some x=>
  have U:ys[n]? =QF:=by
   rcases M with t|t
   ·rw[hx] at t;cases t
   ·exact t
  refine QE (uV (h1.ext f.extBut D.i1z) (T.ext f.extBut D.l1z) hx fun C S g=>QQ ?_);have p:=g.extBut _ _ D.TOi1 (f.extBut _ _ D.TOz J);refine QE (Sv p rfl ?_);refine QE (WZ p fun r N h=> ?_);refine QE (UD (QQ ?_));refine QE (QE (Xw ?_));show wpAny _ _ (SmallTypes.nextOf (.ref i2)>>=_) _ _ _;refine QE (A6 R (((h2.ext f.extBut D.i2z).ext g.extBut D.i12.symm).ext h.extBut D.TOi2.symm) (((H.ext f.extBut D.l2z).ext g.extBut D.l2i1).ext h.extBut D.l2TO) U fun O e v I=> ?_);obtain⟨G,i,j⟩:=I;have l:=v _ _ D.i2z.symm (h.extBut _ _ D.TOz.symm (g.extBut _ _ D.i1z.symm F));have ne:e≠z:=fun t=>by subst t;rw[l] at i;cases i;simp at j
  exact TR l (by simp) fun B _ u=>q B e (fun c o c1 X L c4 t=>u.extBut _ _ c1 (v _ _ c4 (h.extBut _ _ X (g.extBut _ _ L (f.extBut _ _ c1 t))))) ⟨G,u.extBut _ _ ne i,j⟩
end
section
variable {prog:Q7} {w:Rv} {A:Rp} {E:QD->QL->Prop} {s:QL}
theorem xm (D:X6 z TI TO i1 i2 l1 l2) (hz:Zm s.heap z TI TO .none)
  (g:IsPair s.heap TI (.ref i1) (.ref i2)) (f:IsPair s.heap TO a b) (h1:itAt b1 s.heap i1 l1 n) (h2:itAt b2 s.heap i2 l2 n) (v:sqAt b1 s.heap l1 xs) (e:sqAt b2 s.heap l2 ys) (j:xs[n]? =QB x) (i:ys[n]? =QB y)
  (q:∀h',Zm h' z TI TO (rawInt s.heap.objs.size)->IsPair h' TO x y->itAt b1 h' i1 l1 (n+1)->itAt b2 h' i2 l2 (n+1)->IsPair h' s.heap.objs.size x y->h'.objs.size=s.heap.objs.size+1->
   (∀c o,c≠z->c≠TO->c≠i1->c≠i2->s.heap.get? c=QB o->h'.get? c=QB o)->Q (QB (.ref s.heap.objs.size)) {s with heap:=h'}):
  wpAny (model prog w) A (pyNext (.ref z)) Q E s:=by
 have h:s.TypeIs (.ref z) "zip":=⟨_,hz,rfl⟩;unfold pyNext;refine QE (ahT (UC h F.slot_zip_next ?_));exact Uh F.slot_zip_next h F.entry_zip_next (Dh D hz g f h1 h2 v e j i fun h' a1 u t r p m l=>QQ (q h' a1 u t r p m l)) (F.args_zip_next_1 _)
theorem x8 (p:A.handled=QF) (D:X6 z TI TO i1 i2 l1 l2) (hz:Zm s.heap z TI TO .none)
  (h:IsPair s.heap TI (.ref i1) (.ref i2)) (g:IsPair s.heap TO a b) (h1:itAt b1 s.heap i1 l1 n) (h2:itAt b2 s.heap i2 l2 n) (u:sqAt b1 s.heap l1 xs) (f:sqAt b2 s.heap l2 ys) (i:xs[n]? =QF\/ys[n]? =QF)
  (q:∀h',(∀c o,c≠z->c≠TO->c≠i1->c≠i2->s.heap.get? c=QB o->h'.get? c=QB o)->Q QF {s with heap:=h'}):wpAny (model prog w) A (pyNext (.ref z)) Q E s:=by
 have j:s.TypeIs (.ref z) "zip":=⟨_,hz,rfl⟩;unfold pyNext;refine QE (ahT (UC j F.slot_zip_next ?_));refine Uh F.slot_zip_next j F.entry_zip_next (Ey p D hz h g h1 h2 u f i fun h' e m r=> ?_) (F.args_zip_next_1 _);obtain⟨o,l,t⟩:=r;exact QE (Yj ⟨o,l,t⟩ isSubtype_stop (QQ (q _ m)))
end
noncomputable abbrev O9 (h:Heap) (b1:Bool) (l1:QI):Heap:=h.push {cls:= .type (yk b1),data:= .fields #[.ref l1,.int 0 0]}
noncomputable abbrev ON (h:Heap) (b1 b:Bool) (l1 a:QI):Heap:=(O9 h b1 l1).push {cls:= .type (yk b),data:= .fields #[.ref a,.int 0 0]}
noncomputable abbrev OZ (h:Heap) (b1 b:Bool) (l1 a:QI):Heap:=(ON h b1 b l1 a).push {cls:= .type "tuple",data:= .seq #[.ref h.objs.size,.ref (O9 h b1 l1).objs.size]}
noncomputable abbrev N3 (h:Heap) (b1 b:Bool) (l1 a:QI):Heap:=(OZ h b1 b l1 a).push {cls:= .type "tuple",data:= .seq #[.none,.none]}
noncomputable abbrev PP (h:Heap) (b1 b:Bool) (l1 a:QI):Heap:=(N3 h b1 b l1 a).push {cls:= .type "zip",data:= .fields #[.none,.bool QN,.bool QN,.ref (ON h b1 b l1 a).objs.size,.ref (OZ h b1 b l1 a).objs.size]}
theorem se (b1 b:Bool) (l1 a:QI) (xs ys:Array QD):
  Meets (RY.«zip.__new__» ⟨[.type "zip",.ref l1,.ref a],[]⟩) (fun _ R s=>sqAt b1 s.heap l1 xs/\sqAt b s.heap a ys/\R (.ok (.ret (.ref (N3 s.heap b1 b l1 a).objs.size))) {s with heap:=PP s.heap b1 b l1 a}):=
 .of_wp fun prog w A R s h=>by
  obtain⟨hp,g,d,tk,os⟩:=s;obtain⟨l,e,h⟩:=h;have j:=sub_zip;have i:sqAt b1 (QL.heap ⟨hp,g,d,tk,os⟩) l1 xs:=l;have f:sqAt b (QL.heap ⟨hp.push {cls:= .type (yk b1),data:= .fields #[.ref l1,.int 0 0]},g,d,tk,os⟩) a ys:=sqAt.psh e _
  wp_walk using Ay i,Ay f
  exact⟨_,rfl,h⟩
section
variable {prog:Q7} {w:Rv} {A:Rp} {E:QD->QL->Prop} {s:QL}
theorem Dz (e:h.get? it=QB {cls:= .type (yk b),data:= .fields #[.ref l,.int 0 0]}):itAt b h it l 0:=by
 cases b with
 |true=>exact⟨_,e,rfl,rfl⟩
 |false=>exact⟨_,e,rfl,rfl⟩
theorem C5 (u:sqAt b1 s.heap l1 xs) (i:sqAt b2 s.heap l2 ys)
  (q:∀h',Zm h' (s.heap.objs.size+4) (s.heap.objs.size+2) (s.heap.objs.size+3) .none->IsPair h' (s.heap.objs.size+2) (.ref s.heap.objs.size) (.ref (s.heap.objs.size+1))->
   IsPair h' (s.heap.objs.size+3) .none .none->itAt b1 h' s.heap.objs.size l1 0->itAt b2 h' (s.heap.objs.size+1) l2 0->(∀c o,s.heap.get? c=QB o->h'.get? c=QB o)->Q (.ref (s.heap.objs.size+4)) {s with heap:=h'}):
  wpAny (model prog w) A (call (.type "zip") [.ref l1,.ref l2]) Q E s:=by
 refine callType_new F.called_zip (by decide) (F.typeCall_zip_2 _ _) (F.newCall_zip_2 _ _) (fun obj=>F.args_object_init_3 obj _ _) F.entry_zip_new (se b1 b2 l1 l2 xs ys) ⟨u,i,?_⟩;have n1:(O9 s.heap b1 l1).objs.size=s.heap.objs.size+1:=Heap.size_push ..;have h:(ON s.heap b1 b2 l1 l2).objs.size=s.heap.objs.size+2:=by rw[Heap.size_push,n1]
 have g:(OZ s.heap b1 b2 l1 l2).objs.size=s.heap.objs.size+3:=by rw[Heap.size_push,h]
 have m:(N3 s.heap b1 b2 l1 l2).objs.size=s.heap.objs.size+4:=by rw[Heap.size_push,g]
 have u1:∀c o,s.heap.get? c=QB o->(O9 s.heap b1 l1).get? c=QB o:=fun c o e=>Heap.get?_push_of_some _ e;have l:∀c o,(O9 s.heap b1 l1).get? c=QB o->(ON s.heap b1 b2 l1 l2).get? c=QB o:=fun c o e=>Heap.get?_push_of_some _ e;have f:∀c o,(ON s.heap b1 b2 l1 l2).get? c=QB o->(OZ s.heap b1 b2 l1 l2).get? c=QB o:=fun c o e=>Heap.get?_push_of_some _ e;have b:∀c o,(OZ s.heap b1 b2 l1 l2).get? c=QB o->(N3 s.heap b1 b2 l1 l2).get? c=QB o:=fun c o e=>Heap.get?_push_of_some _ e;have a:∀c o,(N3 s.heap b1 b2 l1 l2).get? c=QB o->(PP s.heap b1 b2 l1 l2).get? c=QB o:=fun c o e=>Heap.get?_push_of_some _ e;have j:(PP s.heap b1 b2 l1 l2).get? (N3 s.heap b1 b2 l1 l2).objs.size=QB _:=Heap.get?_push_size _ rfl;have n:=a _ _ (Heap.get?_push_size _ rfl);have p:=a _ _ (b _ _ (Heap.get?_push_size _ rfl));have r:=a _ _ (b _ _ (f _ _ (Heap.get?_push_size _ rfl)));have t:=a _ _ (b _ _ (f _ _ (l _ _ (Heap.get?_push_size _ rfl))));rw[h,g,m] at j;rw[n1,h] at p;rw[g] at n;rw[n1] at r;rw[m];exact⟨⟨_,j,rfl⟩,q _ j p n (Dz t) (Dz r) fun c o e=>a _ _ (b _ _ (f _ _ (l _ _ (u1 _ _ e))))⟩
end
end PySem
namespace L3
open PySem PySem.Spec PyProof.Rows L2
def Dr (b:Bool) (K:QC) (H:Hp) (a:QI) (xs:List V):Prop:=match b with
 |true=>Vx K H a xs
 |false=>VD K H a xs
noncomputable def P2 (K:QC) (b1 b:Bool) (a c:QI):It:=
 ⟨fun i H=>∃xs ys x y,Dr b1 K H a xs/\Dr b K H c ys/\xs[i]? =QB x/\ys[i]? =QB y,
  fun i H v H'=>∃p x y,H p=QF/\v= .ref p/\(∀xs,Dr b1 K H a xs->xs[i]? =QB x)/\(∀ys,Dr b K H c ys->ys[i]? =QB y)/\H'=bv H p (.tup [x,y]),
  fun i H=>∃xs ys,Dr b1 K H a xs/\Dr b K H c ys/\(xs.length<=i\/ys.length<=i)⟩
theorem Ki (I:Inv X pins σ H s) (h1:VD X.K H a xs) (h2:VD X.K H a ys):xs=ys:=by
 obtain⟨RE,r1,⟨o,k,g,_,n,d1⟩,_⟩:=I.list h1;obtain⟨e,f,⟨i,k2,b,_,j,h⟩,_⟩:=I.list h2;rw[g] at b;cases b;have:RE=e:=by
  have q:RE.toArray=e.toArray:=by injection d1.symm.trans h
  simpa using q
 subst this;exact r1.inj f
theorem mY (I:Inv X pins σ H s) (h:Dr b X.K H a xs):∃RE,Vals xs RE/\sqAt b s.heap a RE.toArray:=by
 cases b with
 |true=>obtain⟨RE,rv,p,e⟩:=I.tuple h;exact⟨RE,rv,p⟩
 |false=>obtain⟨RE,rv,p,e⟩:=I.list h;exact⟨RE,rv,p.isList⟩
theorem B7 (I:Inv X pins σ H s) (h1:Dr b X.K H a xs) (h2:Dr b X.K H a ys):xs=ys:=by
 cases b with
 |true=>exact Kw I h1 h2
 |false=>exact Ki I h1 h2
theorem Da {ch:List QI} (I:Inv X pins σ H s) (g:∀b∈ch,oi X pins H b)
  (k:∀b u,b∉ch->s.heap.get? b=QB u->h'.get? b=QB u):Inv X pins σ H {s with heap:=h',toks:=t'}:=by
 have f:∀b u,H b=QB u->b∉ch:=fun b u e z=>by rw[(g b z).1] at e;cases e
 refine I.step (fun b i=> ?_) (fun b u _ _ a e _=>k b u a e) (fun b u _ _ a e _=>⟨u.slots,k b u a e⟩) (fun _ _ _ _ n=>n)
  (fun b u a e=>⟨u,k b u a e⟩) (fun _ _ e=>e) (fun _ _ _ e=>e) (fun b ps e=>⟨#[],by rw[e];simp⟩) (fun m hm=> ?_) (fun b u e=> ?_) I.bare
 ·obtain⟨_,h2,_,o,l,j⟩:=g b i;exact⟨o,h2,l,j⟩
 ·obtain⟨ob,es,p,h,r⟩:=hm;exact⟨ob,es,p,k _ ob (fun z=>(g _ z).2.1 rfl) h,r⟩
 ·refine(I.Sa b u e).U9 (fun c v a q=>k c v ?_ q) (fun _ q=>q) fun _ _ q=>q
  rcases a with z|z
  ·rw[z];exact f b u e
  ·exact f c _ z
theorem Ha {K:QC} {kk} (b1 b2:Bool) (z TI TO i1 i2 l1 L:QI) (D:X6 z TI TO i1 i2 l1 L):
  Turn P w K (.Tuple elts kk tp) (P2 K b1 b2 l1 L) [z,TI,TO,i1,i2] z (fun i h=>Zm h z TI TO .none/\IsPair h TI (.ref i1) (.ref i2)/\(∃a b,IsPair h TO a b)/\itAt b1 h i1 l1 i/\itAt b2 h i2 L i) where
 mem:=by simp
 obj:=fun i h st b e=>by
  obtain⟨g,f,⟨a,c,j⟩,h1,h2⟩:=st;simp only[Rk,SG,or_false] at e;rcases e with rfl|rfl|rfl|rfl|rfl
  ·exact⟨_,g,fun v q=>by cases(show Data.fields _=Data.cell v from q)⟩
  ·exact⟨_,f,fun v q=>by cases(show Data.seq _ _=Data.cell v from q)⟩
  ·exact⟨_,j,fun v q=>by cases(show Data.seq _ _=Data.cell v from q)⟩
  ·exact h1.live
  ·exact h2.live
 keep:=fun i h h' st k=>by obtain⟨g,f,⟨a,c,j⟩,h1,h2⟩:=st;exact⟨k z (by simp) _ g,k TI (by simp) _ f,⟨a,c,k TO (by simp) _ j⟩,h1.to fun o q=>k i1 (by simp) o q,h2.to fun o q=>k i2 (by simp) o q⟩
 item:=by
  intro X U O Y hc i pins s σ H E I A st R;subst U O Y;obtain⟨g,f,⟨a,c,j⟩,h1,h2⟩:=st;obtain⟨xs,ys,x,y,r,p,hx,hy⟩:=R;obtain⟨RE,F,J⟩:=mY I r;obtain⟨m,C,G⟩:=mY I p;obtain⟨u,hu,ru⟩:=F.get hx;obtain⟨t,ht,rt⟩:=C.get hy;refine xm D g f j h1 h2 J G (by simpa using hu) (by simpa using ht) fun k z1 o1 g1 g2 pr sz kp=>⟨_,rfl,?_⟩;refine wpAny_letOwnedTupleGo_zip z1 fun l z2 Z=> ?_;have M:=Heap.lt_size g;have hIl:=Heap.lt_size f;have hOl:=Heap.lt_size j;have h1l:i1<s.heap.objs.size:=by obtain⟨_,q,_⟩:=h1.live;exact Heap.lt_size q
  have h2l:i2<s.heap.objs.size:=by obtain⟨_,q,_⟩:=h2.live;exact Heap.lt_size q
  have hn:=I.Sa.fresh (QS _);have kk:∀b o,b∉[z,TI,TO,i1,i2]->s.heap.get? b=QB o->l.get? b=QB o:=fun b o e q=>by simp only[Rk,SG,or_false,not_or] at e;exact(Z.2 b e.1).trans (kp b o e.1 e.2.2.1 e.2.2.2.1 e.2.2.2.2 q)
  have T:=(Z.2 _ (Se M)).trans pr
  have I2:Inv X pins σ (bv H s.heap.objs.size (.tup [x,y])) {s with heap:=l}:=
   I.ZO A kk (QS _) ⟨by show 2<=QU;decide,[u,t],.cons ru (.cons rt .nil),⟨_,T,⟨rfl,_,rfl⟩,rfl⟩⟩
  have B:∀b o,b≠z->k.get? b=QB o->l.get? b=QB o:=fun b o n q=>(Z.2 b n).trans q;refine⟨.ref s.heap.objs.size,_,I2,rfl,⟨_,x,y,hn,rfl,fun zs Q=>by rw[B7 I Q r];exact hx,fun zs Q=>by rw[B7 I Q p];exact hy,rfl⟩,
   ⟨z2,B _ _ D.TIz (kp _ _ D.TIz D.TITO D.TIi1 D.TIi2 f),⟨_,_,B _ _ D.TOz o1⟩,g1.to fun o q=>B _ _ D.i1z q,g2.to fun o q=>B _ _ D.i2z q⟩,fun b e=> ?_⟩
  have S:b<s.heap.objs.size:=by simp only[Rk,SG,or_false] at e;rcases e with rfl|rfl|rfl|rfl|rfl<;>assumption
  rw[aA (Ra S)];exact(A b e).1
 done:=by
  intro X U O Y hc i pins s σ H E I A st R;subst U O Y;obtain⟨g,f,⟨a,c,j⟩,h1,h2⟩:=st;obtain⟨xs,ys,r,p,N⟩:=R;obtain⟨RE,F,J⟩:=mY I r;obtain⟨m,C,G⟩:=mY I p;have YZ:=F.length;have hl2:=C.length;have hd:RE.toArray[i]? =QF\/m.toArray[i]? =QF:=by
   rcases N with q|q
   ·exact .inl (by simp;omega)
   ·exact .inr (by simp;omega)
  refine x8 (I.ok.hd hc) D g f j h1 h2 J G hd fun k kp=>⟨rfl,?_⟩;exact Da I A fun b o e q=>by simp only[Rk,SG,or_false,not_or] at e;exact kp b o e.1 e.2.2.1 e.2.2.2.1 e.2.2.2.2 q
 self:=fun _ _ _ _ _ st h=>adV st.1 h
theorem Cq (n l1 a:Nat) (h1:l1<n) (h2:a<n):X6 (n+4) (n+2) (n+3) n (n+1) l1 a:=by constructor<;>(show(_:Nat)≠_;omega)
def Kx (K:QC) (ta:TA):TI:=fun σ H R=>ta σ H fun vs H1=>∃a c b1 b2,vs=[.ref a,.ref c]/\(∃xs,Dr b1 K H1 a xs)/\(∃ys,Dr b2 K H1 c ys)/\R (P2 K b1 b2 a c) H1
theorem ER:RP "zip"=QB (.type "zip"):=by decide+kernel
theorem GZ {kk} (E:Gl X "zip") (hm:X.mg "zip"=QF) (ha:PA X [l,m] ta) (B:Q9 [l,m] X.env=(QN,eval l X.env)::Q9 [m] X.env:=by rfl) (hp:(backTo pos (Q9 [m] X.env)).any (·.1)=QN:=by rfl):
  PI X (.Tuple elts kk tp) (.Call (.Name "zip" p) [l,m] [] pos) (Kx X.K ta):=by
 intro pins s σ H R I h;refine Call_ (nU I E hm ER (UA (cG (ha pos pins s σ H _ I h) fun us s1 ⟨vs,H1,g,r1,q1⟩=> ?_) B hp));obtain⟨a,c,b1,G,e,⟨xs,y⟩,⟨ys,w⟩,q⟩:=q1;subst e;obtain⟨u,t,rfl,z,rt⟩:=oB r1;cases z;cases rt;obtain⟨RE,L,n⟩:=mY g y;obtain⟨A,J,j⟩:=mY g w;have fp:∀b∈[s1.heap.objs.size+4,s1.heap.objs.size+2,s1.heap.objs.size+3,s1.heap.objs.size,s1.heap.objs.size+1],oi X pins H1 b:=fun b o=>by
  have f:s1.heap.objs.size<=b:=by simp only[Rk,SG,or_false] at o;have F:=o;omega
  exact g.Yn f (g.Sa.fresh f)
 refine C5 n j fun h1 i p1 p2 v r C=> ?_;refine adV i ?_;exact⟨s1.heap.objs.size+4,_,_,_,H1,rfl,g.kept C,Ha b1 G _ _ _ _ _ a c (Cq _ _ _ n.lt j.lt),⟨i,p1,⟨_,_,p2⟩,v,r⟩,fp,q⟩
noncomputable def N9:RN->Bool
 | .Starred _ _=>QG
 |_=>QN
theorem ut (e:RN) (es:List RN) (env:Env) (h:N9 e=QN):Q9 (e::es) env=(QN,eval e env)::Q9 es env:=by cases e<;>first|rfl|cases h
noncomputable def kj:List D->List D->List D
 |x::r,y::q=> .tuple [x,y]::kj r q
 |_,_=>[]
theorem wN:∀(xs ys:List D),(kj xs ys).length=min xs.length ys.length
 |[],_=>by simp[kj]
 |_::_,[]=>by simp[kj]
 |_::r,_::q=>by simp only[kj,Q0,wN r q];omega
theorem wP:∀(xs ys:List D) (i:Nat),(kj xs ys)[i]? =(xs[i]?).bind fun x=>(ys[i]?).map fun y=> .tuple [x,y]
 |[],_,_=>by simp[kj]
 |x::r,[],i=>by cases i<;>simp[kj]
 |x::r,y::q,0=>by simp[kj]
 |x::r,y::q,i+1=>by simp only[kj,YM];exact wP r q i
section
variable {K:QC} {E:XK} {B O O':ce} {H0 H H':Hp} {σ:L2.St} {ρ ρ':a8} {v:V}
def Y7 (b:Bool) (O:ce) (K:QC) (H:Hp) (a:QI) (xs:List V):Prop:=match b with
 |true=>V3 O K H a xs
 |false=>Xu O K H a xs
theorem Y7.ev (h:Y7 b O K H a xs) (e:Ev O H O' H'):Y7 b O' K H' a xs:=by
 cases b with
 |true=>exact V3.ev h e
 |false=>exact Xu.ev h e
theorem Y7.at (h:Y7 b O K H a xs):Dr b K H a xs:=by
 cases b with
 |true=>exact(show V3 O K H a xs from h).1
 |false=>exact(show Xu O K H a xs from h).1.sq
theorem NK (h:Y7 b1 O K H a xs) (hd:SY O K H xs ds) (g:Y7 b2 O K H c ys) (r:SY O K H ys es):zR K (P2 K b1 b2 a c) O H (kj ds es):=by
 intro O' H' e n;have h':=h.ev e;have b:=hd.ev e;have j:=g.ev e;have f:=r.ev e;rw[wN];refine⟨fun i hi=> ?_,⟨xs,ys,h'.at,j.at,?_⟩⟩
 ·have i1:i<ds.length:=by omega
  have i2:i<es.length:=by omega
  obtain⟨x,o,dx⟩:=b.get (QR i1);obtain⟨y,m,dy⟩:=f.get (QR i2);refine⟨⟨xs,ys,x,y,h'.at,j.at,o,m⟩,?_⟩;rintro t u ⟨p,w,v,hp,rfl,ZM,hy',rfl⟩;have q1:=ZM xs h'.at;have l:=hy' ys j.at;rw[o] at q1;rw[m] at l;cases q1;cases l;refine⟨bM hp _,.tuple [ds[i],es[i]],?_,.tup ⟨Vx.of aC,fun q=>absurd q (n p hp)⟩ (.cons (dx.ev (Ev.grow (bM hp _))) (.cons (dy.ev (Ev.grow (bM hp _))) .nil))⟩;rw[wP,QR i1,QR i2];rfl
 ·rw[hd.length,r.length];omega
theorem KH (h:DV O K H v d) (q:eN d=QB ds):∃b a xs,v= .ref a/\Y7 b O K H a xs/\SY O K H xs ds:=by
 cases h with
 |tup h hs=>cases q;exact⟨QG,_,_,rfl,h,hs⟩
 |lst h hs=>cases q;exact⟨QN,_,_,rfl,h,hs⟩
 |_=>cases q
noncomputable def xo (fa:FA):FI:=fun ρ=>(fa ρ).bind fun a=>(Res.RO (oY a.2 a.1)).bind fun b=>match b.1 with
 |[d,e]=>(Res.RO (eN d)).bind fun ds=>(Res.RO (eN e)).bind fun es=> .ok (kj ds es,b.2)
 |_=> .bad
theorem G0 (h:AO K E ta fa):IO K E (Kx K ta) (xo fa):=by
 intro B H0 O σ H ρ p R w;refine h B H0 O σ H ρ _ R (w.bind.imp fun a w1 r vs H1 g n p1=> ?_);obtain⟨⟨ds,ρ2⟩,q,w1⟩:=w1.RO;obtain⟨o,f,R2,i⟩:=rM n p1 q;dsimp only at w1;cases i with
 |nil=>exact w1.elim
 |cons h1 h2=>
  cases h2 with
  |nil=>exact w1.elim
  |cons h2 h3=>
   cases h3 with
   |cons _ _=>exact w1.elim
   |nil=>obtain⟨es,e,w1⟩:=WR.RO w1;obtain⟨fs,b,w1⟩:=WR.RO w1;obtain⟨b1,a1,xs,rfl,s1,d1⟩:=KH h1 e;obtain⟨l,m,ys,rfl,s2,j⟩:=KH h2 b;exact⟨a1,m,b1,l,rfl,⟨_,s1.at⟩,⟨_,s2.at⟩,w1 o _ H1 (g.trans f) R2 (NK s1 d1 s2 j)⟩
noncomputable def g9 (d e:D):Option RV:=match d,e with
 | .str z,.int i=>if z.length<=1000000 then(kZ z.cps.toList i).map fun c=> .fz (.str ⟨#[c]⟩) else QF
 |_,_=>QF
theorem uN:oj K (Pr K) g9:=by
 intro O H x y dx dy rv Q n b a e q;unfold g9 at e;split at e
 ·split at e
  ·rename_i z i hl
   cases qa:kZ z.cps.toList i with
   |none=>rw[qa] at e;cases e
   |some c=>rw[qa] at e;cases e;cases b;cases a;exact .inr (.inr ⟨z,i,c,rfl,rfl,BP hl,qa,q.at (.str _)⟩)
  ·cases e
 ·cases e
end
end L3
namespace L3
open PySem L2
def Qm (N C:a8->Prop) (T:RV->Prop):Res Fl->Prop
 | .ok (.nx ρ)=>N ρ
 | .ok (.ct ρ)=>C ρ
 | .ok (.rt v)=>T v
 |_=>False
structure Go (r:Res Fl) (N C:a8->Prop) (T:RV->Prop):Prop where
 out:Qm N C T r
section
variable {ρ ρ1 ρ2 ρ3:a8} {f g:FS} {fe:FE} {pv:PV} {d:D} {rv:RV} {ds:List D} {N C:a8->Prop} {T:RV->Prop}
theorem Go.eq (e:r=r') (h:Go r' N C T):Go r N C T:=by rw[e];exact h
theorem Go.imp (h:Go r N C T) (b:∀ρ,N ρ->N' ρ) (e:∀ρ,C ρ->C' ρ) (a:∀v,T v->T' v):Go r N' C' T':=by
 refine⟨?_⟩;have h:=h.out;cases r with
 |bad=>exact h
 |er x=>exact h
 |ok fl=>
  cases fl with
  |nx r=>exact b _ h
  |ct r=>exact e _ h
  |rt v=>exact a _ h
  |bk r=>exact h
theorem EL (h:Go (f ρ) (fun r=>Go (g r) N C T) C T):Go (bV f g ρ) N C T:=by
 refine⟨?_⟩;have h:=h.out;unfold bV;cases q:f ρ with
 |bad=>rw[q] at h;exact h.elim
 |er x=>rw[q] at h;exact h.elim
 |ok fl=>
  rw[q] at h;cases fl with
  |nx r=>exact(show Go (g r) N C T from h).out
  |ct r=>exact h
  |rt v=>exact h
  |bk r=>exact h.elim
theorem Gr (h:c ρ= .ok (b,ρ1)) (a:b=QG->Go (f ρ1) N C T) (e:b=QN->Go (g ρ1) N C T):Go (mM c f g ρ) N C T:=by
 unfold mM;rw[h,Res.bind_ok];cases b with
 |true=>exact a rfl
 |false=>exact e rfl
theorem GF (b:fe ρ= .ok (pv,ρ1)) (a:gt pv ρ1= .ok ρ2) (h:N ρ2):Go (gX fe gt ρ) N C T:= .eq (zl b a rfl) ⟨h⟩
theorem pH (a:fe ρ= .ok (pv,ρ1)) (h:N ρ1):Go (oy fe ρ) N C T:= .eq (BU a) ⟨h⟩
theorem eY (b:fe ρ= .ok (pv,ρ1)) (a:Db ρ1 pv=QB rv) (h:T rv):Go (dW fe ρ) N C T:= .eq (wo b a) ⟨h⟩
theorem vd (h:N ρ):Go (eO ρ) N C T:=⟨h⟩
theorem A4 (I:Nat->a8->Prop):∀(ds:List D) (k:Nat) (ρ:a8),I k ρ->(∀i d ρ,ds[i]? =QB d->I (k+i) ρ->∃ρ1,gt (.fz d) ρ= .ok ρ1/\Go (b ρ1) (I (k+i+1)) (I (k+i+1)) T)->Go (o0 gt b ds ρ) (I (k+ds.length)) C T
 |[],k,ρ,h0,_=>⟨h0⟩
 |d::r,k,ρ,h0,hs=>by
  obtain⟨ρ1,h1,h2⟩:=hs 0 d ρ rfl h0;have h2:=h2.out;have rest:∀ρ',I (k+1) ρ'->Go (o0 gt b r ρ') (I (k+(r.length+1))) C T:=fun ρ' h=>by
   have e:k+(r.length+1)=k+1+r.length:=by omega
   rw[e];refine A4 I r (k+1) ρ' h fun i g a hi f=> ?_;have e:k+1+i=k+(i+1):=by omega
   rw[e] at f⊢;exact hs (i+1) g a (by simpa using hi) f
  refine⟨?_⟩;show Qm _ _ _ ((gt (.fz d) ρ).bind _);rw[h1,Res.bind_ok];cases q:b ρ1 with
  |bad=>rw[q] at h2;exact h2.elim
  |er x=>rw[q] at h2;exact h2.elim
  |ok fl=>
   rw[q] at h2;cases fl with
   |nx r=>exact(rest _ h2).out
   |ct r=>exact(rest _ h2).out
   |rt v=>exact h2
   |bk r=>exact h2.elim
theorem Fi (I:Nat->a8->Prop) (hi:fi ρ= .ok (ds,ρ1)) (f:I 0 ρ1) (a:∀i d ρ,ds[i]? =QB d->I i ρ->∃ρ1,gt (.fz d) ρ= .ok ρ1/\Go (b ρ1) (I (i+1)) (I (i+1)) T) (e:∀ρ',I ds.length ρ'->N ρ'):Go (oM fi gt b ρ) N C T:=by have:=A4 (C:=C) I ds 0 ρ1 f (by simpa using a);rw[Td] at this;exact .eq (zJ hi) (this.imp e (fun _ h=>h) fun _ h=>h)
theorem rd (a:ds.map (fun d=>QB (.fz d))++QP (n - ds.length) QF=ρ) (h:Go (g ρ) (fun _=>T (.fz .none)) (fun _=>False) T):∃rv,gC n g ds= .ok rv/\T rv:=by
 have h:=h.out;unfold gC;rw[a];cases q:g ρ with
 |bad=>rw[q] at h;exact h.elim
 |er x=>rw[q] at h;exact h.elim
 |ok fl=>
  rw[q] at h;cases fl with
  |nx r=>exact⟨_,rfl,h⟩
  |ct r=>exact h.elim
  |rt v=>exact⟨_,rfl,h⟩
  |bk r=>exact h.elim
theorem iA (a:ds.map (fun d=>QB (.fz d))++QP (n - ds.length) QF=ρ) (h:Go (g ρ) (fun _=>RV.fz .none=v) (fun _=>False) (fun r=>r=v)):gC n g ds= .ok v:=by obtain⟨rv,h1,h2⟩:=rd (T:=fun r=>r=v) a h;rw[h1,h2]
theorem eF (b:fe ρ= .ok (pv,ρ1)) (a:gt pv ρ1= .ok ρ2) (hn:ρ2=ρ3) (h:Go (g ρ3) N C T):Go (bV (gX fe gt) g ρ) N C T:= .eq (Gm (zl b a hn)) h
theorem iE (b:fe ρ= .ok (pv,ρ1)) (a:Db ρ1 pv=QB rv) (h:T rv):Go (bV (dW fe) g ρ) N C T:= .eq (Ef (wo b a)) ⟨h⟩
theorem fW (h:Go (g ρ) N C T):Go (bV eO g ρ) N C T:= .eq rfl h
theorem Cl:bV (bV f1 f2) g ρ=bV f1 (bV f2 g) ρ:=by
 unfold bV;cases f1 ρ with
 |bad=>rfl
 |er x=>rfl
 |ok fl=>cases fl<;>rfl
theorem GI (h:Go (bV f1 (bV f2 g) ρ) N C T):Go (bV (bV f1 f2) g ρ) N C T:= .eq Cl h
theorem mz (h:c ρ= .ok (b,ρ1)) (a:b=QG->Go (bV f1 g ρ1) N C T) (f:b=QN->Go (bV f2 g ρ1) N C T):Go (bV (mM c f1 f2) g ρ) N C T:=by
 have e:bV (mM c f1 f2) g ρ=if b=QG then bV f1 g ρ1 else bV f2 g ρ1:=by unfold bV mM;rw[h,Res.bind_ok];cases b<;>rfl
 refine .eq e ?_;cases b with
 |true=>exact a rfl
 |false=>exact f rfl
theorem uR (I:Nat->a8->Prop) (hi:fi ρ= .ok (ds,ρ1)) (f:I 0 ρ1) (a:∀i d ρ,ds[i]? =QB d->I i ρ->∃ρ1,gt (.fz d) ρ= .ok ρ1/\Go (b ρ1) (I (i+1)) (I (i+1)) T) (e:∀ρ',I ds.length ρ'->Go (g ρ') N C T):Go (bV (oM fi gt b) g ρ) N C T:=
 EL (Fi I hi f a e)
theorem tY (I:a8->Prop) (P:Nat->D->Prop):∀(ds:List D) (k:Nat) (ρ:a8) (a:List D),I ρ->a.length+ds.length<=1000000->(∀i d,ds[i]? =QB d->∀ρ,I ρ->∃x ρ',jO gt ft fe d ρ= .ok (QB x,ρ')/\I ρ'/\P (k+i) x)->
  ∃xs,dm gt ft fe ds ρ a= .ok (a++xs)/\xs.length=ds.length/\∀i x,xs[i]? =QB x->P (k+i) x
 |[],k,ρ,a,_,_,_=>⟨[],by show Res.ok a=_;simp,rfl,fun i x h=>by simp at h⟩
 |d::r,k,ρ,a,h0,hl,hs=>by
  obtain⟨x,ρ',h1,h2,j⟩:=hs 0 d rfl ρ h0;rw[Q0] at hl;obtain⟨xs,n,m,l⟩:=tY I P r (k+1) ρ' (a++[x]) h2 (by rw[QM];simp;omega) fun i o hi b g=>by
   have e:k+1+i=k+(i+1):=by omega
   rw[e];exact hs (i+1) o (by simpa using hi) b g
  refine⟨x::xs,?_,by rw[Q0,m,Q0],fun i y f=> ?_⟩
  ·rw[qz h1 (by omega)];show dm gt ft fe r ρ' (a++[x])=_;rw[n,Rj];rfl
  ·cases i with
   |zero=>cases(show QB x=QB y from f);exact j
   |succ i=>
    have e:k+(i+1)=k+1+i:=by omega
    rw[e];exact l i y (by simpa using f)
theorem xV (I:a8->Prop) (P:Nat->D->Prop) (e:I ρ) (b:ds.length<=1000000) (a:∀i d,ds[i]? =QB d->∀ρ,I ρ->∃x ρ',jO gt ft fe d ρ= .ok (QB x,ρ')/\I ρ'/\P i x):
  ∃xs,ku (dm gt ft fe ds ρ [])= .ok xs/\xs.length=ds.length/\∀i x,xs[i]? =QB x->P i x:=by
 obtain⟨xs,h,g,f⟩:=tY I P ds 0 ρ [] e (by simpa using b) (by simpa using a);exact⟨xs,by rw[h];rfl,g,by simpa using f⟩
theorem uL {α:Type} {f:α->D} {Q:Nat->α->Prop}:∀(xs:List D) (k:Nat),(∀i x,xs[i]? =QB x->∃a,x=f a/\Q (k+i) a)->∃as:List α,xs=as.map f/\∀i a,as[i]? =QB a->Q (k+i) a
 |[],_,_=>⟨[],rfl,fun i a h=>by simp at h⟩
 |x::r,k,h=>by
  obtain⟨a,e,q⟩:=h 0 x rfl;obtain⟨as,m,j⟩:=uL (f:=f) (Q:=Q) r (k+1) fun i y l=>by
   have e:k+1+i=k+(i+1):=by omega
   rw[e];exact h (i+1) y (by simpa using l)
  refine⟨a::as,by rw[e,m];rfl,fun i b g=> ?_⟩;cases i with
  |zero=>cases(show QB a=QB b from g);exact q
  |succ i=>
   have e:k+(i+1)=k+1+i:=by omega
   rw[e];exact j i b (by simpa using g)
theorem P4 (ha:QJ.strOk a=QG) (e:QJ.strOk b=QG):dA (.str a) (.str b)=QB (.fz (.bool (a==b))):=by unfold dA;rw[show lw (.str a)=QG by unfold lw;rw[show QJ.canLay0 (.str a)=QG from ha];rfl,show QJ.canLay0 (.str b)=QG from e,TK,if_pos rfl];rfl
theorem KB (ha:QJ.strOk a=QG):dA (.str a) (.str a)=QB (.fz (.bool QG)):=by rw[P4 ha ha,beq_self_eq_true]
theorem A1 (ha:QJ.strOk a=QG) (e:QJ.strOk b=QG) (h:(a==b)=QN):dA (.str a) (.str b)=QB (.fz (.bool QN)):=by rw[P4 ha e,h]
theorem vA {α:Type} {xs:List α} {i:Int} {v:α} (a:0<=i) (h:xs[i.toNat]? =QB v):kZ xs i=QB v:=NJ a h
theorem Iu (a:0<=i) (h:ds[i.toNat]? =QB d):bA (.list ds) (.int i)=QB (.fz d):=by show(kZ ds i).map RV.fz=_;rw[vA a h];rfl
theorem J7 {s:List Nat} (hp:s.Pairwise (·<·)) (h:∀k∈s,k<n):s.length<=n:=by
 have:∀(s:List Nat) (a:Nat),s.Pairwise (·<·)->(∀k∈s,a<=k/\k<n)->s.length<=n - a:=by
  intro s
  induction s with
  |nil=>intro a _ _;exact RF _
  |cons x r ih=>intro a hp h;obtain⟨h1,h2⟩:=Vc.mp hp;have e:=h x Q8;have:=ih (x+1) h2 fun k b=>⟨h1 k b,(h k (Q4 _ b)).2⟩;rw[Q0];omega
 exact this s 0 hp fun k b=>⟨RF _,h k b⟩
theorem u7 (ha:fr ρ= .ok (ps,ρ1)) (hd:oY ρ1 ps=QB ([d,e],ρ2)) (b:eN d=QB es) (a:eN e=QB fs):xo fr ρ= .ok (kj es fs,ρ2):=by unfold xo;rw[ha,Res.bind_ok,hd,bf,Res.bind_ok];dsimp only;rw[b,bf,Res.bind_ok,a,bf,Res.bind_ok]
end
end L3
namespace L3
open PySem PySem.Spec PyProof.Rows L2 PySem.Builtin PySem.Builtin.Str
end L3
namespace PySem
open Sem (wp)
open AutoSeq1 (wpAny_loadPart')
open Builtin Builtin.Str
end PySem
namespace PySem
open Sem (wp)
open Builtin Builtin.Str
end PySem
namespace L3
open PySem PySem.Spec PyProof.Rows L2 PySem.Builtin
end L3
namespace L3
open PySem L2
end L3
namespace L2
open PySem PySem.Spec PyProof.Rows
end L2
namespace L3
open PySem PySem.Spec L2
end L3
namespace L2
open PySem PySem.Spec PyProof.Rows
section
variable {κ:Type} [DecidableEq κ]
noncomputable def jF (Rc:List (κ×V)) (k:κ):Option V:=(Rc.find? fun a=>decide (a.1=k)).map (·.2)
noncomputable def iQ (Rc:List (κ×V)) (k:κ) (v:V):List (κ×V):=
 if(Rc.any fun a=>decide (a.1=k))=QG then Rc.map (fun a=>if a.1=k then(a.1,v) else a) else Rc++[(k,v)]
noncomputable def mj (Rc:List (κ×V)) (k:κ):List (κ×V):=Rc.filter fun a=>decide (a.1≠k)
theorem pZ {k:κ} (e:p.1=k):jF (p::r) k=QB p.2:=by simp[jF,RB,e]
theorem pY {k:κ} (e:¬p.1=k):jF (p::r) k=jF r k:=by simp[jF,RB,e]
theorem yd (k:κ):∀Rc:List (κ×V),(Rc.any fun kv=>decide (kv.1=k))=(jF Rc k).isSome
 |[]=>rfl
 |p::r=>by
  rw[UM];by_cases e:p.1=k
  ·simp only[pZ e,decide_eq_true e,Uu,ZU]
  ·rw[pY e,decide_eq_false e,Vq];exact yd k r
theorem jN (Rc:List (κ×V)) (k:κ) (v:V):(iQ Rc k v).length<=Rc.length+1:=by
 unfold iQ;split
 ·rw[QH];omega
 ·rw[QM,Q0,SM];omega
theorem Vf.Wa (r:Vf o u):o.isSome=u.isSome:=by
 cases o with
 |none=>cases u with
  |none=>rfl
  |some _=>exact(show False from r).elim
 |some _=>cases u with
  |none=>exact(show False from r).elim
  |some _=>rfl
theorem KV.val {Rc:List (κ×V)} {vs:List (κ×QD)} (r:KV Rc vs) (k:κ):Vf (jF Rc k) (valueAt vs k):=by
 unfold KV at r
 induction r with
 |nil=>exact True.intro
 | @cons p q ps qs h t ih=>
  obtain⟨h1,h2⟩:=h;by_cases e:p.1=k
  ·have a:q.1=k:=h1.symm.trans e
   have b:valueAt (q::qs) k=QB q.2:=by simp[valueAt,RB,a]
   rw[pZ e,b];exact h2
  ·have a:¬q.1=k:=fun z=>e (h1.trans z)
   have b:valueAt (q::qs) k=valueAt qs k:=by simp[valueAt,RB,a]
   rw[pY e,b];exact ih
theorem KV.any (r:KV Rc vs) (k:κ):(Rc.any fun kv=>decide (kv.1=k))=vs.any fun kv=>decide (kv.1=k):=by
 unfold KV at r
 induction r with
 |nil=>rfl
 |cons h t ih=>rw[UM,UM,ih,h.1]
theorem KV.acJ (r:KV Rc vs) (k:κ) (a:RelV y u):
  KV (Rc.map fun kv=>if kv.1=k then(kv.1,y) else kv) (vs.map fun kv=>if kv.1=k then(kv.1,u) else kv):=by
 unfold KV at r⊢
 induction r with
 |nil=>exact .nil
 | @cons p q ps qs h t ih=>
  rw[QY,QY];refine .cons ?_ ih;obtain⟨h1,h2⟩:=h;by_cases e:p.1=k
  ·rw[if_pos e,if_pos (h1.symm.trans e)];exact⟨h1,a⟩
  ·rw[if_neg e,if_neg (fun z=>e (h1.trans z))];exact⟨h1,h2⟩
theorem KV.put (r:KV Rc vs) (k:κ) (a:RelV y u):KV (iQ Rc k y) (stored vs k u):=by
 unfold iQ stored;rw[r.any k];by_cases e:(vs.any fun b=>decide (b.1=k))=QG
 ·rw[if_pos e,if_pos e];exact r.acJ k a
 ·rw[if_neg e,if_neg e];exact Paired.snoc r ⟨rfl,a⟩
theorem KV.drop (r:KV Rc vs) (k:κ):KV (mj Rc k) (without vs k):=by
 unfold KV at r⊢;unfold mj without
 induction r with
 |nil=>exact .nil
 | @cons p q ps qs h t ih=>
  obtain⟨h1,h2⟩:=h;rw[VH,VH];by_cases e:p.1=k
  ·have a:¬decide (p.1≠k)=QG:=by simp[e]
   have b:¬decide (q.1≠k)=QG:=by simp[h1.symm.trans e]
   rw[if_neg a,if_neg b];exact ih
  ·have f:¬q.1=k:=fun z=>e (h1.trans z)
   have a:decide (p.1≠k)=QG:=by simp[e]
   have b:decide (q.1≠k)=QG:=by simp[f]
   rw[if_pos a,if_pos b];exact .cons ⟨h1,h2⟩ ih
theorem KV.keys {vs:List (κ×QD)} (r:KV Rc vs):Rc.map (·.1)=vs.map (·.1):=by
 unfold KV at r
 induction r with
 |nil=>rfl
 |cons h t ih=>rw[QY,QY,ih,h.1]
theorem KV.length (r:KV Rc vs):Rc.length=vs.length:=Paired.length r
theorem G3 (Rc:List (κ×V)) (k:κ):(mj Rc k).length<=Rc.length:=V9 _ _
end
theorem ue (r:RelV (kV k) u):(cQ P w).is k u=QG:=by
 cases k with
 |inl i=>obtain⟨t,e⟩:=(show∃t,u=QD.int i t from r);subst e;exact xQ P w i t
 |inr x=>obtain⟨t,e⟩:=(show∃t,u=QD.str x t from r);subst e;exact wG P w x t
theorem tG:∀{ks:List cD} {us:List QD},Vals (ks.map kV) us->ItemsAre (cQ P w) ks us
 |[],_,r=>by rw[T6] at r;cases r;exact .nil
 |k::ks,_,r=>by
  rw[QY] at r;cases r with
  |cons h t=>exact .cons (ue h) (tG t)
noncomputable abbrev KT (H:Hp):List (List cD×V)->List (List cD×QI×QD)->Prop:=Paired fun p q=>p.1=q.1/\H q.2.1=QB (.tup (p.1.map kV))/\RelV p.2 q.2.2
theorem KT.val (r:KT H Rc xs) (k:List cD):Vf (jF Rc k) ((atKey xs k).map (·.2)):=by
 induction r with
 |nil=>exact True.intro
 | @cons p q ps qs h t ih=>
  obtain⟨h1,_,h2⟩:=h;by_cases e:p.1=k
  ·have a:=h1.symm.trans e
   have b:atKey (q::qs) k=QB q.2:=by simp[atKey,RB,a]
   rw[pZ e,b];exact h2
  ·have a:¬q.1=k:=fun z=>e (h1.trans z)
   have b:atKey (q::qs) k=atKey qs k:=by simp[atKey,RB,a]
   rw[pY e,b];exact ih
theorem KT.acJ (r:KT H Rc xs) (k:List cD) (a:RelV y u):
  KT H (Rc.map fun kv=>if kv.1=k then(kv.1,y) else kv) (xs.map (putAt k u)):=by
 induction r with
 |nil=>exact .nil
 | @cons p q ps qs h t ih=>
  rw[QY,QY];refine .cons ?_ ih;obtain⟨h1,h2,b⟩:=h;unfold putAt;by_cases e:p.1=k
  ·rw[if_pos e,if_pos (h1.symm.trans e)];exact⟨h1,h2,a⟩
  ·rw[if_neg e,if_neg (fun z=>e (h1.trans z))];exact⟨h1,h2,b⟩
theorem KT.put (r:KT H Rc xs) (k:List cD) (g:H b=QB (.tup (k.map kV))) (a:RelV y u):
  KT H (iQ Rc k y) (storedH xs k b u):=by
 have e:(Rc.any fun f=>decide (f.1=k))=(atKey xs k).isSome:=by rw[yd,(r.val k).Wa,S7]
 unfold iQ storedH;rw[e];by_cases q:(atKey xs k).isSome=QG
 ·rw[if_pos q,if_pos q];exact r.acJ k a
 ·rw[if_neg q,if_neg q];exact Paired.snoc r ⟨rfl,g,a⟩
theorem KT.keeps (r:KT H Rc xs) (a:∀b ys,H b=QB (.tup ys)->H' b=QB (.tup ys)):KT H' Rc xs:=
 Paired.Vg r fun _ _ z=>⟨z.1,a _ _ z.2.1,z.2.2⟩
section
variable {P:Q7} {w:Rv} {H:Hp} {h:Heap} {a:QI}
theorem K5 (ok:Wb P w H h) (e:Rd H a u):ObjOk P w H h a u:=e.ok ok
theorem xA (ok:Wb P w H h) (e:Rd H a (.dK Rc)):Rc.length<=QU/\(a==S8)=QN/\∃vs,KV Rc vs/\h.DictOf (cQ P w) a vs:=
 show ObjOk P w H h a (.dK Rc) from K5 ok e
theorem xJ (ok:Wb P w H h) (e:H a=QB (.dK Rc)):Rc.length<=QU/\(a==S8)=QN/\∃vs,KV Rc vs/\h.DictOf (cQ P w) a vs:=xA ok (.inl e)
theorem vF {ks:List cD} (ok:Wb P w H h) (e:H a=QB (.tup (ks.map kV))):(tupleKind (cQ P w)).is h ks a:=by obtain⟨_,RE,r,o,h1,⟨h2,n,b⟩,_⟩:=(show ObjOk P w H h a (.tup (ks.map kV)) from ok a _ e);exact⟨o,RE.toArray,n,h1,h2,b,by simpa using tG r⟩
theorem yi (ok:Wb P w H h) (e:Rd H a (.dT Rc)):Rc.length<=QU/\(a==S8)=QN/\
  ∃xs,KT H Rc xs/\h.DictOfH (tupleKind (cQ P w)) a xs:=by
 obtain⟨z,y,xs,r,o,es,j,h1,h2,i,g,f⟩:=(show ObjOk P w H h a (.dT Rc) from K5 ok e);refine⟨z,y,xs,r,o,es,j,h1,h2,i,g,fun x b=> ?_,f⟩;have all:∀{l:List (List cD×V)} {m:List (List cD×QI×QD)},KT H l m->∀x∈m,(tupleKind (cQ P w)).is h x.1 x.2.1:=by
  intro l m q
  induction q with
  |nil=>intro x b;exact nomatch b
  | @cons p q ps qs hq t ih=>
   intro x b;rcases Rk.mp b with e|b
   ·subst e;exact vF ok (by rw[<-hq.1];exact hq.2.1)
   ·exact ih x b
 exact all r x b
theorem OS (ok:Wb P w H h) (e:H a=QB (.dT Rc)):Rc.length<=QU/\(a==S8)=QN/\
  ∃xs,KT H Rc xs/\h.DictOfH (tupleKind (cQ P w)) a xs:=yi ok (.inl e)
end
def Yv (H:Hp) (a:QI) (y:V) (r:Option V):Prop:=
 (∃Rc k,Rd H a (.dK Rc)/\y=kV k/\r=jF Rc k)\/∃Rc k b,Rd H a (.dT Rc)/\y= .ref b/\H b=QB (.tup (k.map kV))/\r=jF Rc k
def aaZ (H:Hp) (a:QI) (y v:V) (H':Hp):Prop:=
 (∃Rc k,H a=QB (.dK Rc)/\y=kV k/\Rc.length<QU/\H'=bv H a (.dK (iQ Rc k v)))\/
 ∃Rc k b,H a=QB (.dT Rc)/\y= .ref b/\H b=QB (.tup (k.map kV))/\Rc.length<QU/\H'=bv H a (.dT (iQ Rc k v))
theorem Yv.k {k:cD} (e:H a=QB (.dK Rc)):Yv H a (kV k) (jF Rc k):= .inl ⟨Rc,k,.inl e,rfl,rfl⟩
theorem aaZ.k {k:cD} (e:H a=QB (.dK Rc)) (b:Rc.length<QU):aaZ H a (kV k) v (bv H a (.dK (iQ Rc k v))):= .inl ⟨Rc,k,e,rfl,b,rfl⟩
section
variable {X:Cx} {pins:List (QI×Obj)} {σ:St} {H:Hp} {s:QL} {a:QI} {y v:V} {u r:QD} {o:Option V} {A:Rp} {E:QD->QL->Prop}
theorem Inv.big (I:Inv X pins σ H s):S8<s.heap.objs.size:=by have h:=(I.mod.glob.keeps I.bk).lt;exact Uy (by decide) h
theorem Cz {Q:QD->QL->Prop} (n:A.units+1<cLine) (I:Inv X pins σ H s) (g:Yv H a y (QB v)) (m:RelV y u) (h:∀w' s',Inv X pins σ H s'->RelV v w'->Q w' s'):
  wpAny (model X.prog X.w) A (getItem (.ref a) u) Q E s:=by
 rcases g with⟨Rc,k,e,ey,l⟩|⟨Rc,k,b,e,ey,eb,l⟩
 ·subst ey;obtain⟨z,hd,vs,rel,dd⟩:=xA I.Sa e;obtain⟨w',f,j⟩:=Vf.some_of (v:=v) (o:=valueAt vs k) (by rw[l];exact rel.val k);exact wpAny_getItem_of (ue m) dd.mapOf f (h w' _ (I.tok _) j)
 ·subst ey;cases(show u=QD.ref b from m);obtain⟨z,hd,xs,rel,dd⟩:=yi I.Sa e;obtain⟨w',f,j⟩:=Vf.some_of (v:=v) (o:=(atKey xs k).map (·.2)) (by rw[l];exact rel.val k);obtain⟨p,hp,i⟩:=YE.mp f;refine acv (XF n) (vF I.Sa eb) dd hp ?_;rw[i];exact h w' _ (I.tok _) j
theorem PL {Q:QD->QL->Prop} (i:A.units+1<cLine) (I:Inv X pins σ H s) (g:Yv H a y o) (f:RelV y u) (h:∀s',Inv X pins σ H s'->Q (.bool o.isSome) s'):
  wpAny (model X.prog X.w) A (S3 .In u (.ref a)) Q E s:=by
 rcases g with⟨Rc,k,e,ey,l⟩|⟨Rc,k,b,e,ey,eb,l⟩
 ·subst ey;obtain⟨z,hd,vs,rel,dd⟩:=xA I.Sa e;refine wpAny_in_of (ue f) hd dd.mapOf ?_;rw[<-(rel.val k).Wa,<-l];exact h _ (I.tok _)
 ·subst ey;cases(show u=QD.ref b from f);obtain⟨z,hd,xs,rel,dd⟩:=yi I.Sa e;refine wpAny_in_heap (XF i) (vF I.Sa eb) hd dd ?_;have q:=(rel.val k).Wa;rw[S7] at q;rw[<-q,<-l];exact h _ (I.tok _)
theorem mV {h':Heap} {t':Nat} {ob:HO} (I:Inv X pins σ H s) (f:Oe (H a)) (g:Heap.SameBut a s.heap h') (h:∃q,h'.get? a=QB q) (new:ObjOk X.prog X.w (bv H a ob) h' a ob):
  Inv X pins σ (bv H a ob) {s with heap:=h',toks:=t'}:=
 I.write (x:=a) (e:=a) f (.inl rfl) (fun b q i z=>(g.2 b i).trans z) h new
theorem yE (z:Rc.length<=QU) (hd:(a==S8)=QN) (rel:KV Rc vs) (dd:h'.DictOf (cQ P w) a vs):
  ObjOk P w H' h' a (.dK Rc):=⟨z,hd,vs,rel,dd⟩
theorem CO {H':Hp} {Q:Unit->QL->Prop} (t:A.units+1<cLine) (I:Inv X pins σ H s) (g:aaZ H a y v H') (o:RelV y u) (rv:RelV v r) (h:∀s',Inv X pins σ H' s'->Q () s'):
  wpAny (model X.prog X.w) A (setItem (.ref a) u r) Q E s:=by
 rcases g with⟨Rc,k,e,ey,l,eH⟩|⟨Rc,k,b,e,ey,eb,l,eH⟩
 ·subst ey eH
  obtain⟨z,hd,vs,rel,dd⟩:=xJ I.Sa e;have j:vs.length<=QU:=by rw[<-rel.length];exact z
  have n:(iQ Rc k v).length<=QU:=by have:=jN Rc k v;omega
  refine wpAny_setItem_pairs (hsz:=j) (ue o) dd fun h' f m=>h _ ?_;have B:∃q,h'.get? a=QB q:=let⟨q,_,_,i,_⟩:=f;⟨q,i⟩
  exact mV I (by rw[e];exact True.intro) m B (yE n hd (rel.put k rv) f)
 ·subst ey eH
  cases(show u=QD.ref b from o);obtain⟨z,hd,xs,rel,dd⟩:=OS I.Sa e;have j:xs.length<=QU:=by rw[<-Paired.length rel];exact z
  have n:(iQ Rc k v).length<=QU:=by have:=jN Rc k v;omega
  refine acw (hsz:=j) (XF t) (vF I.Sa eb) dd fun h' f m=>h _ ?_;obtain⟨q,es,J,i,h2,G,F,_,C⟩:=f;refine mV I (by rw[e];exact True.intro) m ⟨q,i⟩ ⟨n,hd,_,(rel.put k eb rv).keeps fun c ys p=> ?_,q,es,J,i,h2,G,F,C⟩;rw[aA (OT p e (fun z=>nomatch z))];exact p
end
section
variable {X:Cx} {pins:List (QI×Obj)} {σ:St} {H:Hp} {s:QL} {a:QI} {Rc:List (cD×V)} {k:cD} {u:QD} {A:Rp} {E:QD->QL->Prop}
theorem Oj {v:V} {more:List QD} {Q:QD->QL->Prop} (I:Inv X pins σ H s) (e:H a=QB (.dK Rc)) (f:RelV (kV k) u) (l:jF Rc k=QB v) (hm:more=[]\/∃x,more=[x])
  (h:∀w' s',Inv X pins σ (bv H a (.dK (mj Rc k))) s'->RelV v w'->Q w' s'):wpAny (model X.prog X.w) A (call (.builtin "dict.pop") (.ref a::u::more)) Q E s:=by
 obtain⟨z,hd,vs,rel,dd⟩:=xJ I.Sa e;obtain⟨w',g,n⟩:=Vf.some_of (v:=v) (o:=valueAt vs k) (by rw[<-l];exact rel.val k);have hp:(keyPart u).isSome=QG:=by
  cases k with
  |inl i=>obtain⟨t,q⟩:=(show∃t,u=QD.int i t from f);subst q;rfl
  |inr x=>obtain⟨t,q⟩:=(show∃t,u=QD.str x t from f);subst q;rfl
 have ha:argsOk "dict.pop" ⟨.ref a::u::more,[]⟩:=by
  rcases hm with q|⟨x,q⟩
  ·subst q;exact PySem.F.args_dict_pop_2 _ _
  ·subst q;exact PySem.F.args_dict_pop_3 _ _ _
 refine call_meetsIn YF dd.typeIs PySem.F.entry_dict_pop ha (meets_dict_pop_there (cQ X.prog X.w) a (ue f) more hm hp)
  ⟨vs,w',dd,by rw[<-rel.length];exact z,g,fun h' b j=>h w' _ ?_ n⟩
 have m:∃q,h'.get? a=QB q:=let⟨q,_,_,hq,_⟩:=b;⟨q,hq⟩
 exact mV I (by rw[e];exact True.intro) j m (yE (Rx (G3 Rc k) z) hd (rel.drop k) b)
end
def Nj (i:RN):Prop:=∀ov iv,subscripted i QN ov iv=operate [ov,iv] (getItem ov iv)
theorem BG {T id:String}
  (m:typeLookup (.type T) "__getitem__"=pure (QB (.builtin id))) (l:Nj slice)
  (h:wpAny (model prog w) A (eval value env) (fun o s₁=>wpAny (model prog w) A (eval slice env) (fun i s₂=>s₂.TypeIs o T/\wpAny (model prog w) A (getItem o i) Q E s₂) E s₁) E s):
  wpAny (model prog w) A (eval (.Subscript value slice pos) env) Q E s:=by
 refine Subscript_ (wpAny_mono h (fun o s₁ g=>wpAny_mono g (fun i s₂ a=> ?_) fun _ _ x=>x) fun _ _ x=>x);obtain⟨j,a⟩:=a;unfold subscriptTail;refine QE ?_;rw[getitemInPython_of_ne j.not_modules];refine QE (aeY j m ?_);have e:wpAny (model prog w) A (subscripted slice QN o i) (fun r b=>wpAny (model prog w) A (letTemporaryGo value o r>>=fun _=>pure r) Q E b) E s₂:=by rw[l o i];exact wpAny_operating (wpAny_mono a (fun r b f=>QE (wpAny_letTemporaryGo (QQ f))) fun _ _ x=>x)
 first
  |exact QQ (QE e)
  |exact QE (QQ (QE e))
  |exact QE e
theorem xl (I:Inv X pins σ H s) (g:Yv H a y o):s.TypeIs (.ref a) "dict":=by
 rcases g with⟨Rc,k,e,_,_⟩|⟨Rc,k,b,e,_,_,_⟩
 ·obtain⟨_,_,vs,_,dd⟩:=xA I.Sa e;exact dd.typeIs
 ·obtain⟨_,_,xs,_,dd⟩:=yi I.Sa e;exact dd.typeIs
def K0 (td ty:TE):TE:=fun σ H Q=>td σ H fun x H1=>ty σ H1 fun y H2=>∃a v,x= .ref a/\Yv H2 a y (QB v)/\Q v H2
def On (ty td:TE):TE:=fun σ H Q=>ty σ H fun y H1=>td σ H1 fun x H2=>∃a o,x= .ref a/\Yv H2 a y o/\Q (.bl o.isSome) H2
def KJ (td ty tv:TE):TS:=fun D σ H=>tv σ H fun v H1=>td σ H1 fun x H2=>ty σ H2 fun y b=>∃a H4,x= .ref a/\aaZ b a y v H4/\D.nx σ H4
section
variable {X:Cx} {o i e value:RN} {pos pos' agl:Pos} {td ty tv:TE}
theorem Cj (l:X.A.units+1<cLine) (n:PE X o td) (hi:PE X i ty) (m:Nj i):PE X (.Subscript o i pos) (K0 td ty):=by intro pins s σ H Q I h;refine BG X0.lookup m (cG (n pins s σ H _ I h) fun u s1 ⟨x,H1,r,f,q1⟩=>cG (hi pins s1 σ H1 _ r q1) fun z s2 ⟨y,H2,b,e,a,v,ex,g,j⟩=> ?_);subst ex;obtain rfl:=f;exact⟨xl b g,Cz l b g e fun t w q p=>⟨v,H2,q,p,j⟩⟩
theorem NQ (l:X.A.units+1<cLine) (hi:PE X i ty) (m:PE X o td):PC X .In i o (On ty td):=by intro pins s σ H Q I h;refine cG (hi pins s σ H _ I h) fun t s1 ⟨y,H1,q,b,q1⟩=>cG (m pins s1 σ H1 _ q q1) fun u s2 ⟨x,H2,p,e,a,j,ex,g,f⟩=> ?_;subst ex;obtain rfl:=e;exact PL l p g b fun r n=>⟨.bl j.isSome,H2,n,rfl,f⟩
theorem Jm (m:X.A.units+1<cLine) (p:PE X o td) (hi:PE X i ty) (l:PE X value tv) (n:Ss value (QB (.Subscript o i pos')) pos.line X.env=pure QN):
  PS X (.Assign [.Subscript o i pos'] value pos) (KJ td ty tv):=by
 intro pins s σ H D I h;refine aaC (cG (l pins s σ H _ I h) fun r s1 ⟨v,H1,z,rv,q1⟩=>cG (p pins s1 σ H1 _ z q1) fun u s2 ⟨x,H2,w,e,j⟩=>cG (hi pins s2 σ H2 _ w j) fun F E ⟨y,G,t,b,a,B,ex,g,f⟩=> ?_) n;subst ex;obtain rfl:=e;exact CO m t g b rv fun C q=>⟨σ,B,q,f⟩
end
noncomputable def nj (Rc more:List (cD×V)):List (cD×V):=more.foldl (fun a b=>iQ a b.1 b.2) Rc
theorem KV.merge:∀{more:List (cD×V)} {a:List (cD×QD)} {Rc:List (cD×V)} {vs:List (cD×QD)},KV more a->KV Rc vs->KV (nj Rc more) (merged vs a):=by
 intro more a Rc vs r;unfold KV at r
 induction r generalizing Rc vs with
 |nil=>intro q;exact q
 | @cons p q ps qs h t ih=>
  intro r0;have e:KV (iQ Rc p.1 p.2) (stored vs q.1 q.2):=by have:=r0.put p.1 h.2;rw[<-h.1];exact this
  exact ih e
theorem lj:∀(more Rc:List (cD×V)),(nj Rc more).length<=Rc.length+more.length
 |[],Rc=>by show Rc.length<=Rc.length+0;omega
 |p::r,Rc=>by have h1:=lj r (iQ Rc p.1 p.2);have h2:=jN Rc p.1 p.2;show(nj (iQ Rc p.1 p.2) r).length<=_;rw[Q0];omega
structure M1 (X:Cx) (o:RN) (m:Str) (apos:Pos) (e:RN) (Uo:Pos):Prop where
 base:attributeBase o m X.env (eval o X.env)=eval o X.env
 few:((backTo Uo (Q9 [e] X.env)).all (fun x=> !x.1)&&(backToKw Uo (keywordEach [] X.env)).all (fun x=>x.1.isSome)
  &&decide (([e]:List RN).length+([]:List X4).length+(if([]:List X4).isEmpty then 0 else 1)<30))=QG
 line:(apos.endLine==Uo.line)=QG
 trees:backTo Uo (Q9 [e] X.env)=[(QN,eval e X.env)]
structure M2 (X:Cx) (o:RN) (m:Str) (apos:Pos) (e f:RN) (Uo:Pos):Prop where
 base:attributeBase o m X.env (eval o X.env)=eval o X.env
 few:((backTo Uo (Q9 [e,f] X.env)).all (fun x=> !x.1)&&(backToKw Uo (keywordEach [] X.env)).all (fun x=>x.1.isSome)
  &&decide (([e,f]:List RN).length+([]:List X4).length+(if([]:List X4).isEmpty then 0 else 1)<30))=QG
 line:(apos.endLine==Uo.line)=QG
 trees:backTo Uo (Q9 [e,f] X.env)=[(QN,eval e X.env),(QN,eval f X.env)]
def Qg (H:Hp) (a:QI):Prop:=(∃Rc,Rd H a (.dK Rc))\/∃Rc,Rd H a (.dT Rc)
theorem NM (I:Inv X pins σ H s) (d:Qg H a):
  s.TypeIs (.ref a) "dict"/\(∀b,QD.ref a= .ref b->∃ob,s.heap.get? b=QB ob/\ob.dict=QF)/\(a==S8)=QN:=by
 rcases d with⟨Rc,e⟩|⟨Rc,e⟩
 ·obtain⟨_,hd,vs,_,dd⟩:=xA I.Sa e;refine⟨dd.typeIs,fun b q=> ?_,hd⟩;cases q;obtain⟨ob,_,_,h1,h2,_⟩:=dd;exact⟨ob,h1,h2.2.1⟩
 ·obtain⟨_,hd,xs,_,dd⟩:=yi I.Sa e;refine⟨dd.typeIs,fun b q=> ?_,hd⟩;cases q;obtain⟨ob,_,_,h1,h2,_⟩:=dd;exact⟨ob,h1,h2.2.1⟩
def ES (td ty:TE):TE:=fun σ H Q=>td σ H fun x H1=>∃a,x= .ref a/\Qg H1 a/\ty σ H1 fun y H2=>∃Rc k v,H2 a=QB (.dK Rc)/\y=kV k/\jF Rc k=QB v/\Q v (bv H2 a (.dK (mj Rc k)))
section
variable {X:Cx} {o e f:RN} {apos Uo:Pos} {td ty tx:TE}
theorem EI (p:PE X o td) (q:PE X e ty) (m:M1 X o "pop" apos e Uo):PE X (.Call (.Attribute o "pop" apos) [e] [] Uo) (ES td ty):=by intro pins s σ H Q I h;refine wpAny_Call_method m.base m.few m.line Vk YF PySem.F.type_dict_pop (cG (p pins s σ H _ I h) fun u s1 ⟨x,H1,b,j,a,ex,d,q1⟩=> ?_);subst ex;obtain rfl:=j;obtain⟨g,f,_⟩:=NM b d;refine⟨g,f,?_⟩;rw[m.trees];refine Calls.callWith_builtin rfl (Calls.evalArgs_plain (Calls.spliced_cons (cG (q pins s1 σ H1 _ b q1) fun E s2 ⟨y,H2,A,i,Rc,k,v,t,r,l,n⟩=>Calls.spliced_nil ?_)));subst r;exact Oj A t i l (.inl rfl) fun B C z w=>⟨v,_,z,w,n⟩
end
end L2
namespace HT
open PySem PySem.Spec PyProof.Rows PySem.Calls
end HT
namespace L2
open PySem PySem.Spec PyProof.Rows
end L2
namespace PySem
open Sem (wp)
open Builtin
open AutoSeq1 (wpAny_loadPart')
end PySem
namespace L3
open PySem PySem.Spec PyProof.Rows L2
end L3
namespace L4
open PySem PySem.Spec PyProof.Rows L2 L3
def CF (h:Heap) (e:QI) (c:QD) (dx:Option QI) (a:QD) (hd:Option QI):Prop:=
 ∃ob fs,h.get? e=QB ob/\ob.cls=c/\ob.dict=dx/\ob.data= .fields fs/\fs[0]? =QB a/\
  match hd with
  |none=>fs[1]? =QB .none
  |some T=>fs[1]? =QB (.ref T)/\T≠e/\∃oT ts,h.get? T=QB oT/\oT.data= .fields ts/\ts[3]? =QB .none
structure Lft (l:List Env) (e:QI) (hd:Option QI) (h h':Heap):Prop where
 keep:∀b o,h.get? b=QB o->b≠e->hd≠QB b->b∉wB l->h'.get? b=QB o
 slot:∀b o,h.get? b=QB o->b≠e->hd≠QB b->∃sl,h'.get? b=QB {o with slots:=sl}
 here:∀b o,h.get? b=QB o->∃o',h'.get? b=QB o'
section
variable {M:YC} {A:Rp} {E:QD->QL->Prop} {s:QL}
theorem g8
  (F:A.frames=QB (env::outer)) (v:s.heap.FunFrames base (env::outer)) (C:env.frame=QB L) (w:s.heap.get? e=QB ob) (l:ob.data= .fields fs) (j:1<fs.size) (G:fs[0]? =QB a0)
  (k:∀h' T,s.heap.objs.size<=T->CF h' e ob.cls ob.dict a0 (QB T)->Lft (env::outer) e QF s.heap h'->Q () {s with heap:=h'}):
  wpAny M A (frameOf env>>=fun fr=>entryPlaceOf L nx>>=fun pl=>EntryCells.newEntry hv fr .none (rawInt L) .none pl>>=fun b=>setField (.ref e) 1 b) (fun _ s'=>wpAny M A (setFlight (.ref e) QF) Q E s') E s:=by
 have h:e∉(env::outer).filterMap (·.frame):=fun z=>by obtain⟨_,o,q,n⟩:=v.mem z;rw[w] at q;cases q;exact n fs l
 refine QE (adf F v C fun h1 S=> ?_);refine QE (acx fun pl P=> ?_);unfold EntryCells.newEntry newFields;refine QE (SS ?_ (P.sizeOk5 _ _ _ _ _));have q1:=(S.2.1 e h).trans w;generalize hN:({cls:= .type "traceback",dict:=QF,data:= .fields ([hv,.ref L,.none,rawInt L,.none]++(if pl.isEmpty then QP 6 QD.none else pl)).toArray}:Obj)=N;have a:N.data= .fields ([hv,.ref L,.none,rawInt L,.none]++(if pl.isEmpty then QP 6 QD.none else pl)).toArray:=by rw[<-hN]
 have H:=Obj.isFreed_of_fields a;have u:=Heap.get?_push_of_some N q1;refine Si u l j ?_;have i:=Se (Heap.lt_size q1);have m:=Obj.data_mapFields l (·.setIfInBounds 1 (QD.ref h1.objs.size));have g:=Heap.get?_update_self (Obj.mapFields (·.setIfInBounds 1 (QD.ref h1.objs.size))) u (Obj.isFreed_of_fields m)
 have r:=
  (Heap.get?_update_other (h1.push N) (Obj.mapFields (·.setIfInBounds 1 (QD.ref h1.objs.size))) i.symm).trans (Heap.get?_push_size h1 H)
 unfold setFlight;refine QE (Ry g m (x:= .ref h1.objs.size) (by simp[j]) ?_);rw[if_pos (show(QD.ref h1.objs.size !=QD.none)=QG from by simp)];have p:3<([hv,.ref L,.none,rawInt L,.none]++(if pl.isEmpty then QP 6 QD.none else pl)).toArray.size:=by simp only[Q1,QM,Q0,SM];omega
 refine Si r a p ?_;have t:=Heap.get?_update_other ((h1.push N).update e (Obj.mapFields (·.setIfInBounds 1 (QD.ref h1.objs.size)))) (Obj.mapFields (·.setIfInBounds 3 ((QF:Option QI).elim QD.none fun f=>rawInt f))) i;have y:=Heap.get?_update_self (Obj.mapFields (·.setIfInBounds 3 ((QF:Option QI).elim QD.none fun f=>rawInt f))) r (Obj.isFreed_of_fields (Obj.data_mapFields a _));have U9:∀b o,b≠e->h1.get? b=QB o->(((h1.push N).update e (Obj.mapFields (·.setIfInBounds 1 (QD.ref h1.objs.size)))).update h1.objs.size (Obj.mapFields (·.setIfInBounds 3 ((QF:Option QI).elim QD.none fun f=>rawInt f)))).get? b=QB o:=fun b o ne q=>by rw[Heap.get?_update_other _ _ (Se (Heap.lt_size q)),Heap.get?_update_other _ _ ne.symm];exact Heap.get?_push_of_some N q
 refine k _ h1.objs.size (by rw[S.1];exact QS _) ⟨_,_,t.trans g,Obj.cls_mapFields _ _,?_,m,?_,?_,i,_,_,y,Obj.data_mapFields a _,?_⟩ ⟨fun b o q ne _ B=>U9 b o ne ((S.2.1 b B).trans q),fun b o q ne _=> ?_,fun b o q=> ?_⟩
 ·cases ob with
  |mk c d dt sl=>cases dt<;>rfl
 ·rw[Uz (by decide)];exact G
 ·simp[j]
 ·rw[SH p];rfl
 ·obtain⟨sl,z⟩:=S.2.2 b o q;exact⟨sl,U9 b _ ne z⟩
 ·by_cases ne:b=e
  ·subst ne;exact⟨_,t.trans g⟩
  ·obtain⟨sl,z⟩:=S.2.2 b o q;exact⟨_,U9 b _ ne z⟩
theorem C7
  (p:A.frames=QB (env::outer)) (m:s.heap.FunFrames base (env::outer)) (g:env.frame=QB L) (F:CF s.heap e c dx a0 hd)
  (k:∀h' T,s.heap.objs.size<=T->CF h' e c dx a0 (QB T)->Lft (env::outer) e hd s.heap h'->Q () {s with heap:=h'}):wpAny M A (leaving env (.ref e)) Q E s:=by
 obtain⟨ob,fs,q,C,B,d,t,r⟩:=F;subst C B;cases hd with
 |none=>have r:=r;unfold leaving noteFrame;simp only[g];refine QE (QE (Ry q d r ?_));rw[if_neg (by decide)];exact g8 p m g q d (Rh.mp r).1 t k
 |some T=>
  obtain⟨r,v,I,u,f,dT,j⟩:=r;unfold leaving noteFrame;simp only[g];refine QE (QE (Ry q d r ?_));rw[if_pos (show(QD.ref T !=QD.none)=QG from by simp)];refine QE (Ry f dT j ?_);rw[if_neg (show¬((QD.none==rawInt L)=QG) from by simp[rawInt])];refine QE (Si f dT (Rh.mp j).1 ?_);have a:∀b,b≠T->(s.heap.update T (Obj.mapFields (·.setIfInBounds 3 QD.none))).get? b=s.heap.get? b:=fun b ne=>Heap.get?_update_other _ _ ne.symm;have self:=Heap.get?_update_self (Obj.mapFields (·.setIfInBounds 3 QD.none)) f (Obj.isFreed_of_fields (Obj.data_mapFields dT _));have G:∀b o,s.heap.get? b=QB o->(∀vs,o.data≠ .fields vs)->b≠T:=fun b o z n y=>by rw[y,f] at z;cases z;exact n u dT
  refine g8 p (m.of_keeps fun b o z n=>⟨o,(a b (G b o z n)).trans z,rfl⟩) g ((a e v.symm).trans q) d (Rh.mp r).1 t fun h' T' l H h=>k h' T' (by rw[Heap.size_after_update] at l;exact l) H ⟨fun b o z n1 i w=> ?_,fun b o z n1 i=> ?_,fun b o z=> ?_⟩
  ·exact h.keep b o ((a b fun y=>i (by rw[y])).trans z) n1 (by simp) w
  ·exact h.slot b o ((a b fun y=>i (by rw[y])).trans z) n1 (by simp)
  ·by_cases y:b=T
   ·subst y;exact h.here b _ self
   ·exact h.here b o ((a b y).trans z)
end
theorem Lft.Sa {P:Q7} {w:Rv} {l:List Env} {e:QI} {hd:Option QI} {H:Hp} {h h':Heap} (L:Lft l e hd h h') (j:Wb P w H h) (ne:H e=QF) (g:∀T,hd=QB T->H T=QF) (i:∀b∈wB l,H b=QF):Wb P w H h':=fun b u q=>by
 have free:∀c v,H c=QB v->c≠e/\hd≠QB c/\c∉wB l:=fun c v z=>⟨(fun y=>by rw[y,ne] at z;cases z),(fun y=>by rw[g c y] at z;cases z),(fun y=>by rw[i c y] at z;cases z)⟩;refine(j b u q).U9 (fun c v m z=> ?_) (fun _ z=>z) fun _ _ z=>z;rcases m with y|y
 ·rw[y] at z⊢;obtain⟨n1,f,a⟩:=free b u q;exact L.keep b v z n1 f a
 ·obtain⟨n1,f,a⟩:=free c _ y;exact L.keep c v z n1 f a
noncomputable def i8 (P:Q7) (w:Rv):wA:=fun outer H s E x s'=>
 ∃e c dx a0 T H',x= .ref e/\s.heap.get? e=QF/\s.heap.get? T=QF/\CF s'.heap e c dx a0 (QB T)/\H' e=QF/\H' T=QF/\
  s'.os=s.os/\AllBare s'.gens/\Un (wB outer) [] H H' s.heap s'.heap/\Wb P w H' s'.heap/\E c dx H'
theorem Lg {P:Q7} {w:Rv} {K:QC} {mg:Str->Option QD} {base:Heap} {N:List Str} {qual:Str} {scope:Uc} {f:QI} {cd:QD} {A:Rp} {outer:List Env} {s0:QL} {H0:Hp} {E:XK}
  {pins:List (QI×Obj)} {σ:L2.St} {H:Hp} {s:QL} {e:QI} {c p:QD} {dx hd:Option QI} (I:L2.Inv (eT (i8 P w) P w K mg base N qual scope f cd A outer s0 H0 E) pins σ H s)
  (F:CF s.heap e c dx p hd) (m:s0.heap.get? e=QF) (v:∀T,hd=QB T->s0.heap.get? T=QF) (ne:H e=QF) (t:∀T,hd=QB T->H T=QF) (q:E c dx H):
  (eT (i8 P w) P w K mg base N qual scope f cd A outer s0 H0 E).xe (.ref e) s:=by
 have M:=I.ok.frames;have J:=I.stack;refine C7 (L:=s0.heap.objs.size) M J rfl F fun h' T l O L=> ?_;have u:=L.Sa I.Sa ne t I.WQ;have G:H T=QF:=I.Sa.fresh l;have i:∀b o,s0.heap.get? b=QB o->b<s0.heap.objs.size:=fun b o z=>Heap.lt_size z;have a:∀b o,s0.heap.get? b=QB o->b≠e/\hd≠QB b:=fun b o z=>⟨(fun y=>by rw[y,m] at z;cases z),(fun y=>by rw[v b y] at z;cases z)⟩;have sz:=I.sz;refine⟨e,c,dx,p,T,H,rfl,m,Heap.get?_none_of_le (Rx sz l),O,ne,G,I.os,I.bare,?_,u,q⟩;have B:=I.base;refine⟨fun b o z n j _=> ?_,fun b o z n C _=> ?_,fun b o z n _=> ?_,fun b o z _=> ?_,B.W6,B.WO,B.Xe⟩
 ·have g:=B.keep b o z n j (fun y=>nomatch y)
  refine L.keep b o g (a b o z).1 (a b o z).2 fun y=> ?_;rcases Rk.mp (I.Wz b y) with y|y
  ·have y:b=s0.heap.objs.size:=y;exact absurd (i b o z) (by rw[y];exact Sg _)
  ·exact j y
 ·obtain⟨sl,g⟩:=B.slot b o z n C (fun y=>nomatch y);obtain⟨h,r⟩:=L.slot b _ g (a b o z).1 (a b o z).2;exact⟨h,r⟩
 ·exact B.free b o z n (fun y=>nomatch y)
 ·obtain⟨o',g⟩:=B.there b o z (fun y=>nomatch y);exact L.here b o' g
theorem r9 {P:Q7} {w:Rv} {K:QC} {mg:Str->Option QD} {base:Heap} {N:List Str} {qual:Str} {scope:Uc} {f:QI} {cd:QD} {A:Rp} {outer:List Env} {s0:QL} {H0:Hp} {E:XK}:
  fE (i8 P w) (eT (i8 P w) P w K mg base N qual scope f cd A outer s0 H0 E) E:=by
 rintro pins σ H s x s' I ⟨e,c,dx,i,T,H',rfl,le,lT,F,ne,nT,os,bare,un,Sa,q⟩;have h:=I.YV (ch:=[]) os un Sa bare (fun b z=>nomatch z);have a:∀b,s.heap.get? b=QF->s0.heap.get? b=QF:=fun b z=>by
  cases y:s0.heap.get? b with
  |none=>rfl
  |some o=>obtain⟨o',g⟩:=I.base.there b o y (fun y=>nomatch y);rw[z] at g;cases g
 exact Lg h F (a e le) (fun T' z=>by cases z;exact a T lT) ne (fun T' z=>by cases z;exact nT) q
theorem yT (x:ObjOk P w H h a o):∃ob,h.get? a=QB ob:=by
 cases o with
 |lst xs=>obtain⟨_,_,_,_,e⟩:=x;exact⟨_,e⟩
 |tup xs=>obtain⟨_,_,_,ob,e,_⟩:=x;exact⟨ob,e⟩
 |dK Rc=>obtain⟨_,_,_,_,o,_,_,e,_⟩:=x;exact⟨o,e⟩
 |dT Rc=>obtain⟨_,_,_,_,o,_,_,e,_⟩:=x;exact⟨o,e⟩
 |set S n=>obtain⟨o,_,_,_,e,_⟩:=x;exact⟨o,e⟩
 |ins C dx fs=>obtain⟨_,_,_,e,_⟩:=x;exact⟨_,e⟩
 |own y=>exact x
 |xd fs=>obtain⟨_,⟨o,_,_,e,_⟩,_⟩:=x;exact⟨o,e⟩
 |rng lo hi=>obtain⟨_,_,_,e⟩:=x;exact⟨_,e⟩
 |frz ob u=>exact⟨ob,x.1⟩
 |tbl ps=>exact⟨_,x⟩
 |met f y=>exact⟨_,x⟩
 |ext φ=>exact x.2.1
 |exw φ=>exact x.2.1
theorem w6 (k:Wb P w H h) (n:h.get? a=QF):H a=QF:=by
 cases q:H a with
 |none=>rfl
 |some o=>obtain⟨ob,z⟩:=yT (k a o q);rw[n] at z;cases z
section
variable {M:YC} {A:Rp} {E:QD->QL->Prop} {s:QL}
theorem IP {base:Heap} {env:Env} {outer:List Env} {L e:QI} {c u:QD} {dx hd:Option QI} {Q:Unit->QL->Prop}
  (p:A.frames=QB (env::outer)) (m:s.heap.FunFrames base (env::outer)) (g:env.frame=QB L) (F:CF s.heap e c dx u hd)
  (k:∀h' T,s.heap.objs.size<=T->CF h' e c dx u (QB T)->Lft (env::outer) e hd s.heap h'->Q () {s with heap:=h'}):
  wpAny M A (noteFrame (.ref e) env) (fun _ s2=>wpAny M A (setFlight (.ref e) QF) Q E s2) E s:=by
 obtain⟨ob,fs,q,G,C,d,t,r⟩:=F;subst G C;cases hd with
 |none=>have r:fs[1]? =QB .none:=r;unfold noteFrame;simp only[g];refine QE (Ry q d r ?_);rw[if_neg (by decide)];exact g8 p m g q d (Rh.mp r).1 t k
 |some T=>
  obtain⟨r,w,J,v,f,dT,j⟩:=r;unfold noteFrame;simp only[g];refine QE (Ry q d r ?_);rw[if_pos (show(QD.ref T !=QD.none)=QG from by simp)];refine QE (Ry f dT j ?_);rw[if_neg (show¬((QD.none==rawInt L)=QG) from by simp[rawInt])];refine QE (Si f dT (Rh.mp j).1 ?_);have a:∀b,b≠T->(s.heap.update T (Obj.mapFields (·.setIfInBounds 3 QD.none))).get? b=s.heap.get? b:=fun b ne=>Heap.get?_update_other _ _ ne.symm;have self:=Heap.get?_update_self (Obj.mapFields (·.setIfInBounds 3 QD.none)) f (Obj.isFreed_of_fields (Obj.data_mapFields dT _));have H:∀b o,s.heap.get? b=QB o->(∀vs,o.data≠ .fields vs)->b≠T:=fun b o z n y=>by rw[y,f] at z;cases z;exact n v dT
  refine g8 p (m.of_keeps fun b o z n=>⟨o,(a b (H b o z n)).trans z,rfl⟩) g ((a e w.symm).trans q) d (Rh.mp r).1 t fun h' T' l I h=>k h' T' (by rw[Heap.size_after_update] at l;exact l) I ⟨fun b o z n1 i B=> ?_,fun b o z n1 i=> ?_,fun b o z=> ?_⟩
  ·exact h.keep b o ((a b fun y=>i (by rw[y])).trans z) n1 (by simp) B
  ·exact h.slot b o ((a b fun y=>i (by rw[y])).trans z) n1 (by simp)
  ·by_cases y:b=T
   ·subst y;exact h.here b _ self
   ·exact h.here b o ((a b y).trans z)
theorem LJ {e T:QI} {c i:QD} {dx:Option QI} {Q:Unit->QL->Prop} (F:CF s.heap e c dx i (QB T))
  (k:∀h',CF h' e c dx i (QB T)->(∀b,b≠T->h'.get? b=s.heap.get? b)->(∃o,h'.get? T=QB o)->Q () {s with heap:=h'}):wpAny M A (setFlight (.ref e) QF) Q E s:=by
 obtain⟨ob,fs,q,n,m,d,p,r,h,u,t,g,dT,l⟩:=F;unfold setFlight;refine QE (Ry q d r ?_);rw[if_pos (show(QD.ref T !=QD.none)=QG from by simp)];have a:=(Rh.mp l).1;refine Si g dT a ?_;have j:∀b,b≠T->(s.heap.update T (Obj.mapFields (·.setIfInBounds 3 ((QF:Option QI).elim QD.none fun f=>rawInt f)))).get? b=s.heap.get? b:=fun b ne=>Heap.get?_update_other _ _ ne.symm;have self:=Heap.get?_update_self (Obj.mapFields (·.setIfInBounds 3 ((QF:Option QI).elim QD.none fun f=>rawInt f))) g (Obj.isFreed_of_fields (Obj.data_mapFields dT _));refine k _ ⟨ob,fs,(j e h.symm).trans q,n,m,d,p,r,h,_,_,self,Obj.data_mapFields dT _,?_⟩ j ⟨_,self⟩;rw[SH a];rfl
end
section
variable {P:Q7} {w:Rv} {K:QC} {mg:Str->Option QD} {base:Heap} {N:List Str} {qual:Str} {scope:Uc} {f:QI} {cd:QD} {A:Rp} {outer:List Env} {s0:QL} {H0:Hp} {E:XK} {CX:wA}
  {σ:L2.St} {H:Hp} {s:QL} {h':Heap} {X:Cx}
theorem p7 (I:L2.Inv X [] σ H s) (S:QI->Prop) (w:X.ex=[]) (j:∀p∈X.pn,¬S p.1) (keep:∀b o,s.heap.get? b=QB o->¬S b->b∉wB X.stack->h'.get? b=QB o)
  (slot:∀b o,s.heap.get? b=QB o->¬S b->∃sl,h'.get? b=QB {o with slots:=sl}) (here:∀b o,s.heap.get? b=QB o->∃o',h'.get? b=QB o')
  (n0:∀b,S b->X.s₀.heap.get? b=QF) (nL:¬S X.env.locals) (nC:∀x c,X.env.cells.lookup x=QB c->¬S c) (E:∀b,S b->H b=QF):L2.Inv X [] σ H {s with heap:=h'}:=by
 have A:∀b o,X.s₀.heap.get? b=QB o->¬S b:=fun b o z y=>by rw[n0 b y] at z;cases z
 have g:∀b,b∉X.ex:=fun b z=>by rw[w] at z;cases z
 have B:=I.base;have a:∀x c,X.env.cells.lookup x=QB c->∀v,s.heap.IsCell c v->h'.IsCell c v:=fun x c z v ⟨o,t,hd⟩=>by obtain⟨sl,q⟩:=slot c o t (nC x c z);exact⟨_,q,hd⟩
 refine⟨I.ok,I.os,I.bare,⟨fun b o z n f _=> ?_,fun b o z n G _=> ?_,fun b o z n x=>B.free b o z n x,fun b o z x=> ?_,B.W6,B.WO,B.Xe⟩,?_,fun x c z=> ?_,I.free,I.Uw,fun p hp=> ?_,fun b u q=> ?_,I.len⟩
 ·have e:=B.keep b o z n f (g b)
  refine keep b o e (A b o z) fun y=> ?_;rcases Rk.mp (I.Wz b y) with y|y
  ·rw[y] at z;exact absurd (Heap.lt_size z) (Nat.not_lt_of_le I.ok.above)
  ·exact f y
 ·obtain⟨sl,e⟩:=B.slot b o z n G (g b);obtain⟨h,C⟩:=slot b _ e (A b o z);exact⟨h,C⟩
 ·obtain⟨o',e⟩:=B.there b o z x;exact here b o' e
 ·obtain⟨m,hn,F⟩:=I.loc
  obtain⟨o,es,K,t,hd,r⟩:=hn;obtain⟨sl,q⟩:=slot _ o t nL;refine⟨m,⟨_,es,K,q,hd,r⟩,fun i x v a1 M L=> ?_⟩;obtain⟨u,rv,l⟩:=F i x v a1 M L;refine⟨u,rv,?_⟩;rcases l with l|⟨kd,c,z,y⟩
  ·exact .inl l
  ·exact .inr ⟨kd,c,z,a x c z _ y⟩
 ·obtain⟨v,y⟩:=I.cell x c z;exact⟨v,a x c z v y⟩
 ·obtain⟨z,n,ne,f,dd⟩:=I.pin p hp
  rw[Rf] at hp;refine⟨keep p.1 p.2 z (j p hp) (fun y=> ?_),n,ne,f,dd⟩;rcases Rk.mp (I.Wz _ y) with y|y
  ·exact ne y
  ·exact f y
 ·have free:∀c v,H c=QB v->¬S c/\c∉wB X.stack:=fun c v z=>⟨(fun y=>by rw[E c y] at z;cases z),(fun y=>by rw[I.WQ c y] at z;cases z)⟩
  refine(I.Sa b u q).U9 (fun c v J z=> ?_) (fun _ z=>z) fun _ _ z=>z;rcases J with y|y
  ·rw[y] at z⊢;exact keep b v z (free b u q).1 (free b u q).2
  ·exact keep c v z (free c _ y).1 (free c _ y).2
end
section
variable {M:YC} {A:Rp} {E:QD->QL->Prop} {h:Heap} {g:Array Wd} {d:aas} {t:Nat} {os:Za}
theorem D9 {C U e:QI} {ob:Obj} {n1 q1 n m:Str} {N1 J:QI} {b1 m1 H a:List QD} {d1 F:Bool} {s1 s2:List Str} {u1 l:List QD} {a1 I:Bool} {c1 G:Option Bool} {x1 j:Option QI} {i0 i1 i2 i3 i5 u r q p o:Option QD} {id1 b:String} {Q:Bool->QL->Prop}
  (B:h.get? C=QB (excClassObj n1 q1 C N1 b1 m1 d1 s1 u1 a1 c1 x1 i0 i1 i2 i3 i5 id1)) (i:h.get? U=QB (excClassObj n m U J H a F s2 l I G j u r q p o b)) (w:h.get? e=QB ob) (y:ob.cls= .ref C)
  (z:a.contains (.type "BaseException")=QG) (hm:(QD.ref C::m1).contains (.ref U)=QG) (v:Q QG ⟨h,g,d,t,os⟩):wpAny M A (excMatches (.ref e) (.ref U)) Q E ⟨h,g,d,t,os⟩:=by
 have f:(QD.ref U::a).contains (.type "BaseException")=QG:=by rw[Uj,z,U3]
 have K:=tc_notTuple;unfold excMatches
 repeat (first|(with_reducible refine SU w ?_;rw[y])|with_reducible refine SU i ?_|(with_reducible refine Um i ?_;rw[f])|(with_reducible refine Um B ?_;rw[hm])|wp_step)
 exact v
end
noncomputable abbrev Cx.marked (X:Cx) (e:QI):Cx:={X with A:=X.A.mark (QB (.ref e)),calm:=QN,xe:=fun _ _=>False}
section
variable {X:Cx} {σ:L2.St} {H:Hp} {s:QL} {h':Heap} {e:QI}
theorem rQ (I:L2.Inv X [] σ H s) (e:QI):L2.Inv (Cx.marked X e) [] σ H s:=
 ⟨⟨I.ok.mod,I.ok.kind,I.ok.glob,I.ok.blt,I.ok.above,I.ok.inj,I.ok.has,I.ok.cab,(fun z=>nomatch z),I.ok.frames,I.ok.stk,I.ok.exf,I.ok.bs,I.ok.bsz,I.ok.Y6,I.ok.YU,I.ok.WA,I.ok.frf⟩,I.os,I.bare,I.base,I.loc,I.cell,I.free,I.Uw,I.pin,I.Sa,I.len⟩
theorem yD (ok:X.Ok) (I:L2.Inv (Cx.marked X e) [] σ H s):L2.Inv X [] σ H s:=
 ⟨ok,I.os,I.bare,I.base,I.loc,I.cell,I.free,I.Uw,I.pin,I.Sa,I.len⟩
theorem CN (I:L2.Inv X [] σ H s) {ob:Obj} (f:∀p∈X.pn,p.1≠e) (q:s.heap.get? e=QB ob) (ne:H e=QF) (n0:X.s₀.heap.get? e=QF) (nL:e≠X.env.locals) (nC:∀x c,X.env.cells.lookup x=QB c->c≠e):L2.Inv X [] σ (bv H e (.frz ob (.own e))) s:=by
 have g:∀b o,X.s₀.heap.get? b=QB o->b≠e:=fun b o z y=>by rw[y,n0] at z;cases z
 have a:∀b o,H b=QB o->b≠e:=fun b o z y=>by rw[y,ne] at z;cases z
 have B:=I.base;refine⟨I.ok,I.os,I.bare,⟨B.keep,B.slot,fun b o z n x=> ?_,B.there,fun b xs z=> ?_,fun b o u z=> ?_,fun b ps z=> ?_⟩,I.loc,I.cell,?_,fun x c z=> ?_,fun p hp=> ?_,fun b u z=> ?_,I.len⟩
 ·rw[aA (g b o z)];exact B.free b o z n x
 ·have:=B.W6 b xs z;rw[aA (a b _ this)];exact this
 ·have:=B.WO b o u z;rw[aA (a b _ this)];exact this
 ·obtain⟨more,y⟩:=B.Xe b ps z;exact⟨more,by rw[aA (a b _ y)];exact y⟩
 ·rw[aA nL.symm];exact I.free
 ·rw[aA (nC x c z)];exact I.Uw x c z
 ·obtain⟨z,n,r⟩:=I.pin p hp;rw[Rf] at hp;exact⟨z,by rw[aA (f p hp)];exact n,r⟩
 ·by_cases y:b=e
  ·subst y;rw[aC] at z;cases z;exact⟨q,ob,q⟩
  ·rw[aA y] at z;exact(I.Sa b u z).U9 (fun _ _ _ y=>y) (fun c y=>by rw[aA (a c _ y)];exact y) fun c xs y=>by rw[aA (a c _ y)];exact y
theorem C2 {M:YC} {A:Rp} {E:QD->QL->Prop} (I:L2.Inv X [] σ H s) {n:Str} {i:Nat} {pos:Pos} {Q:Unit->QL->Prop} (hN:X.N.Nodup) (hi:X.N[i]? =QB n) (hlo:X.env.kindOf n=QB .local)
  (k:∀s',L2.Inv X [] (σ.set i QF) H s'->Q () s'):wpAny M A (do bindName X.env n .none;unbindBehindTheSuite X.env n pos) Q E s:=by
 obtain⟨m,hn,hl⟩:=id I.loc;have adb:(X.env.scope.kind== .class||(X.env.scope.kind== .module&&X.env.locals !=X.env.globals))=QN:=by rw[I.ok.kind];rfl
 refine wpAny_nameGoes_keeps hlo hn adb fun h2 v hm S=>k _ ?_;have B:=I.base;have cne:=I.cne;have old:∀b o,X.s₀.heap.get? b=QB o->h2.get? b=s.heap.get? b:=fun b o z=>S.2 b (Ra (Q6 (Heap.lt_size z) I.ok.above));have iσ:i<σ.length:=by rw[I.len];exact(QK.mp hi).1
 refine⟨I.ok,I.os,I.bare,⟨fun b o z n nf x=>(old b o z).trans (B.keep b o z n nf x),fun b o z n hf x=> ?_,B.free,fun b o z x=> ?_,B.W6,B.WO,B.Xe⟩,⟨_,hm,fun j y v' a1 a2 a3=> ?_⟩,fun y c z=> ?_,I.free,I.Uw,fun p hp=> ?_,fun b u z=> ?_,by rw[R8];exact I.len⟩
 ·obtain⟨sl,y⟩:=B.slot b o z n hf x;exact⟨sl,(old b o z).trans y⟩
 ·obtain⟨o',y⟩:=B.there b o z x;exact⟨o',(old b o z).trans y⟩
 ·by_cases hj:j=i
  ·subst hj;rw[Sh iσ] at a2;cases a2
  ·rw[RA (Ne.symm hj)] at a2
   obtain⟨u',r',q⟩:=hl j y v' a1 a2 a3;refine⟨u',r',?_⟩;rcases q with⟨kd,z⟩|⟨kd,c,z,w⟩
   ·refine .inl ⟨kd,?_⟩;have:y≠n:=fun z=>hj (su hN a1 (z▸hi));simp[this,z]
   ·exact .inr ⟨kd,c,z,w.sameBut S (cne y c z)⟩
 ·obtain⟨w,y'⟩:=I.cell y c z;exact⟨w,y'.sameBut S (cne y c z)⟩
 ·obtain⟨z,n,ne,r⟩:=I.pin p hp;exact⟨(S.2 p.1 ne).trans z,n,ne,r⟩
 ·have free:∀c u,H c=QB u->c≠X.env.locals:=fun c u z y=>by rw[y,I.free] at z;cases z
  refine(I.Sa b u z).U9 (fun c w hc y=>(S.2 c ?_).trans y) (fun _ y=>y) fun _ _ y=>y;rcases hc with y'|y'
  ·rw[y'];exact free b u z
  ·exact free c _ y'
end
def sG (K:QC) (C:QI) (m:List QD):Prop:=∃nm q N bs hd sn sub ab col dd k0 k1 k2 k3 k5 id,K.lookup C=QB (excClassObj nm q C N bs m hd sn sub ab col dd k0 k1 k2 k3 k5 id)
structure Apart (X:Cx) (a:QI):Prop where
 n0:X.s₀.heap.get? a=QF
 nL:a≠X.env.locals
 nC:∀y c,X.env.cells.lookup y=QB c->c≠a
 nP:∀p∈X.pn,p.1≠a
theorem qE (I:L2.Inv X pins σ H s) (e:X.ex=[]) (n:s.heap.get? a=QF):Apart X a:=by
 have ne:∀b o,s.heap.get? b=QB o->b≠a:=fun b o z y=>by rw[y,n] at z;cases z
 refine⟨?_,?_,fun y c z=> ?_,fun p hp=> ?_⟩
 ·cases z:X.s₀.heap.get? a with
  |none=>rfl
  |some o=>obtain⟨o',y⟩:=I.base.there a o z (by rw[e];simp);exact absurd rfl (ne a o' y)
 ·obtain⟨m,⟨o,_,_,z,_⟩,_⟩:=I.loc;exact(ne _ o z).symm
 ·obtain⟨v,o,f,_⟩:=I.cell y c z;exact ne c o f
 ·exact ne _ _ (I.pin p (UQ _ hp)).1
noncomputable abbrev Cx.pinned (X:Cx) (l:List (QI×Obj)):Cx:={X with pn:=l}
theorem J5 (I:L2.Inv X pins σ H s):L2.Inv (Cx.pinned X (X.pn++pins)) [] σ H s:=
 ⟨⟨I.ok.mod,I.ok.kind,I.ok.glob,I.ok.blt,I.ok.above,I.ok.inj,I.ok.has,I.ok.cab,I.ok.hd,I.ok.frames,I.ok.stk,I.ok.exf,I.ok.bs,I.ok.bsz,I.ok.Y6,I.ok.YU,I.ok.WA,I.ok.frf⟩,I.os,I.bare,I.base,I.loc,I.cell,I.free,I.Uw,(fun p hp=>I.pin p (by rw[Rf] at hp;exact hp)),I.Sa,I.len⟩
theorem iY (ok:X.Ok) (I:L2.Inv (Cx.pinned X (X.pn++pins)) [] σ H s):L2.Inv X pins σ H s:=
 ⟨ok,I.os,I.bare,I.base,I.loc,I.cell,I.free,I.Uw,(fun p hp=>I.pin p (by rw[Rf];exact hp)),I.Sa,I.len⟩
end L4
namespace L4
open PySem PySem.Spec L2 L3
end L4
namespace L4
open PySem PySem.Spec PySem.W PyProof.Rows L2 L3
section
variable {prog:Q7} {w:Rv} {A:Rp} {E:QD->QL->Prop} {h:Heap} {g:Array Wd} {d:aas} {t:Nat} {os:Za} {a C:QI} {o:Obj} {K:QC}
  {n1 q1:Str} {N1:QI} {b1 m1:List QD} {d1:Bool} {s1:List Str} {u1:List QD} {a1:Bool} {c1:Option Bool} {x1:Option QI} {i0 i1 i2 i3 i5:Option QD} {id1:String}
theorem qM {M:YC} {b:QD} {Q:Unit->QL->Prop} (j:h.get? C=QB (excClassObj n1 q1 C N1 b1 m1 d1 s1 u1 a1 c1 x1 i0 i1 i2 i3 i5 id1)) (i:m1.contains (.type "BaseException")=QG)
  (e:h.get? a=QB o) (f:o.cls= .ref C) (k:Q () ⟨h,g,d,t,os⟩):wpAny M A (checkBuiltinCall "BaseException.__getattribute__" ⟨[.ref a,b],[]⟩) Q E ⟨h,g,d,t,os⟩:=by
 have n:builtinKind "BaseException.__getattribute__"=QB .slot:=by decide+kernel
 have m:splitId "BaseException.__getattribute__"=QB ("BaseException","__getattribute__"):=by decide+kernel
 have l:(QD.ref C::m1).contains (.type "BaseException")=QG:=by rw[Uj,i,U3]
 have p:=F.args_bexc_ga (.ref a) b;simp only[checkBuiltinCall,n,m];refine QE ?_;unfold isInstance
 repeat (first|(with_reducible refine SU e ?_;rw[f])|(with_reducible refine Um j ?_;rw[l])|wp_step)
 exact k
theorem zN (X:K.In h) (I:TN h a o C od) (l3:findIn K (.ref C) "__class__"=QB (QB (.builtin "object.__class__"))) (hm:mroIn K C (.type "object")=QB QG)
  (k:Q (.done (.ret (.ref C))) ⟨h,g,d,t,os⟩):wpAny (model prog w) A (RY.«object.__getattribute__» ⟨[.ref a,.str "__class__" tk],[]⟩) Q E ⟨h,g,d,t,os⟩:=by
 have l:=F.typeOf_object_class;have j:=F.typeOf_object_class;have i:=F.slot_gs_get.lookup;have f:=F.slot_gs_set.lookup;have e:=I.type (M:=model prog w);have b:=looks_findIn (M:=model prog w) X l3
 repeat (any_goals (first|assumption|with_reducible refine e.at ?_|with_reducible refine b.at ?_|wp_step))
 refine class_get X I hm ?_
 repeat (any_goals (first|assumption|wp_step))
theorem Cs (X:K.In h) (I:TN h a o C od) (i:h.get? C=QB (excClassObj n1 q1 C N1 b1 m1 d1 s1 u1 a1 c1 x1 i0 i1 i2 i3 i5 id1)) (f:m1.contains (.type "BaseException")=QG)
  (l1:findIn K (.ref C) "__getattribute__"=QB (QB (.builtin "BaseException.__getattribute__"))) (e:findIn K (.ref C) "__getattr__"=QB QF) (l3:findIn K (.ref C) "__class__"=QB (QB (.builtin "object.__class__"))) (hm:mroIn K C (.type "object")=QB QG)
  (k:Q (QB (.ref C)) ⟨h,g,d,t+1,os⟩):wpAny (model prog w) A (getAttr? (.ref a) "__class__") Q E ⟨h,g,d,t,os⟩:=by
 have n:=TJ.ga.bind (.ref a);have b:(QD.builtin "BaseException.__getattribute__"==QD.builtin "object.__getattribute__")=QN:=by decide+kernel
 have m:(onTheHeap (QD.ref C)&&QD.builtin "BaseException.__getattribute__"==QD.builtin "object.__getattribute__")=QN:=by rw[b];rfl
 have l:=I.type (M:=model prog w);have j:=looks_findIn (M:=model prog w) X l1;have L2:=looks_findIn (M:=model prog w) X e;unfold getAttr? getAttrBy? getAttrBy
 repeat (any_goals (first|assumption|with_reducible refine l.at ?_|with_reducible refine j.at ?_|with_reducible refine L2.at ?_|wp_step))
 refine To TJ.ga.plain F.entry_bexc_ga (qM i f I.at_ I.cls (zN X I l3 hm ?_))
 repeat (any_goals (first|assumption|wp_step))
structure V4 (K:QC) (C:QI) (m:List QD):Prop where
 cl:sG K C m
 be:m.contains (.type "BaseException")=QG
 ga:findIn K (.ref C) "__getattribute__"=QB (QB (.builtin "BaseException.__getattribute__"))
 gt:findIn K (.ref C) "__getattr__"=QB QF
 cs:findIn K (.ref C) "__class__"=QB (QB (.builtin "object.__class__"))
 ob:mroIn K C (.type "object")=QB QG
theorem mP (L:V4 K C m):KitX K (.ref a) (.ref C) (fun h=>TN h a o C od) where
 ty:=fun _ _ _ I=>I.type
 it:=fun _ _ X _=>by obtain⟨_,_,_,_,_,_,_,_,_,_,_,_,_,_,_,_,b⟩:=L.cl;intro p j l s' k q;unfold isType loadHead;exact QE (Zh (k _ _ (X _ _ b)) (QQ q))
 ne:=fun h tp dd RE n sl X e=>by obtain⟨_,_,_,_,_,_,_,_,_,_,_,_,_,_,_,_,b⟩:=L.cl;refine Bool.eq_false_iff.mpr fun q=> ?_;obtain rfl:=QD.ref.inj (beq_iff_eq.mp q);have z:=congrArg Obj.cls (QX ((X _ _ b).symm.trans e));exact absurd (QD.type.inj z) (by decide)
 ca:=fun{_ _ _ _ _ s} X I k=>by obtain⟨_,_,_,_,_,_,_,_,_,_,_,_,_,_,_,_,b⟩:=L.cl;obtain⟨i,gg,dd,f,g⟩:=s;exact Cs X I (X _ _ b) L.be L.ga L.gt L.cs L.ob k
end
def MD (K:QC) (c:QD):V->Hp->VK->Prop:=fun x H Q=>∃e ob C m b,x= .ref e/\H e=QB (.frz ob (.own e))/\ob.cls= .ref C/\(∀p,ob.dict=QB p->∃fs,H p=QB (.xd fs))/\notCls ob=QG/\V4 K C m/\kitOne K (.ref C) c=QB b/\Q (.bl b) H
theorem Gv (I:L2.Inv X pins σ H s) (i:RelV x u) (h:MD X.K c x H Q):
  wpAny (model X.prog X.w) A (call (.builtin "isinstance") [u,c]) (EP X pins σ Q) E s:=by
 obtain⟨e,ob,C,m,b,rfl,l,f,hd,hn,L,a,q⟩:=h;obtain rfl:=i;have z:=(I.Sa e _ l).1;cases e1:ob.dict with
 |none=>exact kia_one (mP (od:=QF) L) I.UT ⟨z,f,hn,by rw[e1];trivial⟩ a (fun y=>nomatch y) fun tk=>⟨.bl b,H,I.tok tk,rfl,q⟩
 |some p=>obtain⟨fs,hp⟩:=hd p e1;obtain⟨j,g⟩:=yT (I.Sa p _ hp);exact kia_one (mP (od:=QB j) L) I.UT ⟨z,f,hn,by rw[e1];exact g⟩ a (fun y=>nomatch y) fun tk=>⟨.bl b,H,I.tok tk,rfl,q⟩
end L4
namespace L4
open PySem PySem.SeqAt PySem.Spec PySem.W PyProof.Rows L2 L3
end L4
namespace L4
open PySem PySem.Spec PySem.W PyProof.Rows L2 L3
def Hg (K:QC):List V->Hp->VK->Prop:=fun xs H Q=>∃x,(∃U:QI,xs=[x,.ref U]/\MD K (.ref U) x H Q)\/∃n,xs=[x,.ty n]/\MD K (.type n) x H Q
theorem xS:T4 X (.builtin "isinstance") (Hg X.K):=by
 rintro pins s σ H xs us Q I r ⟨x,h⟩;rcases h with⟨U,rfl,h⟩|⟨n,rfl,h⟩
 ·obtain⟨u,e,rfl,a,b⟩:=oB r;obtain rfl:=b;exact Gv I a h
 ·obtain⟨u,e,rfl,a,b⟩:=oB r;obtain rfl:=b;exact Gv I a h
end L4
namespace PySem
open Sem (wp)
open PyProof.Rows
end PySem
namespace L3
open PySem PySem.Spec PyProof.Rows L2
end L3
namespace HT
open PySem PySem.Spec PyProof.Rows
end HT
namespace L3
open PySem PySem.Spec PyProof.Rows L2
section
variable {K:QC} {E:XK}
open Classical in
end
end L3
namespace L9
open PySem PySem.Spec PyProof.Rows
section
variable {M:YC} {A:Rp} {E:QD->QL->Prop} {env:Env}
variable {nm q:Str} {C N:QI} {bs bm:List QD} {hdct:Bool} {sn:List Str} {sub:List QD} {ab:Bool} {col:Option Bool} {dd:Option QI} {k0 k1 k2 k3 k5:Option QD} {newId:String}
theorem iK (p:bm.contains (.type "BaseException")=QG) (m:A.handled=QF)
  (h:wpAny M A x (fun v s₁=>∃e ob,v= .ref e/\s₁.heap.get? C=QB (excClassObj nm q C N bs bm hdct sn sub ab col dd k0 k1 k2 k3 k5 newId)/\s₁.heap.get? e=QB ob/\ob.cls= .ref C/\(∃fs,ob.data= .fields fs/\fs[1]? =QB QD.none)/\E (.ref e) s₁) E s):
  wpAny M A (raiseStmt env (QB x) QF) Q E s:=by
 have f:(QD.ref C::bm).contains (.type "BaseException")=QG:=by rw[Uj,p,U3]
 unfold raiseStmt;refine QE (wpAny_mono h (fun v s₁ a=> ?_) fun _ _ x=>x);obtain⟨e,ob,rfl,j,n,i,⟨fs,hd,b⟩,o⟩:=a;obtain⟨oc,od,l⟩:=ob;dsimp only at i hd;subst i hd;obtain⟨hp,g,d,tk,os⟩:=s₁
 repeat (first|with_reducible refine SU n ?_|with_reducible refine SU j ?_|(with_reducible refine Um j ?_;rw[f])|wp_step)
 rw[b]
 repeat wp_step
 exact ab2 m o
end
section
variable {prog:Q7} {w:Rv} {A:Rp} {E:QD->QL->Prop} {h:Heap} {g:Array Wd} {d:aas} {t:Nat} {os:Za}
variable {nm q:Str} {C N:QI} {bs bm bmB:List QD} {hdct:Bool} {sn:List Str} {sub:List QD} {ab:Bool} {col:Option Bool} {dd:Option QI} {k0 k1 k2 k3 k5:Option QD} {B Bn newId nid Wv inN:String} {bmN:List QD}
theorem pi (y:UN Bn newId inN bmN) (j:bmB.contains (.type Bn)=QG) (F:UN B nid Wv bmB) (T:adg h bmB bm)
  (i:h.get? C=QB (excClassObj nm q C N bs bm hdct sn sub ab col dd k0 k1 k2 k3 k5 newId)) (hn:h.Ns N mN) (hi:mN "__init__"=QB (.ref fI)) (p:h.get? fI=QB oI) (n:oI.cls= .type "function")
  (G:∀h' e,Heap.MadeExcOf h h' e (.ref C) rest->wpAny (model prog w) A (call (.ref fI) (.ref e::rest)) (fun r s'=>r= .none/\Q (.done (.ret (.ref e))) s') E ⟨h',g,d,t,os⟩) (hrest:rest.length<=QU):
  wpAny (model prog w) A (RY.«type.__call__» ⟨.ref C::rest,[]⟩) Q E ⟨h,g,d,t,os⟩:=by
 repeat (first|with_reducible refine SU i ?_|with_reducible refine wpAny_madeBy_exc i ?_|wp_step)
 refine codeAny_call_builtin_code (Zj.quiet_builtin _ y.quiet) (wpAny_check_new_subU y j T i ?_);refine codeAny_exc_new_subU y j F T i ?_ hrest
 have a:=Heap.get?_push_of_some {cls:= .ref C,data:= .fields #[.ref h.objs.size,.none,.none,.none,.bool QN,.none]}
  (Heap.get?_push_of_some {cls:= .type "tuple",data:= .seq rest.toArray} i)
 have v:=Heap.get?_push_of_some {cls:= .ref C,data:= .fields #[.ref h.objs.size,.none,.none,.none,.bool QN,.none]}
  (Heap.get?_push_of_some {cls:= .type "tuple",data:= .seq rest.toArray} p)
 have f:((h.push {cls:= .type "tuple",data:= .seq rest.toArray}).push {cls:= .ref C,data:= .fields #[.ref h.objs.size,.none,.none,.none,.bool QN,.none]}).Ns N mN:=
  let⟨o,es,ep,e,r⟩:=hn;⟨o,es,ep,Heap.get?_push_of_some _ (Heap.get?_push_of_some _ e),r⟩
 have l:((h.push {cls:= .type "tuple",data:= .seq rest.toArray}).push
   {cls:= .ref C,data:= .fields #[.ref h.objs.size,.none,.none,.none,.bool QN,.none]}).get? (h.objs.size+1)=QB
   {cls:= .ref C,data:= .fields #[.ref h.objs.size,.none,.none,.none,.bool QN,.none]}:=by heap_get
 have u:(QD.ref C::bm).contains (.ref C)=QG:=by simp
 have m:=T.keeps (h':=(h.push {cls:= .type "tuple",data:= .seq rest.toArray}).push {cls:= .ref C,data:= .fields #[.ref h.objs.size,.none,.none,.none,.bool QN,.none]})
  fun b o e=>Heap.get?_push_of_some _ (Heap.get?_push_of_some _ e)
 unfold isInstance
 repeat (first|with_reducible refine SU l ?_|(with_reducible refine Um a ?_;rw[u])|wp_step)
 refine wpAny_typeLookup_tail a f m F.mroIs F.init.lookup ?_;rw[hi];refine Tu (QE ?_);unfold bindSpecial;refine QE (aaD ⟨_,v,n⟩ ?_);rw[if_pos (by decide)];refine QQ (QE (wpAny_mono (G _ (h.objs.size+1) ⟨fun b o H=>Heap.get?_push_of_some _ (Heap.get?_push_of_some _ H),Heap.get?_none_of_le (XY _),h.objs.size,l,Heap.get?_none_of_le (QS _),?_⟩) (fun r s' z=> ?_) fun _ _ x=>x))
 ·exact Heap.get?_push_of_some _ (Heap.get?_push_at rfl rfl)
 ·obtain⟨rfl,I⟩:=z
  wp_walk
  exact I
theorem z7 (l:UN Bn newId inN bmN) (i:bmB.contains (.type Bn)=QG) (F:UN B nid Wv bmB) (T:adg h bmB bm)
  (a:h.get? C=QB (excClassObj nm q C N bs bm hdct sn sub ab col dd k0 k1 k2 k3 k5 newId)) (hn:h.Ns N mN) (hi:mN "__init__"=QB (.ref fI)) (f:h.get? fI=QB oI) (b:oI.cls= .type "function")
  (j:∀h' e,Heap.MadeExcOf h h' e (.ref C) rest->wpAny (model prog w) (A.under (.builtin "type.__call__" ⟨.ref C::rest,[]⟩)) (call (.ref fI) (.ref e::rest)) (fun r s'=>r= .none/\Q (.ref e) s') E ⟨h',g,d,t,os⟩) (hrest:rest.length<=QU):
  wpAny (model prog w) A (call (.ref C) rest) Q E ⟨h,g,d,t,os⟩:=by
 have o:=tc_lookup;have n:=tc_bind (.ref C);have m:(⟨h,g,d,t,os⟩:QL).TypeIs (.ref C) "type":=⟨_,a,rfl⟩;refine Vt (codeAny_of_tree ?_)
 repeat (any_goals (first|assumption|with_reducible refine SU a ?_|wp_step))
 refine⟨rfl,?_⟩;refine codeAny_call_builtin_at (Zj.quiet_builtin _ (by decide+kernel)) entry_typeCall (wpAny_check_type_call_sub a (pi (hrest:=hrest) l i F T a hn hi f b fun h' e hm=> ?_));exact j h' e hm
end
section
variable {prog:Q7} {w:Rv} {A:Rp} {E:QD->QL->Prop} {s:QL} {env:Env}
variable {nm q:Str} {C N:QI} {bs bm bmB:List QD} {hdct:Bool} {sn:List Str} {sub:List QD} {ab:Bool} {col:Option Bool} {dd:Option QI} {k0 k1 k2 k3 k5:Option QD} {B Bn newId nid Wv inN:String} {bmN:List QD}
theorem ye (M:UN Bn newId inN bmN) (t:bmB.contains (.type Bn)=QG) (F:UN B nid Wv bmB)
  (u:bm.contains (.type "BaseException")=QG) (o:A.handled=QF) (L:(backTo Uo (Q9 args env)).any (·.1)=QN) (hi:mN "__init__"=QB (.ref fI)) (p:oI.cls= .type "function")
  (h:wpAny (model prog w) A (eval (.Name x np) env) (fun f s₁=>f= .ref C/\wpAny (model prog w) A (evalArgs (.ref C) QG (backTo Uo (Q9 args env)) [])
   (fun a s₂=>a.kw=[]/\a.pos.length<=QU/\s₂.heap.get? C=QB (excClassObj nm q C N bs bm hdct sn sub ab col dd k0 k1 k2 k3 k5 newId)/\s₂.heap.Ns N mN/\s₂.heap.get? fI=QB oI/\adg s₂.heap bmB bm/\
    ∀h' e,Heap.MadeExcOf s₂.heap h' e (.ref C) a.pos->wpAny (model prog w) (A.under (.builtin "type.__call__" ⟨.ref C::a.pos,[]⟩)) (call (.ref fI) (.ref e::a.pos)) (fun r s'=>r= .none/\∃ob,s'.heap.get? C=QB (excClassObj nm q C N bs bm hdct sn sub ab col dd k0 k1 k2 k3 k5 newId)/\s'.heap.get? e=QB ob/\ob.cls= .ref C/\(∃fs,ob.data= .fields fs/\fs[1]? =QB QD.none)/\E (.ref e) s') E {s₂ with heap:=h'}) E s₁) E s):
  wpAny (model prog w) A (exec (.Raise (QB (.Call (.Name x np) args [] Uo)) QF pos) env) Q E s:=by
 rw[arm_exec_Raise]
 first
  |refine QE (Tt (iK u o (QE (wpAny_mono (X7 (wpAny_mono h (fun f s₁ i=> ?_) fun _ _ x=>x)) (fun v l b=>QE (Tt (QQ b))) fun _ _ x=>x))))
  |(simp only[evalOpt,Option.map];refine QE (Tt (iK (C:=C) (nm:=nm) (q:=q) (N:=N) (bs:=bs) (hdct:=hdct) (sn:=sn) (sub:=sub) (ab:=ab) (col:=col) (dd:=dd) (k0:=k0) (k1:=k1) (k2:=k2) (k3:=k3) (k5:=k5) (newId:=newId) u o (QE (wpAny_mono (X7 (wpAny_mono h (fun f s₁ i=> ?_) fun _ _ x=>x)) (fun v l b=>QE (Tt (QQ b))) fun _ _ x=>x)))))
  |(refine QE (Tt (iK u o ?_));refine QE (wpAny_mono (X7 (wpAny_mono h (fun f s₁ i=> ?_) fun _ _ x=>x)) (fun v l b=>QE (Tt (QQ b))) fun _ _ x=>x))
 obtain⟨rfl,i⟩:=i;unfold callWith;refine QE (Tu (wpAny_mono i (fun a s₂ j=>QE (Tt ?_)) fun _ _ x=>x));obtain⟨apos,K⟩:=a;obtain⟨n,m,y,hn,G,T,j⟩:=j;obtain rfl:=n;obtain⟨hp,g,d,tk,os⟩:=s₂;simp only[L];refine QE (wpAny_keeperOf_exc y ?_);refine QE (z7 (hrest:=m) M t F T y hn hi G p fun h' e hm=>wpAny_mono (j h' e hm) (fun r s' ⟨z,ob,c1,J,I,c4,H⟩=>⟨z,QE (Tu (wpAny_point (QQ ?_)))⟩) fun _ _ x=>x);exact⟨e,ob,rfl,c1,J,I,c4,H⟩
end
end L9
namespace L9
open PySem PySem.W PyProof.Rows Builtin Builtin.ObjectAttr
noncomputable abbrev Hn:List QD:=[.type "ValueError",.type "Exception",.type "BaseException",.type "object"]
section
variable {prog:Q7} {w:Rv} {A:Rp} {K:Frag} {B C x:QI} {s:QL} {R:Yh->QL->Prop} {cd:ClassData} {name:Str} {tk:Tok} {v:QD} {fs:Array QD}
theorem Kj (X:K.In s.heap) (u:clsIn K C=QB cd) (hm:cd.mro= .ref C:: .ref B::Hn) (hd:cd.hasDict=QG) (hn:findIn K (.ref C) name=QB QF) (i:s.heap.get? x=QB ⟨.ref C,QF,.fields fs,#[]⟩)
  (G:∀h' Ze,h'.get? x=QB ⟨.ref C,QB s.heap.objs.size,.fields fs,#[]⟩->h'.Ns1 s.heap.objs.size (fun y=>if y=name then QB v else QF)->(∀b o,b≠x->s.heap.get? b=QB o->h'.get? b=QB o)->R (.ok (.ret .none)) {s with heap:=h',toks:=Ze}):
  codeAny (model prog w) A (.call (.builtin "object.__setattr__") ⟨[.ref x,.str name tk,v],[]⟩) R s:=by
 have I:InstAt s.heap x ⟨.ref C,QF,.fields fs,#[]⟩ C QF:=⟨i,rfl,rfl,True.intro⟩;have m:=PySem.F.store_object;have sub:Looks (model prog w) s.heap (isInstance (.ref x) (.type "object")) QG:=I.type.andThen (looks_mroIn X (by unfold mroIn;rw[u,Option.bind_some,hm,if_neg (by simp)];simp));refine To m.slot.plain m.entry (@check_slot (model prog w) _ _ s "object.__setattr__" "object" "__setattr__" (.ref x) [.str name tk,v] [] _ m.kind m.split sub (m.args (.ref x) (.str name tk) v) ?_);have l:Looks (model prog w) s.heap (mroOf (.ref C)) cd.mro:=(looks_clsIn X u).andThen .now;rw[osa_eq,refuse_eq];refine QE (QE (I.type.here (QE (l.here ?_))));rw[hm,af2,af2,PySem.F.store_ValueError.passes];refine QQ (QE (I.type.here (QE ((looks_findIn X hn).here (QE (QQ ?_))))));unfold storeInOwnDict;refine QE (QQ (QE ?_));unfold ownDictForStores instanceDict;refine QE (Zh i (QE ((looks_clsIn X u).here ?_)));rw[hd,if_neg (by decide)];show wpAny _ _ (if(!QG|| !typeHasDict (.ref C))=QG then pure QF else(do
        let d<-alloc {cls:=QD.type "dict",data:=Data.dict #[]}
        update x fun o=>{cls:=o.cls,dict:=QB d,data:=o.data,slots:=o.slots}
        dictMade (.ref C) x d)) _ _ _
 rw[if_neg (by simp[typeHasDict])];obtain⟨h,g,d,t,os⟩:=s;dsimp only at X i G I sub l⊢;have f:(h.push {cls:= .type "dict",data:= .dict #[]}).get? x=QB ⟨.ref C,QF,.fields fs,#[]⟩:=Heap.get?_push_of_some _ i;have a:=Ra (Heap.lt_size i);refine QE (wpAny_alloc' ?_);refine QE (wpAny_update' f ?_);refine QQ ?_
 have p:((h.push {cls:= .type "dict",data:= .dict #[]}).update x fun o=>{cls:=o.cls,dict:=QB h.objs.size,data:=o.data,slots:=o.slots}).get? h.objs.size
   =QB {cls:= .type "dict",data:= .dict #[]}:=
  (Heap.get?_update_ne _ _ _ _ a.symm).trans (Heap.get?_push_at rfl rfl)
 have U:((h.push {cls:= .type "dict",data:= .dict #[]}).update x fun o=>{cls:=o.cls,dict:=QB h.objs.size,data:=o.data,slots:=o.slots}).Ns h.objs.size (fun _=>QF):=
  ⟨_,#[],_,p,rfl,fun e J=>absurd J (by simp),fun _=>rfl⟩
 unfold storeInDict newKeyGuard;refine QE (QQ (QE (wpAny_nsSet1 (Heap.Ns1.of_empty U) fun h' j E=> ?_)));obtain⟨Y,M,N,n,q,r⟩:=j.count (Within.cons name v Within.nil);refine QE (adQ n (by rw[q];exact adR (Rx r (by rw[Q0,SM,Tn];omega))) ?_);refine QQ (G h' _ ?_ ?_ fun b ob z H=> ?_)
 ·exact(E.2 x a).trans (Heap.get?_update_self _ f rfl)
 ·obtain⟨o',es,O,T,S,Q,L,P⟩:=j;exact⟨o',es,O,T,S,Q,L,fun y=>by rw[P y]⟩
 ·exact(E.2 b (Ra (Heap.lt_size H))).trans ((Heap.get?_update_ne _ _ _ _ z).trans (Heap.get?_push_of_some _ H))
theorem JA (X:K.In s.heap) (g:clsIn K C=QB cd) (hm:cd.mro= .ref C:: .ref B::Hn) (hd:cd.hasDict=QG) (a:findIn K (.ref C) "__setattr__"=QB (QB (.builtin "object.__setattr__"))) (hn:findIn K (.ref C) name=QB QF) (e:s.heap.get? x=QB ⟨.ref C,QF,.fields fs,#[]⟩)
  (f:∀h' Ze,h'.get? x=QB ⟨.ref C,QB s.heap.objs.size,.fields fs,#[]⟩->h'.Ns1 s.heap.objs.size (fun y=>if y=name then QB v else QF)->(∀b o,b≠x->s.heap.get? b=QB o->h'.get? b=QB o)->Q () {s with heap:=h',toks:=Ze}):
  wpAny (model prog w) A (setAttr (.ref x) name v) Q E s:=
 set_plain X (⟨e,rfl,rfl,True.intro⟩:InstAt s.heap x ⟨.ref C,QF,.fields fs,#[]⟩ C QF) a (Kj X g hm hd hn e f)
end
section
variable {prog:Q7} {w:Rv} {A:Rp} {E:QD->QL->Prop} {h:Heap} {g:Array Wd} {d:aas} {t:Nat} {os:Za}
variable {nm q:Str} {C N:QI} {bs bm bmB:List QD} {hdct:Bool} {sn:List Str} {sub:List QD} {ab:Bool} {col:Option Bool} {dd:Option QI} {k0 k1 k2 k3 k5:Option QD} {B newId nid Wv:String}
theorem CA (F:UN B nid Wv bmB) (T:adg h bmB bm)
  (p:h.get? C=QB (excClassObj nm q C N bs bm hdct sn sub ab col dd k0 k1 k2 k3 k5 newId)) (j:h.get? e=QB ⟨.ref C,QF,.fields fs,#[]⟩) (l:fs[0]? =QB (.ref t0))
  (m:∀h' fs',h'.get? e=QB ⟨.ref C,QF,.fields fs',#[]⟩->fs'[0]? =QB (.ref h.objs.size)->(∀i,i≠0->fs'[i]? =fs[i]?)->(∀b o,b≠e->h.get? b=QB o->h'.get? b=QB o)->Q .none ⟨h',g,d,t,os⟩) (hrest:rest.length<=QU):
  wpAny (model prog w) A (call (.builtin Wv) (.ref e::rest)) Q E ⟨h,g,d,t,os⟩:=by
 refine Vt (To F.init.plain F.initEntry (wpAny_check_init_subU F T p j rfl ?_));unfold RY.«BaseException.__init__»;dsimp only;rw[if_neg (by simp)];unfold newTuple RY.BaseException.bexcPut;have f:=(Rh.mp l).1;have a:(h.push {cls:= .type "tuple",data:= .seq rest.toArray}).get? e=QB ⟨.ref C,QF,.fields fs,#[]⟩:=Heap.get?_push_of_some _ j;refine QE (SS (QE (QE (Ry a rfl l (QE (Si a rfl f ?_))))) (by show rest.toArray.size<=QU;rw[Q1];exact hrest));refine UD (QQ (m _ (fs.setIfInBounds 0 (.ref h.objs.size)) ?_ (by simp[f]) (fun i hi=>by rw[Uz (Ne.symm hi)]) fun b o n z=> ?_))
 ·exact Heap.get?_update_self (Obj.mapFields (·.setIfInBounds 0 (.ref h.objs.size))) a rfl
 ·exact(Heap.get?_update_other _ _ (Ne.symm n)).trans (Heap.get?_push_of_some _ z)
end
end L9
namespace L9
open PySem PySem.Spec PyProof.Rows L2
def Po (v:V):Prop:=v= .Te\/∃i:Int,v= .int i/\i.natAbs.log2<1920
theorem Jd {i:Int} (h:i.natAbs.log2<1920):(Str.ofString (toString i)).length<=5000:=by have e:=int_text_length_le (by decide) h;rw[PySem.ofString_length];omega
theorem MY (I:Inv X pins σ H s) (r:RelV v u) (f:Po v)
  (h:∀(y:Str) (t:Tok) (s':QL),y.length<=5000->Inv X pins σ H s'->Q (.str y t) s'):wpAny (model X.prog X.w) A (formatField u Str.empty) Q E s:=by
 rcases f with rfl|⟨i,rfl,hi⟩
 ·obtain rfl:=r;exact wpAny_formatField_none (h _ _ _ (by decide) (I.tok _))
 ·obtain⟨t,rfl⟩:=r;exact formatField_int_small hi (h _ _ _ (Jd hi) (I.tok _))
def PJ (X:Cx) (es:List RN) (n:Nat) (t:L2.St->Hp->(Hp->Prop)->Prop):Prop:=
 ∀(pins:List (QI×Obj)) (s:QL) (σ:L2.St) (H:Hp) (out:Str) (Q:Hp->Prop),Inv X pins σ H s->out.length+n<=1000000->t σ H Q->
  wpAny (model X.prog X.w) X.A (joinParts out (evalEach es X.env)) (fun v s'=>∃(y:Str) (tk:Tok) (H':Hp),v= .str y tk/\Inv X pins σ H' s'/\Q H') X.xe s
section
variable {X:Cx} {e:RN} {es:List RN} {n:Nat} {te:TE} {t:L2.St->Hp->(Hp->Prop)->Prop} {pos:Pos}
theorem LV:PJ X [] 0 (fun _ H Q=>Q H):=by intro pins s σ H out Q I a h;exact joinParts_nil ⟨_,_,H,rfl,I.tok _,h⟩ (by rw[Tn];omega)
theorem NY (b:x.length<=5000) (a:PJ X es n t):PJ X (.Constant (.str x) k pos::es) (n+5000) t:=by intro pins s σ H out Q I f h;refine joinParts_consE (joinParts_cons (Calls.Constant_str ?_));have e:=ahU out x;exact⟨by rw[Tn];omega,a pins _ σ H (out++x) Q (I.tok _) (by omega) h⟩
theorem Mu (b:PE X e te) (a:PJ X es n t):PJ X (.FormattedValue e (-1) QF pos::es) (n+5000) (fun σ H Q=>te σ H fun v H1=>Po v/\t σ H1 Q):=by intro pins s σ H out Q I l h;refine joinParts_consE (joinParts_cons (FormattedValue_plain (cG (b pins s σ H _ I h) fun u s1 ⟨v,H1,g,r,f,q⟩=> ?_)));refine MY g r f fun y tk s' j i=> ?_;have e:=ahU out y;exact⟨by rw[Tn];omega,a pins _ σ H1 (out++y) Q i (by omega) q⟩
theorem Js (h:PJ X (e::e2::es) n t) (hn:n<=900000):PE X (.JoinedStr (e::e2::es) pos) (fun σ H Q=>t σ H fun H1=>∀y:Str,Q (.str y) H1):=by intro pins s σ H Q I a;refine JoinedStr_many (cG (h pins s σ H Str.empty _ I (by show 0+n<=1000000;omega) a) fun v s1 ⟨y,tk,H1,b,f,q⟩=> ?_);subst b;exact⟨.str y,H1,f,⟨_,rfl⟩,q y⟩
end
def Jy (C e:QI):Heap->Prop:=fun h=>∃fs t0,h.get? e=QB ⟨.ref C,QF,.fields fs,#[]⟩/\fs[0]? =QB (.ref t0)/\fs[1]? =QB .none
def Op (C e p:QI):Heap->Prop:=fun h=>∃fs a0,h.get? e=QB ⟨.ref C,QB p,.fields fs,#[]⟩/\fs[0]? =QB a0/\fs[1]? =QB .none
structure XC (K:QC) (C B fI:QI):Prop where
 obj:∃nm q N bs sn sub ab col dd k0 k1 k2 k3 k5,K.lookup C=QB (excClassObj nm q C N bs (.ref B::Hn) QG sn sub ab col dd k0 k1 k2 k3 k5 "ValueError.__new__")/\XG K N=QG/\QZ K N "__init__"=QB (QB (.ref fI))
 base:Wi K B Hn "ValueError.__new__"=QG
 sa:Rr K (.ref C) "__setattr__"=QB (QB (.builtin "object.__setattr__"))
theorem xG {K:QC} (q:Wi K B Hn n=QG):VX K Hn (.ref B::Hn)=QG:=by
 unfold Wi at q;split at q
 ·rename_i dd cd sl ho
  split at q
  ·simp only[Rn,beq_iff_eq,Bool.not_eq_true'] at q;obtain⟨⟨⟨⟨⟨_,_⟩,_⟩,_⟩,Sa⟩,a⟩:=q;unfold VX;dsimp only;rw[ho];dsimp only;rw[Sa,a,show VX K Hn Hn=QG from by unfold VX;rw[beq_self_eq_true,Uu],beq_self_eq_true,TK,TK,U3]
  ·cases q
 ·cases q
section
variable {X:Cx} {B C fI:QI} {pos p1 p2:Pos} {a1:RN} {as:List RN} {t:TA} {b:Str}
theorem GX (h:H a=QB o):bv H a o=H:=by
 funext c;by_cases z:c=a
 ·rw[z,aC,h]
 ·rw[aA z]
def LQ (C:QI) (t:TA):TE:=fun σ H Q=>t σ H fun vs H1=>∃e y,vs=[.ref e,.str y]/\H1 e=QB (.ext (Jy C e))/\Q .Te H1
theorem E3 {pl:Sem Bool} (R:Gl X b) (hm:X.mg b=QB (.ref B)) (M:Xs X.K B (.type "type")=QG) (S:Xt X.K (.ref B) (.type "type") "__init__"=QB (.val (.builtin "ValueError.__init__")))
  (L:Uk X.K (.ref B) "__getattribute__"=QB (QB (.builtin "type.__getattribute__"))) (m:XC X.K C B fI) (ha:PA X (a1::as) t)
  (dg:Q9 (a1::as) X.env=(QN,eval a1 X.env)::Q9 as X.env:=by rfl) (Xl:(backTo pos (Q9 as X.env)).any (·.1)=QN:=by rfl) (Ya:(b==("__debug__":Str))=QN:=by decide)
  (J:eval (.Call (.Attribute (.Name b p1) "__init__" p2) (a1::as) [] pos) X.env=(do
   let ov<-eval (.Name b p1) X.env
   standAt p2.atName
   let(f,first)<-holding [ov] (getMethod ov "__init__" pl)
   callWith pos f first (backTo pos (Q9 (a1::as) X.env)) (backToKw pos (keywordEach [] X.env))):=by rfl):
  PE X (.Call (.Attribute (.Name b p1) "__init__" p2) (a1::as) [] pos) (LQ C t):=by
 intro pins s σ H Q I h;refine VO (pl:=pl) (jb I R hm ?_ Ya) J;refine PySem.W.method_cls I.UT L (PySem.W.cls_value I.UT M S (by decide) ?_);have n:=ha pos pins {s with toks:=s.toks+1} σ H _ (I.tok _) h;rw[dg] at n⊢;refine Calls.callWith_builtin (by show(QN||(backTo pos (Q9 as X.env)).any (·.1))=QN;rw[Xl]<;>rfl) (Calls.evalArgs_plain (cG n fun us s2 ⟨vs,H2,a,r,e,y,ev,j,q⟩=> ?_));subst ev;obtain⟨u1,u2,rfl,r1,F⟩:=oB r;obtain rfl:u1= .ref e:=r1;obtain⟨tk,rfl⟩:=F;obtain⟨⟨fs,t0,g1,Z,Y⟩,_,gk⟩:=(show ObjOk X.prog X.w H2 s2.heap e (.ext (Jy C e)) from a.Sa e _ j);obtain⟨nm,q',N,bs,sn,sub,ab,col,dd,k0,k1,k2,k3,k5,G,Sa,P⟩:=m.obj;have T:=Zn a.UT (xG m.base);obtain⟨h2,g,d,i,os⟩:=s2;refine CA TU T (a.UT _ _ G) g1 Z (fun h' fs' l e2 e3 e4=> ?_) (by show 1<=QU;decide);refine⟨.Te,H2,?_,rfl,q⟩;have w:=a.write (x:=e) (e:=e) (o:= .ext (Jy C e)) (h':=h') (t':=i) (by rw[j];exact True.intro) (.inl rfl) (fun b u U z=>e4 b u U z) ⟨_,l⟩ ⟨⟨fs',_,l,e2,by rw[e3 1 (by decide)];exact Y⟩,⟨_,l⟩,fun h1 h2 ⟨f1,E,A,v,p⟩ O=>⟨f1,E,O _ A,v,p⟩⟩;rw[GX j] at w;exact w
def Oc (C:QI) (f:Str) (ta tv:TE):TS:=fun D σ H=>tv σ H fun v H1=>ta σ H1 fun x H2=>∃e,x= .ref e/\H2 e=QB (.ext (Jy C e))/\∀p,H2 p=QF->p≠e->D.nx σ (bv (bv H2 e (.ext (Op C e p))) p (.xd [(f,v)]))
theorem HK (A:XC X.K C B fI) (hn:Rr X.K (.ref C) f=QB QF) (ha:PE X o ta) (R:PE X value tv) (S:Ss value (QB (.Attribute o f pos')) pos.line X.env=pure QN):PS X (.Assign [.Attribute o f pos'] value pos) (Oc C f ta tv):=by
 intro pins s σ H D I h;refine Yb (cG (R pins s σ H _ I h) fun u s1 ⟨v,H1,I1,rv,q⟩=>cG (ha pins s1 σ H1 _ I1 q) fun ov s2 ⟨x,H2,l,M,e,ex,j,O⟩=> ?_) S;subst ex;obtain rfl:=M;obtain⟨⟨fs,t0,E,g2,Z⟩,_,gk⟩:=(show ObjOk X.prog X.w H2 s2.heap e (.ext (Jy C e)) from l.Sa e _ j);obtain⟨nm,q',N,bs,sn,sub,ab,col,dd,k0,k1,k2,k3,k5,Q,Sa,U⟩:=A.obj;obtain⟨cd,Y,p,r⟩:∃cd,Wj X.K C=QB cd/\cd.mro= .ref C:: .ref B::Hn/\cd.hasDict=QG:=by unfold Wj;rw[Q];exact⟨_,rfl,rfl,rfl⟩
 refine JA l.UT Y p r A.sa hn E fun h' Ze t e2 m=> ?_;have P:=Se (Heap.lt_size E);have pn:=l.Sa.fresh (QS _);refine⟨σ,_,?_,O s2.heap.objs.size pn P⟩;have there:∀b o,s2.heap.get? b=QB o->b≠s2.heap.objs.size:=fun b o z=>Ra (Heap.lt_size z);refine l.un ⟨fun b o z n _ _=>m b o (fun y=>by rw[y,j] at n;cases n) z,fun b o z n _ _=>⟨o.slots,m b o (fun y=>by rw[y,j] at n;cases n) z⟩,fun b o z n _=> ?_,fun b o z _=> ?_,fun b xs z=> ?_,fun b o u z=> ?_,fun b ps z=>⟨#[],?_⟩⟩ ?_
 ·rw[aA (there b o z),aA (fun y=>by rw[y,j] at n;cases n)];exact n
 ·by_cases y:b=e
  ·subst y;exact⟨_,t⟩
  ·exact⟨o,m b o y z⟩
 ·rw[aA (fun y=>by rw[y,pn] at z;cases z),aA (fun y=>by rw[y,j] at z;cases z)];exact z
 ·rw[aA (fun y=>by rw[y,pn] at z;cases z),aA (fun y=>by rw[y,j] at z;cases z)];exact z
 ·rw[aA (fun y=>by rw[y,pn] at z;cases z),aA (fun y=>by rw[y,j] at z;cases z),z];simp
 ·intro a o z
  by_cases ya:a=s2.heap.objs.size
  ·subst ya
   rw[aC] at z;cases z;refine⟨_,e2,fun g=> ?_⟩;show Vf (match g==f with|true=>QB v|false=>TB g []) (if g=f then QB u else QF);cases i:g==f with
   |true=>rw[if_pos (beq_iff_eq.mp i)];exact rv
   |false=>rw[if_neg (fun w=>by rw[beq_iff_eq.mpr w] at i;cases i)];exact True.intro
  ·rw[aA ya] at z
   by_cases yb:a=e
   ·subst yb;rw[aC] at z;cases z;exact⟨⟨fs,_,t,g2,Z⟩,⟨_,t⟩,fun h1 h2 ⟨f1,L,J,G,F⟩ T=>⟨f1,L,T _ J,G,F⟩⟩
   ·rw[aA yb] at z
    have own:∀b,H2 b=QB (.own a)->b≠e/\b≠s2.heap.objs.size:=fun b y=>⟨(fun k=>by rw[k,j] at y;cases y),(fun k=>by rw[k,pn] at y;cases y)⟩;refine(l.Sa a o z).U9 (fun b w i y=>m b w (fun k=> ?_) y) (fun b y=>by rw[aA (own b y).2,aA (own b y).1];exact y) fun b xs y=>by rw[aA (fun k=>by rw[k,pn] at y;cases y),aA (fun k=>by rw[k,j] at y;cases y)];exact y
    rcases i with i|i
    ·exact yb (i.symm.trans k)
    ·exact(own b i).1 k
end
end L9
namespace L9
open PySem PySem.Spec PyProof.Rows L2 L4
noncomputable def N8 (H:Hp) (e:QI):Hp:=fun a=>if a=e then QF else H a
theorem rb:N8 H e e=QF:=if_pos rfl
theorem ja (h:a≠e):N8 H e a=H a:=if_neg h
theorem zt {K:QC} (X:K.In h) (G:h.Ns N mg) (e:QZ K N n=QB (QB v)):mg n=QB v:=by
 obtain⟨o,es,f,a,hd,_,b⟩:=G;unfold QZ at e;split at e
 ·rename_i es' ep' sl' ho'
  have:=(X _ _ ho').symm.trans a;cases this;cases hd;split at e
  ·rename_i en he;cases e;rw[<-b];unfold nsFind findBy;rw[<-Z7,he];rfl
  ·split at e<;>cases e
 ·cases e
theorem M5 {K:QC} (i:TY K (.ref f)=QG) (l:K.lookup f=QB o):o.cls= .type "function":=by unfold TY Th at i;dsimp only at i;rw[l] at i;exact QX (beq_iff_eq.mp i)
section
variable {X:Cx} {pins:List (QI×Obj)} {σ:L2.St} {H:Hp} {s:QL} {h':Heap} {e:QI} {o:HO}
theorem Hr (I:L2.Inv X pins σ H s) (k:∀b u,s.heap.get? b=QB u->h'.get? b=QB u) (n:s.heap.get? e=QF) (new:ObjOk X.prog X.w (bv H e o) h' e o):L2.Inv X pins σ (bv H e o) {s with heap:=h',toks:=t'}:=by
 have hn:=w6 I.Sa n;have ne:∀b u,s.heap.get? b=QB u->b≠e:=fun b u z y=>by rw[y,n] at z;cases z
 refine I.un ⟨fun b u z _ _ _=>k b u z,fun b u z _ _ _=>⟨u.slots,k b u z⟩,fun b u z q _=>by rw[aA (ne b u z)];exact q,fun b u z _=>⟨u,k b u z⟩,fun b xs z=> ?_,fun b u v z=> ?_,fun b ps z=>⟨#[],?_⟩⟩ ?_
 ·rw[aA (fun y=>by rw[y,hn] at z;cases z)];exact z
 ·rw[aA (fun y=>by rw[y,hn] at z;cases z)];exact z
 ·rw[aA (fun y=>by rw[y,hn] at z;cases z),z];simp
 ·intro a u z
  by_cases y:a=e
  ·subst y;rw[aC] at z;cases z;exact new
  ·rw[aA y] at z;refine(I.Sa a u z).U9 (fun b w _ q=>k b w q) (fun b q=>by rw[aA (fun w=>by rw[w,hn] at q;cases q)];exact q) fun b xs q=>by rw[aA (fun w=>by rw[w,hn] at q;cases q)];exact q
theorem IU (I:L2.Inv X pins σ H s) (f:H e=QB (.ext φ)):L2.Inv X pins σ (N8 H e) s:=by
 have:=I.un (t':=s.toks) (H':=N8 H e) ⟨fun b u z _ _ _=>z,fun b u z _ _ _=>⟨u.slots,z⟩,fun b u z q _=> ?_,fun b u z _=>⟨u,z⟩,fun b xs z=> ?_,fun b u v z=> ?_,fun b ps z=>⟨#[],?_⟩⟩ ?_
 ·exact this
 ·by_cases y:b=e
  ·rw[y];exact rb
  ·rw[ja y];exact q
 ·rw[ja (fun y=>by rw[y,f] at z;cases z)];exact z
 ·rw[ja (fun y=>by rw[y,f] at z;cases z)];exact z
 ·rw[ja (fun y=>by rw[y,f] at z;cases z),z];simp
 ·intro a u z
  have y:a≠e:=fun y=>by rw[y,rb] at z;cases z
  rw[ja y] at z;exact(I.Sa a u z).U9 (fun b w _ q=>q) (fun b q=>by rw[ja (fun w=>by rw[w,f] at q;cases q)];exact q) fun b xs q=>by rw[ja (fun w=>by rw[w,f] at q;cases q)];exact q
end
def AY (C:QI) (sp:Sp) (E:XK) (ta:TA):TS:=fun _ σ H=>ta σ H fun vs H1=>vs.length<=QU/\∀e,H1 e=QF->sp (.ref e::(vs++[])) (bv H1 e (.ext (Jy C e))) (fun v H2=>v= .Te/\∃p,H2 e=QB (.ext (Op C e p))/\E (.ref C) (QB p) (N8 H2 e)) E0
theorem CW {K:QC}
  (S:XC K C B fI) (M:K.lookup fI=QB oI) (iI:TY K (.ref fI)=QG) (FI:FnOk P w K mg base di k fI fdI ps sp) (bI:Binds K fdI ps [])
  (hr:S9 (k+1) (eT (i8 P w) P w K mg base N qual scope f cd A outer s0 H0 E).A)
  (hg:Gl (eT (i8 P w) P w K mg base N qual scope f cd A outer s0 H0 E) x) (hm:mg x=QB (.ref C)) (ha:PA (eT (i8 P w) P w K mg base N qual scope f cd A outer s0 H0 E) (e0::es) ta)
  (Ya:(x==("__debug__":Str))=QN:=by decide)
  (Q:Q9 (e0::es) (eT (i8 P w) P w K mg base N qual scope f cd A outer s0 H0 E).env=(QN,eval e0 (eT (i8 P w) P w K mg base N qual scope f cd A outer s0 H0 E).env)::Q9 es (eT (i8 P w) P w K mg base N qual scope f cd A outer s0 H0 E).env:=by rfl)
  (Xl:(backTo Uo (Q9 es (eT (i8 P w) P w K mg base N qual scope f cd A outer s0 H0 E).env)).any (·.1)=QN:=by rfl):
  PS (eT (i8 P w) P w K mg base N qual scope f cd A outer s0 H0 E) (.Raise (QB (.Call (.Name x np) (e0::es) [] Uo)) QF pos) (AY C sp E ta):=by
 intro pins s σ H D I h;obtain⟨nm,qn,Nn,bs,sn,sub,ab,col,dd,k0,k1,k2,k3,k5,L,Sa,l⟩:=S.obj;have kin:=I.ok.mod.kin;have oC:=kin _ _ L;have J:=Heap.Ns.of_isNs (PySem.W.isNs_of_in kin Sa);have ni:=zt kin J l;have oF:=kin _ _ M;have T:=Zn kin (xG S.base);refine ye (nm:=nm) (q:=qn) (N:=Nn) (bs:=bs) (hdct:=QG) (sn:=sn) (sub:=sub) (ab:=ab) (col:=col) (dd:=dd) (k0:=k0) (k1:=k1) (k2:=k2) (k3:=k3) (k5:=k5) TU (by decide+kernel) TU (T.hasType TU.hasBase) (I.ok.hd rfl)
  (by rw[Q];exact(Vq _).trans Xl) ni (M5 iI M) (jb I hg hm ⟨rfl,?_⟩ Ya)
 have go:=ha Uo pins s σ H _ I h;rw[Q] at go⊢;refine Calls.evalArgs_plain (cG go fun us s1 ⟨vs,H1,b,r,hl,q⟩=> ?_);refine⟨rfl,by rw[<-r.length];exact hl,b.bk _ _ oC,J.keeps b.bk,b.bk _ _ oF,T.keeps b.bk,fun h' e g=> ?_⟩;obtain⟨t,y,y2,y3⟩:=g.there;have hn:=w6 b.Sa g.new;have O:=q e hn;have n:=Hr (t':=s1.toks) (o:= .ext (Jy C e)) b g.keeps g.new ⟨⟨_,t,y,rfl,rfl⟩,⟨_,y⟩,fun h1 h2 ⟨f1,t1,z1,z2,Z⟩ hk=>⟨f1,t1,hk _ z1,z2,Z⟩⟩;have G:Vals (V.ref e::(vs++[])) (QD.ref e::(us++[])):= .cons rfl (r.append .nil);have i:(QD.ref e::us++[]).length=ps.length:=by have z:=G.length;rw[FI.len _ _ _ _ O] at z;exact z.symm
 have j:s0.heap.get? e=QF:=by
  cases z:s0.heap.get? e with
  |none=>rfl
  |some o=>obtain⟨o',F⟩:=b.base.there e o z (fun y=>nomatch y);rw[g.new] at F;cases F
 have Y:=bI {heap:=h',gens:=s1.gens,drawn:=s1.drawn,toks:=s1.toks,os:=s1.os} (QD.ref e::us) n.UT i;rw[abl] at Y;refine Vt (Vj (FI.run _ (eT (i8 P w) P w K mg base N qual scope f cd A outer s0 H0 E).stack _ _ ⟨QD.ref e::us,[]⟩ (QD.ref e::(us++[])) _ _ E0 (hr.make C us []) (n.abM.make C us []) Y G O) fun r s' a=> ?_);cases r with
 |error e=>exact a.elim
 |ok fl=>
  cases fl with
  |ret u=>obtain⟨v,H',m,rv,ev,p,R,q3⟩:=n.after a;subst ev;obtain⟨⟨fs,a0,X,g2,U⟩,_,_⟩:=(show ObjOk _ _ H' s'.heap e (.ext (Op C e p)) from m.Sa e _ R);refine⟨rv,_,m.UT _ _ L,X,rfl,⟨fs,rfl,U⟩,?_⟩;exact Lg (hd:=QF) (IU m R) ⟨_,_,X,rfl,rfl,rfl,g2,U⟩ j (fun T z=>nomatch z) rb (fun T z=>nomatch z) q3
  |next=>exact False.elim a
  |brk=>exact False.elim a
  |cont=>exact False.elim a
end L9
namespace L9
open PySem PySem.Spec PySem.W PyProof.Rows L2 L3 L4
section
variable {prog:Q7} {w:Rv} {A:Rp} {E:QD->QL->Prop} {h:Heap} {g:Array Wd} {d:aas} {t:Nat} {os:Za} {a C:QI} {o:Obj} {K:QC} {od:Option Obj} {name:Str} {v:QD}
  {n1 q1:Str} {N1:QI} {b1 m1:List QD} {d1:Bool} {s1:List Str} {u1:List QD} {a1:Bool} {c1:Option Bool} {x1:Option QI} {i0 i1 i2 i3 i5:Option QD} {id1:String}
theorem zF (X:K.In h) (I:TN h a o C od) (b:findObj K C od name=QB (.value v))
  (k:Q (.done (.ret v)) ⟨h,g,d,t,os⟩):wpAny (model prog w) A (RY.«object.__getattribute__» ⟨[.ref a,.str name tk],[]⟩) Q E ⟨h,g,d,t,os⟩:=by
 have f:=I.type (M:=model prog w);have e:=looks_find (M:=model prog w) X I b;refine QE (QQ (QE (QQ (QE (f.at (QE (e.at ?_)))))));exact QQ k
theorem CV (X:K.In h) (I:TN h a o C od) (m:h.get? C=QB (excClassObj n1 q1 C N1 b1 m1 d1 s1 u1 a1 c1 x1 i0 i1 i2 i3 i5 id1)) (l:m1.contains (.type "BaseException")=QG)
  (l1:findIn K (.ref C) "__getattribute__"=QB (QB (.builtin "BaseException.__getattribute__"))) (e:findIn K (.ref C) "__getattr__"=QB QF) (j:findObj K C od name=QB (.value v)) (i:handedIn v=QG)
  (k:Q v ⟨h,g,d,t+1,os⟩):wpAny (model prog w) A (getAttr (.ref a) name expr) Q E ⟨h,g,d,t,os⟩:=by
 have r:=TJ.ga.bind (.ref a);have b:(QD.builtin "BaseException.__getattribute__"==QD.builtin "object.__getattribute__")=QN:=by decide+kernel
 have q:(onTheHeap (QD.ref C)&&QD.builtin "BaseException.__getattribute__"==QD.builtin "object.__getattribute__")=QN:=by rw[b];rfl
 have p:=I.type (M:=model prog w);have n:=looks_findIn (M:=model prog w) X l1;have L2:=looks_findIn (M:=model prog w) X e;unfold getAttr getAttrBy
 repeat (any_goals (first|assumption|with_reducible refine p.at ?_|with_reducible refine n.at ?_|with_reducible refine L2.at ?_|wp_step))
 rw[show(expr&&onTheHeap (QD.builtin "BaseException.__getattribute__"))=QN from by cases expr<;>rfl,if_neg QV];unfold boundAndCalled
 repeat (any_goals (first|assumption|wp_step))
 refine To TJ.ga.plain F.entry_bexc_ga (qM m l I.at_ I.cls (zF X I j ?_));have f:=handedOut_of i;show wpAny _ _ (handedOut v) _ _ _;rw[f];exact QQ k
end
def KG (K:QC) (ta:TE) (f:Str):TE:=fun σ H Q=>ta σ H fun x H1=>∃e ob C m p fs v,x= .ref e/\H1 e=QB (.frz ob (.own e))/\ob.cls= .ref C/\ob.dict=QB p/\notCls ob=QG/\V4 K C m/\hasDictIn K C=QG/\findIn K (.ref C) f=QB QF/\
 H1 p=QB (.xd fs)/\fs.lookup f=QB v/\Q v H1
theorem uU (E:PE X o ta) (G:attributeBase o f X.env (eval o X.env)=eval o X.env):PE X (.Attribute o f pos) (KG X.K ta f):=by intro pins s σ H Q I h;refine BR G (cG (E pins s σ H _ I h) fun u s1 ⟨x,H1,a,j,e,ob,C,m,p,fs,v,ex,J,F,hd,hn,L,B,ha,hp,l,q⟩=> ?_);subst ex;obtain rfl:=j;have z:=(a.Sa e _ J).1;obtain⟨mA,ns,rel⟩:=(show ObjOk X.prog X.w H1 s1.heap p (.xd fs) from a.Sa p _ hp);obtain⟨M,r,i⟩:=Vf.some_of (by rw[<-l];exact rel f);obtain⟨od,y,A⟩:=ub ns;obtain⟨_,_,_,_,_,_,_,_,_,_,_,_,_,_,_,_,n⟩:=L.cl;obtain⟨b,g,d,t,os⟩:=s1;exact CV a.UT (⟨z,F,hn,by rw[hd];exact y⟩:TN b e ob C (QB od)) (a.UT _ _ n) L.be L.ga L.gt (findObj_own B ha rfl (by rw[A,r])) (tZ i) ⟨v,H1,a.tok _,i,q⟩
noncomputable def wj (C:QI) (f:Str):Sp:=fun vs H Q _=>∃e v,vs=[.ref e,v]/\Po v/\H e=QB (.ext (Jy C e))/\∀p,H p=QF->p≠e->Q .Te (bv (bv H e (.ext (Op C e p))) p (.xd [(f,v)]))
noncomputable def OQ:D->Bool
 | .none=>QG
 | .int i=>decide (i.natAbs.log2<1920)
 |_=>QN
end L9
namespace L3
open PySem PySem.Spec PyProof.Rows L2
mutual
noncomputable def Qn:QJ->Bool
 | .tuple ds=>LN ds
 | .int _=>QG
 | .str _=>QG
 | .bool _=>QG
 | .none=>QG
 |_=>QN
noncomputable def LN:List QJ->Bool
 |[]=>QG
 |d::r=>Qn d&&LN r
end
section
variable {K:QC} {E:XK} {B:ce} {H0:Hp} {O B':ce} {σ:L2.St} {H H':Hp} {ρ:a8}
theorem Hz (h:Vx K H a xs) (l:H a=QB (.lst ys)):Vx K (fun _=>QF) a xs:=by
 rcases h with(h|⟨o,h⟩)|h
 ·rw[l] at h;cases h
 ·rw[l] at h;cases h
 ·exact .inr h
mutual
theorem Jx (f:∀b,O b->¬B' b->∃ys,H b=QB (.lst ys)):∀{v:V} {d:D},DV B' K H v d->Qn d=QG->DV O K H v d
 |_,_,.Te,_=> .Te
 |_,_,.bl b,_=> .bl b
 |_,_,.int i,_=> .int i
 |_,_,.str x,_=> .str x
 |_,_,.tup (a:=a) h hs,e=> .tup ⟨h.1,fun z=>by
   by_cases y:B' a
   ·exact h.2 y
   ·obtain⟨ys,q⟩:=f a z y;exact Hz h.1 q⟩ (xZ f hs e)
 |_,_,.lst h hs,e=>by cases e
theorem xZ (a:∀b,O b->¬B' b->∃ys,H b=QB (.lst ys)):∀{vs:List V} {ds:List D},SY B' K H vs ds->LN ds=QG->SY O K H vs ds
 |_,_,.nil,_=> .nil
 |_,_,.cons h hs,e=>by have f:=Bool.and_eq_true_iff.mp e;exact .cons (Jx a h f.1) (xZ a hs f.2)
end
end
end L3
namespace PySem
end PySem
namespace PyProof.Rows
open PySem
section
variable {prog:Q7} {w:Rv} {A:Rp} {E:QD->QL->Prop} {s:QL}
theorem qA (b:h.get? a=QB (seqObj "list" vs.toArray n)):∃e,(sortedHeap h a vs out).get? a=QB (seqObj "list" out e):=by have h1:=get?_update_seq b (fun _=> #[]);exact⟨_,get?_update_seq (Heap.get?_push_of_some _ (Heap.get?_push_of_some _ h1)) _⟩
theorem oG (f:b≠a) (e:h.get? b=QB o):(sortedHeap h a vs out).get? b=QB o:=
 (Heap.get?_update_other _ _ (Ne.symm f)).trans (Heap.get?_push_of_some _ (Heap.get?_push_of_some _ ((Heap.get?_update_other _ _ (Ne.symm f)).trans e)))
theorem yS {l:QI} {vs:List QD} {ns:List Int} {Q:QD->QL->Prop} (i:s.heap.IsTuple l vs.toArray) (t:IntsAre vs ns) (g:vs.length<64)
  (h:∀(h1 h':Heap) (out:Array QD) (e:Nat) (a:List Int),(∀b o,s.heap.get? b=QB o->h1.get? b=QB o)->h'.get? h1.objs.size=QB (seqObj "list" out e)->(∀b o,h1.get? b=QB o->h'.get? b=QB o)->IntsAre out.toList a->a.Perm ns->a.Pairwise (·<=·)->Q (.ref h1.objs.size) {s with heap:=h'}):
  wpAny (model prog w) A (call (.builtin "sorted") [.ref l]) Q E s:=by
 obtain⟨o,j,r,n,hd⟩:=i;refine Calls.call_function_entry kind_sorted plain_sorted entry_sorted (args_sorted1 _) (QE (m:=checkCount "sorted" 1 1 _) (QQ (QE (wpAny_collect_seq l (.inr rfl) j r hd (fun h1 p=>QE (ahV ?_)) (by rw[Q1,Tn];omega)))));have f:(h1.push (seqObj "list" vs.toArray 0)).get? h1.objs.size=QB (seqObj "list" vs.toArray 0):=Heap.get?_push_size _ rfl;refine QE (Tu (Uh slot_list_sort ⟨_,f,rfl⟩ entry_list_sort (list_sort_tree f t g fun out a a1 v u=>⟨_,rfl,QQ ⟨_,rfl,?_⟩⟩) (args_list_sort _)));obtain⟨e,q⟩:=qA (out:=out) f;exact h h1 _ out e a p q (fun b o' z=>oG (Ra (Heap.lt_size z)) (Heap.get?_push_of_some _ z)) a1 v u
end
end PyProof.Rows
namespace L9
open PySem PySem.Spec PyProof.Rows L2 L3
section
variable {K:QC} {E:XK}
theorem u9:T4 X (.builtin "sorted") (fun xs H Q=>∃(p:QI) (ns:List Int),xs=[.ref p]/\Vx X.K H p (ns.map V.int)/\ns.length<64/\∀(l:QI) (a:List Int),H l=QF->a.Perm ns->a.Pairwise (·<=·)->Q (.ref l) (bv H l (.lst (a.map V.int)))):=by
 intro pins s σ H xs us Q I r h;obtain⟨p,ns,rfl,j,t,q⟩:=h;obtain⟨u,rfl,g⟩:=lz r;cases g;obtain⟨RE,rv,pl,w⟩:=I.tuple j;have m:=rv.length;rw[QH] at m;refine yS pl (lZ rv) (by omega) fun h1 h' out e a n o v hi hp i=> ?_;have b:=hp.length_eq;have f:=I.kept (t':=s.toks) n;refine⟨.ref h1.objs.size,_,f.laid v (QS _) ?_,rfl,q _ a (f.Sa.fresh (QS _)) hp i⟩;refine⟨?_,out.toList,e,iZ hi,o⟩;rw[QH,b];have:(64:Nat)<=QU:=by decide
 omega
theorem vG:T4 X (.builtin "sorted") (fun xs H Q=>(∃(p:QI) (ns:List Int),xs=[.ref p]/\VD X.K H p (ns.map V.int)/\ns.length<64/\∀(l:QI) (a:List Int),H l=QF->a.Perm ns->a.Pairwise (·<=·)->Q (.ref l) (bv H l (.lst (a.map V.int))))\/
  (∃(p:QI) (ns:List Int),xs=[.ref p]/\Vx X.K H p (ns.map V.int)/\ns.length<64/\∀(l:QI) (a:List Int),H l=QF->a.Perm ns->a.Pairwise (·<=·)->Q (.ref l) (bv H l (.lst (a.map V.int))))):=L2.T4.or yt u9
noncomputable def gK:List D->Option RV
 |[.tuple ds]=>(match nc ds with
  |some ns=>if ns.length<64 then QB (.ow ((jS ns).map .int)) else QF
  |none=>QF)
 |ds=>u0 ds
theorem yG:Hm K (fun xs H Q=>(∃(p:QI) (ns:List Int),xs=[.ref p]/\VD K H p (ns.map V.int)/\ns.length<64/\∀(l:QI) (b:List Int),H l=QF->b.Perm ns->b.Pairwise (·<=·)->Q (.ref l) (bv H l (.lst (b.map V.int))))\/
  (∃(p:QI) (ns:List Int),xs=[.ref p]/\Vx K H p (ns.map V.int)/\ns.length<64/\∀(l:QI) (b:List Int),H l=QF->b.Perm ns->b.Pairwise (·<=·)->Q (.ref l) (bv H l (.lst (b.map V.int))))) gK:=by
 intro O H xs ds rv Q n hp e q;unfold gK at e;split at e
 ·split at e
  ·rename_i ns hs
   split at e
   ·rename_i hn
    cases e;cases hp with
    |cons h1 h2=>cases h2;obtain⟨a,vs,rfl,g,i⟩:=Hl h1;rw[pA i hs] at g;refine .inr ⟨a,ns,rfl,g.1,hn,fun l b h f dg=> ?_⟩;have j:=kX (f.trans (eK ns).symm) dg (dX ns);subst j;exact q.new (pV _) l h
   ·cases e
  ·cases e
 ·exact .inl (uq O H xs ds rv Q n hp e q)
end
end L9
namespace L9
open PySem PySem.W PyProof.Rows Builtin Builtin.ObjectAttr
open PySem.Spec L2
open L3 L4
end L9
namespace LD
open PySem PyProof.Rows L2 L3
mutual
noncomputable def kd:QJ->Bool
 | .none=>QG
 | .int _=>QG
 | .str x=>QJ.strOk x
 | .tuple xs=>kds xs
 |_=>QN
noncomputable def kds:List QJ->Bool
 |[]=>QG
 |x::r=>kd x&&kds r
end
noncomputable def keyD:QJ->Bool
 | .tuple xs=>kds xs&&decide ((QJ.tuple xs).depth<=8)
 |_=>QN
mutual
theorem kd_lay:∀d:QJ,kd d=QG->d.canLay0=QG
 | .none,_=>rfl
 | .int _,_=>rfl
 | .str x,h=>by unfold QJ.canLay0;unfold kd at h;exact h
 | .tuple xs,h=>by unfold QJ.canLay0;unfold kd at h;exact Bp xs h
 | .bool _,h| .list _,h| .dict _,h=>by simp[kd] at h
theorem Bp:∀xs:List QJ,kds xs=QG->QJ.canLayAll0 xs=QG
 |[],_=>rfl
 |x::r,h=>by unfold kds at h;rw[Rn] at h;unfold QJ.canLayAll0;rw[kd_lay x h.1,Bp r h.2];rfl
end
mutual
theorem Fx:∀d e:QJ,kd d=QG->kd e=QG->QJ.eqv d e=QG->d=e
 | .none,e,_,h,q=>by cases e<;>simp_all [kd,QJ.eqv]
 | .int i,e,_,h,q=>by cases e<;>simp_all [kd,QJ.eqv]
 | .str x,e,_,h,q=>by cases e<;>simp_all [kd,QJ.eqv]
 | .tuple xs,e,g,h,q=>by
  cases e with
  |tuple ys=>rw[QJ.eqv] at q;unfold kd at g h;rw[Bq xs ys g h q]
  |_=>simp_all [kd,QJ.eqv]
 | .bool _,_,h,_,_| .list _,_,h,_,_| .dict _,_,h,_,_=>by simp[kd] at h
theorem Bq:∀xs ys:List QJ,kds xs=QG->kds ys=QG->QJ.eqvAll xs ys=QG->xs=ys
 |[],[],_,_,_=>rfl
 |[],_::_,_,_,q=>by simp[QJ.eqvAll] at q
 |_::_,[],_,_,q=>by simp[QJ.eqvAll] at q
 |x::xs,y::ys,g,h,q=>by unfold kds at g h;rw[QJ.eqvAll] at q;rw[Rn] at g h q;rw[Fx x y g.1 h.1 q.1,Bq xs ys g.2 h.2 q.2]
end
theorem DW [Decidable (d=e)] (hd:kd d=QG) (a:kd e=QG):QJ.eqv d e=decide (d=e):=by
 by_cases q:d=e
 ·subst q;rw[decide_eq_true rfl];exact SeqAt.eqv_refl d (kd_lay d hd)
 ·rw[decide_eq_false q]
  cases z:QJ.eqv d e with
  |false=>rfl
  |true=>exact absurd (Fx d e hd a z) q
theorem eA (h:keyD d=QG):kd d=QG/\d.depth<=8:=by
 cases d with
 |tuple xs=>unfold keyD at h;rw[Rn] at h;exact⟨by unfold kd;exact h.1,of_decide_eq_true h.2⟩
 |_=>simp[keyD] at h
mutual
noncomputable def qS (w:Rv):QJ->Int
 | .none=>reduceHash 0xFCA86420
 | .int i=>hashInt i
 | .str x=>hashStr w x
 | .tuple xs=>reduceHash (RY.Tuple.tupleHashOf (qp w xs))
 |_=>0
noncomputable def qp (w:Rv):List QJ->List Int
 |[]=>[]
 |x::r=>qS w x::qp w r
end
mutual
noncomputable def Ps:QJ->Nat
 | .tuple xs=>HM xs+1
 |_=>1
noncomputable def HM:List QJ->Nat
 |[]=>0
 |x::r=>Ps x+HM r
end
section
variable {prog:Q7} {w:Rv} {E:QD->QL->Prop}
mutual
theorem B5:∀(d:QJ) (v:QD) (as:List QI) (A:Rp) (s:QL) (Q:Int->QL->Prop),kd d=QG->abu s.heap v d as->A.units+d.depth<cLine->Q (qS w d) {s with toks:=s.toks+Ps d}->wpAny (model prog w) A (pyHash v) Q E s
 | .none,_,_,A,s,Q,_,r,hu,h=>by cases r;exact Zb (T:= "NoneType") rfl F.slot_NoneType_hash F.entry_NoneType_hash (F.args_NoneType_hash_1 _) (adW _) (.inr (by omega)) (QE (QQ (QE (wpAny_mkInt (QQ ⟨_,_,rfl,h⟩)))))
 | .int i,_,_,A,s,Q,_,r,_,h=>by cases r;exact adJ h
 | .str x,_,_,A,s,Q,_,r,_,h=>by cases r;exact adK h
 | .tuple xs,_,_,A,s,Q,hk,r,hu,h=>by
  cases r with
  | @tuple a o vs n _ _ h1 h2 h3 h4=>
   refine Zb (T:= "tuple") ⟨_,h1,h2⟩ F.slot_tuple_hash F.entry_tuple_hash (F.args_tuple_hash_1 _) (adW _) (.inr (by omega)) ?_;show wpAny _ _ (RY.Tuple.tupleItemsOf (.ref a)>>=_) _ _ s;refine QE (wpAny_tupleItemsOf h1 h3 ?_);refine QE ?_;rw[<-aab];unfold kd at hk;refine tQ xs vs.toList _ A.in1 s #[] _ hk h4 (by simp only[QJ.depth,Rp.in1_units] at hu⊢;omega) fun b e=> ?_;show wpAny _ _ (retInt (RY.Tuple.tupleHashOf b.toList)) _ _ _;rw[e];refine QE (wpAny_mkInt (QQ ⟨_,_,rfl,?_⟩));unfold qS Ps at h
   simpa [UR] using h
 | .bool _,_,_,_,_,_,h,_,_,_| .list _,_,_,_,_,_,h,_,_,_| .dict _,_,_,_,_,_,h,_,_,_=>by simp[kd] at h
theorem tQ:∀(xs:List QJ) (vs:List QD) (as:List QI) (A:Rp) (s:QL) (b:Array Int) (Q:Array Int->QL->Prop),kds xs=QG->Zl s.heap vs xs as->A.units+QJ.depthAll xs<cLine->
  (∀b':Array Int,b'.toList=b.toList++qp w xs->Q b' {s with toks:=s.toks+HM xs})->
  wpAny (model prog w) A (forIn vs b fun x r=>do let h<-pyHash x;pure PUnit.unit;pure (ForInStep.yield (r.push h))) Q E s
 |[],_,_,A,s,b,Q,_,x,_,h=>by cases x;exact QQ (h b (by simp[qp]))
 |k::xs,_,_,A,s,b,Q,hk,x,hu,h=>by
  cases x with
  |cons x1 x2=>
   unfold kds at hk;simp only[Rn,QJ.depthAll] at hk hu;rw[UW];refine QE (QE (B5 k _ _ A s _ hk.1 x1 (by omega) ?_));refine QE (QQ (QQ ?_));refine tQ xs _ _ A _ _ Q hk.2 x2 (by omega) fun b' a=> ?_;have:=h b' (by simp[a,qp]);unfold HM at this
   simpa [UR] using this
end
theorem wH:∀(n:Nat) (d:QJ) (v:QD) (as:List QI) (A:Rp) (s:QL) (Q:Bool->QL->Prop),kd d=QG->abu s.heap v d as->d.depth<=n->Q QG s->wpAny (model prog w) A (eqIsQuiet n v) Q E s
 |n,.none,_,_,A,s,Q,_,r,_,h=>by cases r;rw[X8 _ rfl];exact QQ h
 |n,.int i,_,_,A,s,Q,_,r,_,h=>by cases r;rw[X8 _ rfl];exact QQ h
 |n,.str i,_,_,A,s,Q,_,r,_,h=>by cases r;rw[X8 _ rfl];exact QQ h
 |0,.tuple xs,_,_,A,s,Q,hk,r,hn,h=>by simp only[QJ.depth] at hn;omega
 |n+1,.tuple xs,_,_,A,s,Q,hk,r,hn,h=>by
  cases r with
  | @tuple a o vs m _ _ h1 h2 h3 h4=>
   have e:s.TypeIs (.ref a) "tuple":=⟨_,h1,h2⟩;simp only[QJ.depth] at hn;unfold eqIsQuiet;refine QE (aeY e F.slot_tuple_eq.lookup ?_);refine QE (Yj e isSubtype_tuple_tuple ?_);simp only[YG,Ui,if_false];refine QE (Sv h1 h3 ?_);refine QE ?_;rw[<-aab];unfold kd at hk;refine wpAny_forIn_list _ (fun rest r s'=>r.1=QF/\s'=s/\∃ys bs,kds ys=QG/\Zl s.heap rest ys bs/\QJ.depthAll ys<=n) _ ?_ ?_ _ _ ⟨rfl,rfl,xs,_,hk,h4,by omega⟩
   ·rintro v rest r s' ⟨b,rfl,ys,bs,k1,k2,k3⟩
    cases k2 with
    | @cons _ _ y ys' _ _ g1 g2=>unfold kds at k1;simp only[Rn,QJ.depthAll] at k1 k3;refine QE (wH n y v _ A s' _ k1.1 g1 (by omega) ?_);simp only[YG,Ui,if_false];exact QQ ⟨rfl,rfl,ys',_,k1.2,g2,by omega⟩
   ·rintro⟨r1,f⟩ s' ⟨b,rfl,_⟩;simp only at b;subst b;exact QQ h
 |_,.bool _,_,_,_,_,_,h,_,_,_|_,.list _,_,_,_,_,_,h,_,_,_|_,.dict _,_,_,_,_,_,h,_,_,_=>by simp[kd] at h
end
mutual
theorem uu {h h':Heap} {x:QI} {ob:Obj} {es:Array UB} {g:Nat} (b:h.get? x=QB ob) (f:ob.data= .dict es g) (e:Heap.SameBut x h h'):∀(d:QJ) (v:QD) (as:List QI),kd d=QG->abu h v d as->abu h' v d as
 | .none,_,_,_,r=>by cases r;exact .none
 | .int _,_,_,_,r=>by cases r;exact .int _ _
 | .str _,_,_,_,r=>by cases r;exact .str _ _
 | .tuple xs,_,_,k,r=>by
  cases r with
  | @tuple a o vs n _ _ h1 h2 h3 h4=>
   have i:a≠x:=by rintro rfl;rw[b] at h1;cases h1;rw[f] at h3;exact nomatch h3
   unfold kd at k;exact .tuple ((e.2 a i).trans h1) h2 h3 (rF b f e xs _ _ k h4)
 | .bool _,_,_,h,_| .list _,_,_,h,_| .dict _,_,_,h,_=>by simp[kd] at h
theorem rF {h h':Heap} {x:QI} {ob:Obj} {es:Array UB} {f:Nat} (a:h.get? x=QB ob) (e:ob.data= .dict es f) (b:Heap.SameBut x h h'):∀(ds:List QJ) (vs:List QD) (as:List QI),kds ds=QG->Zl h vs ds as->Zl h' vs ds as
 |[],_,_,_,r=>by cases r;exact .nil
 |d::ds,_,_,k,r=>by
  cases r with
  |cons r1 r2=>unfold kds at k;rw[Rn] at k;exact .cons (uu a e b d _ _ k.1 r1) (rF a e b ds _ _ k.2 r2)
end
abbrev KD:={d:QJ//keyD d=QG}
noncomputable instance kdDec:DecidableEq KD:=fun _ _=>Classical.propDecidable _
noncomputable def gY (prog:Q7) (w:Rv):HeapKind prog w KD where
 is:=fun h k a=>∃as,abu h (.ref a) k.1 as
 hash:=fun k=>qS w k.1
 draws:=fun k=>Ps k.1
 room:=fun A=>A.units+8<cLine
 inj:=fun⟨_,r⟩ ⟨_,r'⟩=>Subtype.ext (abu.unique r _ _ r').1
 keeps:=fun{h h' k a d o es ep} ⟨as,r⟩ ho hd hs=>⟨as,uu ho hd hs k.1 _ _ (eA k.2).1 r⟩
 pyHash:=fun{A E s k a Q} hu ⟨as,r⟩ q=>B5 k.1 _ as A s Q (eA k.2).1 r (by have:=(eA k.2).2;omega) q
 eqBool:=fun{A E s x y a b Q} hu ⟨as,r⟩ ⟨bs,r'⟩ q=>SeqAt.eqAt_reads x.1 y.1 A s _ _ as bs r r' (kd_lay _ (eA x.2).1) (kd_lay _ (eA y.2).1) (by have:=(eA x.2).2;omega) prog w E Q (by
  haveI:Decidable (x.1=y.1):=Classical.propDecidable _
  rw[DW (eA x.2).1 (eA y.2).1];by_cases e:x=y
  ·rw[decide_eq_true e] at q;rw[decide_eq_true (congrArg Subtype.val e)];exact q
  ·rw[decide_eq_false e] at q;rw[decide_eq_false fun z=>e (Subtype.ext z)];exact q)
 quiet:=fun{A E s k a Q} ⟨as,r⟩ q=>wH 8 k.1 _ as A s Q (eA k.2).1 r (eA k.2).2 q
def Qs (a:QI) (xs:List (KD×QI×V)) (w:Rv) (h:Heap):Prop:=
 (xs.length<=QU/\(a==S8)=QN/\(xs.map (·.1)).Nodup)/\∃o es ep,h.get? a=QB o/\o.ExactDict/\o.data= .dict es ep/\Paired (fun(x:KD×QI×V) (e:UB)=>e.hash=qS w x.1.1/\e.key= .ref x.2.1/\RelV x.2.2 e.val) xs es.toList
noncomputable abbrev DkO (a:QI) (xs:List (KD×QI×V)):HO:= .exw (Qs a xs)
noncomputable abbrev PrD (O:ce) (K:QC) (H:Hp):List (KD×QI×V)->List (D×D)->Prop:=
 Paired fun x a=>x.1.1=a.1/\L3.DV O K H (.ref x.2.1) a.1/\L3.DV O K H x.2.2 a.2
end LD
namespace L10
open PySem L2 L3
inductive AV where
 |fz (d:D)
 |rf (i:Nat)
inductive SV where
 |fz (d:D)
 |rf (i:Nat)
 |tp (l:List AV)
noncomputable def AV.sv:AV->SV
 | .fz d=> .fz d
 | .rf i=> .rf i
inductive Cell where
 |lst (xs:List SV)
 |WN (Rc:List (cD×SV))
 |obj (C:Str) (fs:List (Str×SV))
 |dd (Rc:List (D×D))
 |dead
abbrev aX:=List Cell
abbrev bu:=List (Option SV)
inductive RS (α:Type) where
 |ok (a:α) (Z:aX)
 |er (x:Xc) (Z:aX)
 |bad
noncomputable def RS.bind (r:RS α) (f:α->aX->RS β):RS β:=match r with
 | .ok a Z=>f a Z
 | .er x Z=> .er x Z
 | .bad=> .bad
noncomputable def RS.RO (Z:aX):Option α->RS α
 |some a=> .ok a Z
 |none=> .bad
theorem RS.bind_ok (a:α) (Z:aX) (f:α->aX->RS β):(RS.ok a Z).bind f=f a Z:=rfl
noncomputable def Lv (α:List QI) (Z:aX):ce:=fun b=>∃(i:Nat) (c:Cell),α[i]? =QB b/\Z[i]? =QB c/\c≠Cell.dead
noncomputable def ow (B:ce) (α:List QI) (Z:aX):ce:=fun b=>B b\/Lv α Z b
section
variable (O:ce) (K:QC) (H:Hp) (α:List QI)
def AOk (v:V):AV->Prop
 | .fz d=>DV O K H v d
 | .rf i=>∃a,α[i]? =QB a/\v= .ref a
def Ur (v:V):SV->Prop
 | .fz d=>DV O K H v d
 | .rf i=>∃a,α[i]? =QB a/\v= .ref a
 | .tp l=>∃a xs,v= .ref a/\V3 O K H a xs/\Paired (AOk O K H α) xs l
noncomputable abbrev T5:List V->List SV->Prop:=Paired (Ur O K H α)
def COk (a:QI):Cell->Prop
 | .lst xs=>∃vs,H a=QB (.lst vs)/\T5 O K H α vs xs
 | .WN Rc=>∃ws:List (cD×V),H a=QB (.dK ws)/\Paired (fun(p:cD×V) (q:cD×SV)=>p.1=q.1/\Ur O K H α p.2 q.2) ws Rc
 | .obj C fs=>∃Ca dx ws,QZ K QW C=QB (QB (.ref Ca))/\H a=QB (.ins Ca dx ws)/\Paired (fun(p:Str×V) (q:Str×SV)=>p.1=q.1/\Ur O K H α p.2 q.2) ws fs
 | .dd Rc=>∃xs,H a=QB (LD.DkO a xs)/\LD.PrD O K H xs Rc
 | .dead=>True
def Ud (σ:L2.St) (ρ:bu):Prop:=σ.length=ρ.length/\∀(i:Nat) (x:SV),ρ[i]? =QB (QB x)->∃v,σ[i]? =QB (QB v)/\Ur O K H α v x
end
structure Rq (B:ce) (K:QC) (H:Hp) (α:List QI) (Z:aX):Prop where
 len:α.length=Z.length
 nd:∀(i j:Nat) (a:QI),α[i]? =QB a->α[j]? =QB a->i=j
 bn:∀a,B a->H a≠QF
 ba:∀a,B a->∀i:Nat,α[i]?≠QB a
 al:∀(i:Nat) (a:QI),α[i]? =QB a->H a≠QF
 X3:∀(i:Nat) (a:QI) (c:Cell),α[i]? =QB a->Z[i]? =QB c->COk (ow B α Z) K H α a c
structure SR (α:List QI) (Z:aX) (H:Hp) (α':List QI) (Z':aX) (H':Hp):Prop where
 pre:∀(i:Nat) (a:QI),α[i]? =QB a->α'[i]? =QB a
 kp:∀b o,H b=QB o->¬Lv α Z b->H' b=QB o
 lv:∀b,Lv α' Z' b->Lv α Z b\/H b=QF
section
variable {B O O':ce} {K:QC} {E:XK} {H H' H1 H2:Hp} {α α' α1 α2:List QI} {Z Z' Z1 Z2:aX} {σ:L2.St} {ρ:bu} {v:V}
theorem SR.refl:SR α Z H α Z H:=⟨fun _ _ h=>h,fun _ _ h _=>h,fun _ h=> .inl h⟩
theorem SR.trans (a:SR α Z H α1 Z1 H1) (b:SR α1 Z1 H1 α2 Z2 H2):SR α Z H α2 Z2 H2:=by
 have n1:∀b o,H b=QB o->¬Lv α Z b->¬Lv α1 Z1 b:=fun b o h n z=>(a.lv b z).elim n fun q=>by rw[h] at q;cases q
 refine⟨fun i p h=>b.pre i p (a.pre i p h),fun p o h n=>b.kp p o (a.kp p o h n) (n1 p o h n),fun p h=> ?_⟩;rcases b.lv p h with h|h
 ·exact a.lv p h
 ·cases q:H p with
  |none=>exact .inr rfl
  |some o=>refine .inl (Classical.byContradiction fun n=> ?_);rw[a.kp p o q n] at h;cases h
theorem SR.same (s:SD H H'):SR α Z H α Z H':=⟨fun _ _ h=>h,fun b o h _=>s b o h,fun _ h=> .inl h⟩
theorem SR.ev (e:SR α Z H α' Z' H'):Ev (ow B α Z) H (ow B α' Z') H':=fun b o h n=>
 ⟨e.kp b o h fun z=>n (.inr z),fun z=>z.elim (fun q=>n (.inl q)) fun q=>(e.lv b q).elim (fun q=>n (.inr q)) fun q=>by rw[h] at q;cases q⟩
theorem AOk.ev (e:Ev O H O' H') (p:∀(i:Nat) (a:QI),α[i]? =QB a->α'[i]? =QB a) (h:AOk O K H α v x):AOk O' K H' α' v x:=by
 cases x with
 |fz d=>exact DV.ev e h
 |rf i=>obtain⟨a,h1,h2⟩:=h;exact⟨a,p i a h1,h2⟩
theorem Ur.ev (e:Ev O H O' H') (p:∀(i:Nat) (a:QI),α[i]? =QB a->α'[i]? =QB a) (h:Ur O K H α v x):Ur O' K H' α' v x:=by
 cases x with
 |fz d=>exact DV.ev e h
 |rf i=>obtain⟨a,h1,h2⟩:=h;exact⟨a,p i a h1,h2⟩
 |tp l=>obtain⟨a,xs,h1,h2,b⟩:=h;exact⟨a,xs,h1,h2.ev e,Paired.Vg b fun _ _ q=>q.ev e p⟩
theorem Ur.TC (e:SR α Z H α' Z' H') (h:Ur (ow B α Z) K H α v x):Ur (ow B α' Z') K H' α' v x:=h.ev e.ev e.pre
theorem T5.TC (e:SR α Z H α' Z' H') (h:T5 (ow B α Z) K H α vs xs):T5 (ow B α' Z') K H' α' vs xs:=Paired.Vg h fun _ _ q=>q.TC e
theorem Ud.TC (e:SR α Z H α' Z' H') (h:Ud (ow B α Z) K H α σ ρ):Ud (ow B α' Z') K H' α' σ ρ:=⟨h.1,fun i x q=>let⟨v,h1,h2⟩:=h.2 i x q;⟨v,h1,h2.TC e⟩⟩
theorem COk.ev (e:Ev O H O' H') (p:∀(i:Nat) (a:QI),α[i]? =QB a->α'[i]? =QB a) (ha:∀o,H a=QB o->H' a=QB o) (h:COk O K H α a c):COk O' K H' α' a c:=by
 cases c with
 |lst xs=>obtain⟨vs,h1,h2⟩:=h;exact⟨vs,ha _ h1,Paired.Vg h2 fun _ _ q=>q.ev e p⟩
 |WN Rc=>obtain⟨ws,h1,h2⟩:=h;exact⟨ws,ha _ h1,Paired.Vg h2 fun _ _ q=>⟨q.1,q.2.ev e p⟩⟩
 |obj C fs=>obtain⟨f,dx,ws,b,h1,h2⟩:=h;exact⟨f,dx,ws,b,ha _ h1,Paired.Vg h2 fun _ _ q=>⟨q.1,q.2.ev e p⟩⟩
 |dd Rc=>obtain⟨xs,h1,h2⟩:=h;exact⟨xs,ha _ h1,Paired.Vg h2 fun _ _ q=>⟨q.1,q.2.1.ev e,q.2.2.ev e⟩⟩
 |dead=>trivial
theorem Rq.Y2 (s:Rq B K H α Z):rm (ow B α Z) H:=fun a h z=>z.elim (fun q=>s.bn a q h) fun⟨i,c,q,_⟩=>s.al i a q h
theorem Rq.owd (s:Rq B K H α Z):∀a,ow B α Z a->H a≠QF:=fun a z h=>s.Y2 a h z
theorem Rq.grow (s:Rq B K H α Z) (e:SD H H'):Rq B K H' α Z:=by have n:∀a,H a≠QF->H' a≠QF:=fun a h z=>h (e.free z);exact⟨s.len,s.nd,fun a h=>n a (s.bn a h),s.ba,fun i a h=>n a (s.al i a h),fun i a c h1 h2=>(s.X3 i a c h1 h2).ev (Ev.grow e) (fun _ _ h=>h) fun o h=>e _ _ h⟩
theorem Rq.at (s:Rq B K H α Z) {i:Nat} (h:Z[i]? =QB c):∃a,α[i]? =QB a:=by have:i<Z.length:=(QK.mp h).1;rw[<-s.len] at this;exact⟨_,QR this⟩
theorem Rq.abP (s:Rq B K H α Z) {i:Nat} (h:α[i]? =QB a):¬B a:=fun z=>s.ba a z i h
theorem uJ {i:Nat} {c f:Cell} (h:Z[i]? =QB c) (g:c≠ .dead) (l:f≠ .dead) {b:QI}:Lv α (Z.set i f) b↔Lv α Z b:=by
 constructor
 ·rintro⟨j,d,h1,h2,a⟩
  rcases b8 h2 with⟨rfl,rfl⟩|⟨_,h2⟩
  ·exact⟨j,c,h1,h,g⟩
  ·exact⟨j,d,h1,h2,a⟩
 ·rintro⟨j,d,h1,h2,a⟩
  by_cases e:j=i
  ·subst e;exact⟨j,f,h1,by rw[Sh (QK.mp h).1],l⟩
  ·exact⟨j,d,h1,by rw[RA (fun z=>e z.symm)];exact h2,a⟩
theorem DJ (h:Z[i]? =QB c) (a:c≠ .dead) (e:c'≠ .dead):ow B α (Z.set i c')=ow B α Z:=by funext b;exact propext ⟨fun z=>z.imp id (uJ h a e).mp,fun z=>z.imp id (uJ h a e).mpr⟩
theorem SR.put (ha:α[i]? =QB a) (h:Z[i]? =QB c) (f:c≠ .dead) (g:c'≠ .dead):SR α Z H α (Z.set i c') (bv H a o):=
 ⟨fun _ _ h=>h,fun b o' q n=>by have z:b≠a:=fun e=>n ⟨i,c,by rw[e];exact ha,h,f⟩;rw[aA z];exact q,fun b z=> .inl ((uJ h f g).mp z)⟩
theorem Rq.put (s:Rq B K H α Z) (ha:α[i]? =QB a) (h:Z[i]? =QB c) (f:c≠ .dead) (g:c'≠ .dead) (new:COk (ow B α Z) K (bv H a o) α a c'):Rq B K (bv H a o) α (Z.set i c'):=by
 have e:SR α Z H α (Z.set i c') (bv H a o):=SR.put ha h f g;have n:∀b,H b≠QF->bv H a o b≠QF:=fun b h=>by
  by_cases z:b=a
  ·subst z;rw[aC];simp
  ·rw[aA z];exact h
 refine⟨by rw[R8];exact s.len,s.nd,fun b h=>n b (s.bn b h),s.ba,fun j b h=>n b (s.al j b h),fun j b d h1 h2=> ?_⟩;rcases b8 h2 with⟨rfl,rfl⟩|⟨WW,h2⟩
 ·rw[ha] at h1;cases h1;rw[DJ h f g];exact new
 ·exact(s.X3 j b d h1 h2).ev e.ev e.pre fun u q=>by rw[aA (fun z=>WW (s.nd j i a (by rw[<-z];exact h1) ha))];exact q
theorem n9 {i:Nat} {a:QI} {c:Cell} {o:HO} (ha:α[i]? =QB a) (h:Z[i]? =QB c) (b:c≠ .dead):Ev (ow B α Z) H (ow B α Z) (bv H a o):=Ev.mut (.inr ⟨i,c,ha,h,b⟩) o
theorem bx {α:Type} {l:List α} {x y:α} {i:Nat} (h:(l++[x])[i]? =QB y):l[i]? =QB y\/(i=l.length/\y=x):=by
 by_cases hi:i<l.length
 ·rw[Rg hi] at h;exact .inl h
 ·rw[Ru (by omega)] at h
  cases q:i - l.length with
  |zero=>rw[q] at h;cases h;exact .inr ⟨by omega,rfl⟩
  |succ n=>rw[q] at h;cases h
theorem d6 {α:Type} {l:List α} {x y:α} {i:Nat} (h:l[i]? =QB y):(l++[x])[i]? =QB y:=by rw[Rg (QK.mp h).1];exact h
theorem bh:(l++[x])[l.length]? =QB x:=by simp
theorem qN (e:α.length=Z.length) (h:Lv (α++[p]) (Z++[c]) b):Lv α Z b\/b=p:=by
 obtain⟨i,d,h1,h2,a⟩:=h;rcases bx h1 with h1|⟨e1,e2⟩
 ·rcases bx h2 with h2|⟨e1,e2⟩
  ·exact .inl ⟨i,d,h1,h2,a⟩
  ·have:=(QK.mp h1).1;omega
 ·exact .inr e2
theorem SR.Y5 (f:α.length=Z.length) (s:SD H H') (hp:H p=QF):SR α Z H (α++[p]) (Z++[c]) H':=
 ⟨fun i a h=>d6 h,fun b u q _=>s b u q,fun b z=>(qN f z).imp id fun e=>by rw[e];exact hp⟩
theorem Rq.Y5 (s:Rq B K H α Z) (e:SD H H') (hp:H p=QF) (f:H' p≠QF) (new:COk (ow B (α++[p]) (Z++[c])) K H' (α++[p]) p c):Rq B K H' (α++[p]) (Z++[c]):=by
 have ev:SR α Z H (α++[p]) (Z++[c]) H':=SR.Y5 s.len e hp;have n:∀b,H b≠QF->H' b≠QF:=fun b h z=>h (e.free z);refine⟨by rw[QM,QM,s.len];rfl,fun i j a h1 h2=> ?_,fun a h=>n a (s.bn a h),fun a h i q=> ?_,fun i a h=> ?_,fun i a d h1 h2=> ?_⟩
 ·rcases bx h1 with g1|⟨e1,e2⟩<;>rcases bx h2 with g2|⟨e3,e4⟩
  ·exact s.nd i j a g1 g2
  ·exact absurd (by rw[e4];exact hp) (s.al i a g1)
  ·exact absurd (by rw[e2];exact hp) (s.al j a g2)
  ·omega
 ·rcases bx q with q|⟨_,e2⟩
  ·exact s.ba a h i q
  ·subst e2;exact s.bn a h hp
 ·rcases bx h with h|⟨_,e2⟩
  ·exact n a (s.al i a h)
  ·subst e2;exact f
 ·rcases bx h2 with h2|⟨e1,e2⟩
  ·rcases bx h1 with h1|⟨e1,_⟩
   ·exact(s.X3 i a d h1 h2).ev ev.ev ev.pre fun o q=>e _ _ q
   ·have:=(QK.mp h2).1;have:=s.len;omega
  ·rcases bx h1 with h1|⟨_,e3⟩
   ·have:=(QK.mp h1).1;have:=s.len;omega
   ·subst e2 e3;exact new
def WS (K:QC) (E:XK) (B:ce) (H:Hp) (α:List QI) (Z:aX) (P:A->List QI->aX->Hp->Prop):RS A->Prop
 | .ok a Z'=>∀α' H',SR α Z H α' Z' H'->Rq B K H' α' Z'->P a α' Z' H'
 | .er x Z'=>∀c dx α' H',SR α Z H α' Z' H'->Rq B K H' α' Z'->XOk K (ow B α' Z') H' c dx x->E c dx H'
 | .bad=>False
theorem WS.from (e:SR α Z H α1 Z1 H1) (h:WS K E B H α Z P r):WS K E B H1 α1 Z1 P r:=by
 cases r with
 |ok a Z2=>exact fun α2 H2 b s2=>h α2 H2 (e.trans b) s2
 |er x Z2=>exact fun c dx α2 H2 b s2=>h c dx α2 H2 (e.trans b) s2
 |bad=>exact h
theorem WS.bind (h:WS K E B H α Z P (r.bind k)):WS K E B H α Z (fun a α1 Z1 H1=>WS K E B H1 α1 Z1 P (k a Z1)) r:=by
 cases r with
 |ok a Z1=>exact fun α1 H1 b _=>WS.from b h
 |er x Z1=>exact h
 |bad=>exact h
theorem WS.RO (h:WS K E B H α Z P ((RS.RO Z o).bind k)):∃a,o=QB a/\WS K E B H α Z P (k a Z):=by
 cases o with
 |none=>exact h.elim
 |some a=>exact⟨a,rfl,h⟩
theorem WS.imp (h:WS K E B H α Z P r) (g:∀a α' Z' H',SR α Z H α' Z' H'->Rq B K H' α' Z'->P a α' Z' H'->P' a α' Z' H'):WS K E B H α Z P' r:=by
 cases r with
 |ok a Z1=>exact fun α1 H1 b s1=>g a α1 Z1 H1 b s1 (h α1 H1 b s1)
 |er x Z1=>exact h
 |bad=>exact h
theorem WS.now (s:Rq B K H α Z) (h:WS K E B H α Z P (.ok a Z)):P a α Z H:=h α H .refl s
end
abbrev dh:=bu->aX->RS SV
abbrev sU:=bu->aX->RS Bool
abbrev yy:=bu->aX->RS (List SV)
def cJ (K:QC) (E:XK) (t:TE) (f:dh):Prop:=
 ∀(B:ce) (σ:L2.St) (H:Hp) (α:List QI) (Z:aX) (ρ:bu) (Q:VK),Rq B K H α Z->Ud (ow B α Z) K H α σ ρ->WS K E B H α Z (fun x α' Z' H'=>∀v,Ur (ow B α' Z') K H' α' v x->Q v H') (f ρ Z)->t σ H Q
def tU (K:QC) (E:XK) (t:TT) (f:sU):Prop:=
 ∀(B:ce) (σ:L2.St) (H:Hp) (α:List QI) (Z:aX) (ρ:bu) (Q:Bool->Hp->Prop),Rq B K H α Z->Ud (ow B α Z) K H α σ ρ->WS K E B H α Z (fun b _ _ H'=>Q b H') (f ρ Z)->t σ H Q
def wC (K:QC) (E:XK) (t:TA) (f:yy):Prop:=
 ∀(B:ce) (σ:L2.St) (H:Hp) (α:List QI) (Z:aX) (ρ:bu) (Q:List V->Hp->Prop),Rq B K H α Z->Ud (ow B α Z) K H α σ ρ->WS K E B H α Z (fun xs α' Z' H'=>∀vs,T5 (ow B α' Z') K H' α' vs xs->Q vs H') (f ρ Z)->t σ H Q
section
variable {B O O':ce} {K:QC} {E:XK} {H H' H1 H2:Hp} {α α' α1 α2:List QI} {Z Z' Z1 Z2:aX} {σ:L2.St} {ρ:bu} {v:V}
noncomputable def Lj:Option SV->Option PV
 |some (.fz d)=>QB (.fz d)
 |_=>QF
noncomputable def bF (ρ:bu):a8:=ρ.map Lj
theorem kL {i:Nat} (h:(bF ρ)[i]? =QB (QB x)):∃d,x= .fz d/\ρ[i]? =QB (QB (.fz d)):=by
 unfold bF at h;rw[QT] at h;cases q:ρ[i]? with
 |none=>rw[q] at h;cases h
 |some o=>
  rw[q] at h;have h':=QX h;unfold Lj at h';split at h'
  ·cases h';exact⟨_,rfl,rfl⟩
  ·cases h'
theorem GC (s:Rq B K H α Z) (sl:Ud (ow B α Z) K H α σ ρ):Rl K (ow B α Z) H (ow B α Z) σ H (bF ρ):=by
 refine⟨SD.refl _,fun _ h=>h,s.owd,s.Y2,by unfold bF;rw[QH];exact sl.1,fun i x h=> ?_,fun i j ds es w h=> ?_⟩
 ·obtain⟨d,rfl,hd⟩:=kL h;obtain⟨v,h1,h2⟩:=sl.2 i _ hd;exact⟨v,h1,h2⟩
 ·obtain⟨d,e,_⟩:=kL h;cases e
noncomputable def lr (Z:aX):RV->RS SV
 | .fz d=> .ok (.fz d) Z
 | .ow ds=> .ok (.rf Z.length) (Z++[.lst (ds.map .fz)])
noncomputable abbrev PQ (B:ce) (K:QC) (Q:VK):SV->List QI->aX->Hp->Prop:=fun x α' Z' H'=>∀v,Ur (ow B α' Z') K H' α' v x->Q v H'
theorem i9 (O:ce) (α:List QI):∀{vs:List V} {ds:List D},SY O K H vs ds->T5 O K H α vs (ds.map .fz)
 |_,_,.nil=> .nil
 |_,_,.cons h t=> .cons h (i9 O α t)
theorem D4:∀{vs:List V} {ds:List D},T5 O K H α vs (ds.map .fz)->SY O K H vs ds
 |_,[],.nil=> .nil
 |_,_::_,.cons h t=> .cons h (D4 t)
theorem r8 (s:Rq B K H α Z) (w:WS K E B H α Z (PQ B K Q) (lr Z (.ow ds))) (e:SD H H') (hp:H p=QF) (h:H' p=QB (.lst vs)) (hd:SY O' K H' vs ds) (a:∀b,ow B α Z b->O' b) (f:O' p):Q (.ref p) H':=by
 have sub:∀b,ow B (α++[p]) (Z++[.lst (ds.map .fz)]) b->O' b:=fun b z=>z.elim (fun q=>a b (.inl q)) fun q=>(qN s.len q).elim (fun q=>a b (.inr q)) fun q=>by rw[q];exact f
 exact w (α++[p]) H' (SR.Y5 s.len e hp) (s.Y5 e hp (by rw[h];simp) ⟨vs,h,i9 _ _ (hd.ev (Ev.sub sub))⟩) (.ref p) ⟨p,by rw[<-s.len];exact bh,rfl⟩
theorem Ea (s:Rq B K H α Z) (w:WS K E B H α Z (PQ B K Q) (lr Z rv)):Fin (ow B α Z) K H Q rv:=by
 cases rv with
 |fz d=>exact fun v H' e a=>w α H' (SR.same e) (s.grow e) v a
 |ow ds=>exact fun p vs H' e hp h a=>r8 s w e hp h a (fun b z=> .inl z) (.inr rfl)
noncomputable def ae (f:FE):dh:=fun ρ Z=>match f (bF ρ) with
 | .ok (.fz d,_)=> .ok (.fz d) Z
 | .ok (.ow ds,_)=>lr Z (.ow ds)
 | .ok (.pl _,_)=> .bad
 | .er x=> .er x Z
 | .bad=> .bad
theorem ar (h:EO K E t f):cJ K E t (ae f):=by
 intro B σ H α Z ρ Q s sl w;refine h (ow B α Z) H (ow B α Z) σ H (bF ρ) Q (GC s sl) ?_;unfold ae at w;cases q:f (bF ρ) with
 |bad=>rw[q] at w;exact w.elim
 |er x=>rw[q] at w;exact fun c dx H' e k=>w c dx α H' (SR.same e) (s.grow e) k
 |ok r=>
  obtain⟨pv,ρ'⟩:=r;rw[q] at w;intro O' v H' e R p;cases pv with
  |fz d=>exact w α H' (SR.same R.same) (s.grow R.same) v (DV.ev (Ev.sub R.bo) p)
  |ow ds=>obtain⟨a,vs,rfl,h1,h2,g,b,j⟩:=p;exact r8 s w R.same h2 g b R.bo h1
  |pl i=>exact w.elim
noncomputable def ci (f:FT):sU:=fun ρ Z=>match f (bF ρ) with
 | .ok (b,_)=> .ok b Z
 | .er x=> .er x Z
 | .bad=> .bad
theorem EY (h:Zw K E t f):tU K E t (ci f):=by
 intro B σ H α Z ρ Q s sl w;refine h (ow B α Z) H (ow B α Z) σ H (bF ρ) Q (GC s sl) ?_;unfold ci at w;cases q:f (bF ρ) with
 |bad=>rw[q] at w;exact w.elim
 |er x=>rw[q] at w;exact fun c dx H' e k=>w c dx α H' (SR.same e) (s.grow e) k
 |ok r=>obtain⟨b,ρ'⟩:=r;rw[q] at w;exact fun O' H' e R=>w α H' (SR.same R.same) (s.grow R.same)
noncomputable def aq (i:Nat):dh:=fun ρ Z=>match ρ[i]? with
 |some (QB x)=> .ok x Z
 |_=> .bad
theorem aG:cJ K E (x4 i) (aq i):=by
 intro B σ H α Z ρ Q s sl w;unfold aq at w;cases q:ρ[i]? with
 |none=>rw[q] at w;exact w.elim
 |some o=>
  cases o with
  |none=>rw[q] at w;exact w.elim
  |some x=>rw[q] at w;obtain⟨v,h1,h2⟩:=sl.2 i x q;exact⟨v,h1,WS.now s w v h2⟩
def gu (K:QC) (C:Str) (fs:List Str):Prop:=∃Ca,QZ K QW C=QB (QB (.ref Ca))/\ZE K Ca/\∀f∈fs,Vh K Ca f
noncomputable def bj (C f:Str) (e:dh):dh:=fun ρ Z=>(e ρ Z).bind fun x Z1=>match x with
 | .rf i=>(match Z1[i]? with
  |some (.obj D fs)=>if D=C then RS.RO Z1 (fs.lookup f) else .bad
  |_=> .bad)
 |_=> .bad
theorem tH:∀{ws:List (Str×V)} {fs:List (Str×SV)},Paired (fun(p:Str×V) (q:Str×SV)=>p.1=q.1/\Ur O K H α p.2 q.2) ws fs->fs.lookup f=QB x->∃v,ws.lookup f=QB v/\Ur O K H α v x
 |_,_,.nil,h=>by cases h
 |(a,v)::ws,(b,y)::fs,.cons ⟨h1,h2⟩ t,h=>by
  cases h1;rw[Q5] at h⊢;split at h
  ·cases h;exact⟨v,rfl,h2⟩
  ·exact tH t h
theorem t9:∀{ws:List (Str×V)} {fs:List (Str×SV)},Paired (fun(p:Str×V) (q:Str×SV)=>p.1=q.1/\Ur O K H α p.2 q.2) ws fs->fs.lookup f=QF->ws.lookup f=QF
 |_,_,.nil,h=>rfl
 |(a,v)::ws,(b,y)::fs,.cons ⟨h1,h2⟩ t,h=>by
  cases h1;rw[Q5] at h⊢;split at h
  ·cases h
  ·exact t9 t h
theorem cj (j:gu K C L) (h:f∈L) (ha:cJ K E ta fa):cJ K E (LG K ta f) (bj C f fa):=by
 intro B σ H α Z ρ Q s sl w;refine ha B σ H α Z ρ _ s sl (w.bind.imp fun x α1 Z1 H1 r s1 w1 v e=> ?_);cases x with
 |fz d=>exact w1.elim
 |tp l=>exact w1.elim
 |rf i=>
  obtain⟨a,ha,rfl⟩:=e;dsimp only at w1;cases q:Z1[i]? with
  |none=>rw[q] at w1;exact w1.elim
  |some c=>
   rw[q] at w1;cases c with
   |obj D fs=>
    dsimp only at w1;by_cases z:D=C
    ·subst z
     rw[if_pos rfl] at w1;obtain⟨p,dx,ws,m,h1,h2⟩:=s1.X3 i a _ ha q;cases ql:fs.lookup f with
     |none=>rw[ql] at w1;exact w1.elim
     |some x=>rw[ql] at w1;obtain⟨u,g,b⟩:=tH h2 ql;obtain⟨t,g0,o,n⟩:=j;rw[m] at g0;cases g0;exact⟨a,p,dx,ws,u,rfl,h1,o,n f h,g,WS.now s1 w1 u b⟩
    ·rw[if_neg z] at w1;exact w1.elim
   |_=>exact w1.elim
noncomputable def aJ {α a:Type} (f:α->Option a):List α->Option (List a)
 |[]=>QB []
 |x::r=>match f x with
  |some y=>(match aJ f r with
   |some ys=>QB (y::ys)
   |none=>QF)
  |none=>QF
noncomputable def uT:Nat->aX->SV->Option D
 |_,_,.fz d=>QB d
 |0,_,_=>QF
 |n+1,Z,.rf i=>match Z[i]? with
  |some (.lst xs)=>(aJ (uT n Z) xs).map .list
  |_=>QF
 |n+1,Z,.tp l=>(aJ (fun x=>uT n Z x.sv) l).map .tuple
theorem c8 {α a:Type} {f:α->Option a} {R:V->α->Prop} {S:V->a->Prop} (h:∀v x y,R v x->f x=QB y->S v y):∀{vs:List V} {xs:List α} {ys:List a},Paired R vs xs->aJ f xs=QB ys->Paired S vs ys
 |_,_,_,.nil,e=>by cases e;exact .nil
 |_,_,_,.cons (b:=x) (l₂:=xs) r t,e=>by
  unfold aJ at e;cases q:f x with
  |none=>rw[q] at e;cases e
  |some y=>
   rw[q] at e;dsimp only at e;cases q2:aJ f xs with
   |none=>rw[q2] at e;cases e
   |some ys=>rw[q2] at e;cases e;exact .cons (h _ _ _ r q) (c8 h t q2)
theorem j9:∀{vs:List V} {ds:List D},Paired (DV O K H) vs ds->SY O K H vs ds
 |_,_,.nil=> .nil
 |_,_,.cons h t=> .cons h (j9 t)
theorem Ky:Ev O H Y2 H:=Ev.sub fun _ z=>z.elim
theorem jw (s:Rq B K H α Z):∀(n:Nat) {v:V} {x:SV} {d:D},Ur (ow B α Z) K H α v x->uT n Z x=QB d->DV Y2 K H v d
 |n,v,.fz d',d,h,e=>by
  have b:QB d'=QB d:=by cases n<;>exact e
  cases b;exact DV.ev Ky h
 |0,v,.rf i,d,h,e=>by cases e
 |0,v,.tp l,d,h,e=>by cases e
 |n+1,v,.rf i,d,h,e=>by
  obtain⟨a,ha,rfl⟩:=h;unfold uT at e;cases q:Z[i]? with
  |none=>rw[q] at e;cases e
  |some c=>
   rw[q] at e;cases c with
   |lst xs=>
    dsimp only at e;cases q2:aJ (uT n Z) xs with
    |none=>rw[q2] at e;cases e
    |some ds=>rw[q2] at e;cases e;obtain⟨vs,h1,h2⟩:=s.X3 i a _ ha q;exact .lst ⟨U8.of h1,fun z=>z.elim⟩ (j9 (c8 (R:=Ur (ow B α Z) K H α) (fun v x y r e=>jw s n r e) h2 q2))
   |_=>cases e
 |n+1,v,.tp l,d,h,e=>by
  obtain⟨a,xs,rfl,h1,h2⟩:=h;unfold uT at e;cases q2:aJ (fun x=>uT n Z x.sv) l with
  |none=>rw[q2] at e;cases e
  |some ds=>rw[q2] at e;cases e;exact .tup (h1.ev Ky) (j9 (c8 (fun v x y r e=>jw s n (by cases x<;>exact r) e) h2 q2))
noncomputable def x0:SV->Option D
 | .fz d=>QB d
 |_=>QF
noncomputable def sh (Z:aX):SV->Option D
 | .fz d=>QB d
 | .rf i=>match Z[i]? with
  |some (.lst xs)=>(aJ x0 xs).map .list
  |_=>QF
 | .tp _=>QF
theorem DL (s:Rq B K H α Z) (h:Ur (ow B α Z) K H α v x) (e:sh Z x=QB d):DX (ow B α Z) K H v d:=by
 cases x with
 |fz d'=>cases e;exact DV.x h
 |tp l=>cases e
 |rf i=>
  obtain⟨a,ha,rfl⟩:=h;unfold sh at e;dsimp only at e;cases q:Z[i]? with
  |none=>rw[q] at e;cases e
  |some c=>
   rw[q] at e;cases c with
   |lst xs=>
    dsimp only at e;cases q2:aJ x0 xs with
    |none=>rw[q2] at e;cases e
    |some ds=>
     rw[q2] at e;cases e;obtain⟨vs,h1,h2⟩:=s.X3 i a _ ha q;refine⟨a,vs,rfl,U8.of h1,j9 (c8 (fun v x y r e=> ?_) h2 q2)⟩;cases x with
     |fz d=>cases e;exact r
     |rf i=>cases e
     |tp l=>cases e
   |_=>cases e
noncomputable def zr:D->Bool
 | .none=>QG
 | .bool _=>QG
 | .int _=>QG
 | .str _=>QG
 |_=>QN
theorem Jg (h:zr d=QG) (a:DV O K H v d):DV O' K H' v d:=by
 cases a with
 |Te=>exact .Te
 |bl b=>exact .bl b
 |int i=>exact .int i
 |str x=>exact .str x
 |tup _ _=>cases h
 |lst _ _=>cases h
noncomputable def wT (Z:aX):RV->RS SV
 | .fz d=>if zr d=QG then .ok (.fz d) Z else .bad
 | .ow _=> .bad
theorem FC (s:Rq B K H α Z) (w:WS K E B H α Z (PQ B K Q) (wT Z rv)):Fin Y2 K H Q rv:=by
 cases rv with
 |fz d=>
  have w:WS K E B H α Z (PQ B K Q) (if zr d=QG then RS.ok (SV.fz d) Z else RS.bad):=w;by_cases z:zr d=QG
  ·rw[if_pos z] at w;exact fun v H' e a=>w α H' (SR.same e) (s.grow e) v (Jg z a)
  ·rw[if_neg z] at w;exact w.elim
 |ow ds=>exact w.elim
theorem FQ:rm Y2 H:=fun _ _ z=>z
noncomputable def vI (f:D->D->Option RV) (x y:SV) (Z:aX):RS SV:=match sh Z x,sh Z y with
 |some dx,QB dy=>(RS.RO Z (f dx dy)).bind fun rv Z1=>lr Z1 rv
 |_,_=>(RS.RO Z (uT 6 Z x)).bind fun dx Z1=>(RS.RO Z1 (uT 6 Z1 y)).bind fun dy Z2=>(RS.RO Z2 (f dx dy)).bind fun rv Z3=>wT Z3 rv
theorem GV (l:oj K r f) (s:Rq B K H α Z) (j:Ur (ow B α Z) K H α x a) (i:Ur (ow B α Z) K H α y b) (w:WS K E B H α Z (PQ B K Q) (vI f a b Z)):r x y H Q:=by
 have e:WS K E B H α Z (PQ B K Q) ((RS.RO Z (uT 6 Z a)).bind fun dx Z1=>(RS.RO Z1 (uT 6 Z1 b)).bind fun dy Z2=>(RS.RO Z2 (f dx dy)).bind fun rv Z3=>wT Z3 rv)->r x y H Q:=fun w=>by obtain⟨dx,q1,w⟩:=w.RO;obtain⟨dy,g,w⟩:=w.RO;obtain⟨rv,h,w⟩:=w.RO;exact l Y2 H x y dx dy rv Q FQ (DV.x (jw s 6 j q1)) (DV.x (jw s 6 i g)) h (FC s w)
 unfold vI at w;cases q1:sh Z a with
 |none=>rw[q1] at w;exact e w
 |some dx=>
  cases g:sh Z b with
  |none=>rw[q1,g] at w;exact e w
  |some dy=>rw[q1,g] at w;obtain⟨rv,h,w⟩:=w.RO;exact l _ H x y dx dy rv Q s.Y2 (DL s j q1) (DL s i g) h (Ea s w)
noncomputable def jJ (f:D->D->Option RV) (fa fb:dh):dh:=fun ρ Z=>(fa ρ Z).bind fun x Z1=>(fb ρ Z1).bind fun y Z2=>vI f x y Z2
theorem fO (g:oj K r f) (ha:cJ K E ta fa) (h:cJ K E tb fb):cJ K E (KS r ta tb) (jJ f fa fb):=by intro B σ H α Z ρ Q s sl w;refine ha B σ H α Z ρ _ s sl (w.bind.imp fun x α1 Z1 H1 j s1 w1 v b=> ?_);refine h B σ H1 α1 Z1 ρ _ s1 (sl.TC j) (w1.bind.imp fun y α2 Z2 H2 i s2 a u e=> ?_);exact GV g s2 (b.TC i) e a
noncomputable def IG:SV->Option Bool
 | .fz (.bool b)=>QB b
 |_=>QF
theorem Iy (e:IG x=QB b) (h:Ur O K H α v x):v= .bl b:=by
 unfold IG at e;split at e
 ·cases e;cases h;rfl
 ·cases e
noncomputable def bq (fa:dh):sU:=fun ρ Z=>(fa ρ Z).bind fun x Z1=>RS.RO Z1 (IG x)
theorem fw (ha:cJ K E ta fa):tU K E (GY ta) (bq fa):=by
 intro B σ H α Z ρ Q s sl w;refine ha B σ H α Z ρ _ s sl (w.bind.imp fun x α1 Z1 H1 e s1 w1 v a=> ?_);cases q:IG x with
 |none=>rw[q] at w1;exact w1.elim
 |some b=>rw[q] at w1;exact⟨b,Iy q a,WS.now s1 w1⟩
theorem xF (ha:cJ K E ta fa):tU K E (tB ta) (bq fa):=fw ha
noncomputable def mW (fa fb:sU):sU:=fun ρ Z=>(fa ρ Z).bind fun b Z1=>if b=QG then fb ρ Z1 else .ok QN Z1
noncomputable def xi (fa fb:sU):sU:=fun ρ Z=>(fa ρ Z).bind fun b Z1=>if b=QG then .ok QG Z1 else fb ρ Z1
noncomputable def mx (fa:sU):sU:=fun ρ Z=>(fa ρ Z).bind fun b Z1=> .ok (!b) Z1
theorem Kl (h1:tU K E t f) (h2:tU K E u g):tU K E (LS t u) (mW f g):=by
 intro B σ H α Z ρ Q s sl w;refine h1 B σ H α Z ρ _ s sl (w.bind.imp fun b α1 Z1 H1 a s1 w1=> ?_);cases b with
 |true=>exact h2 B σ H1 α1 Z1 ρ Q s1 (sl.TC a) w1
 |false=>exact WS.now s1 w1
theorem yY (h1:tU K E t f) (h2:tU K E u g):tU K E (Pt t u) (xi f g):=by
 intro B σ H α Z ρ Q s sl w;refine h1 B σ H α Z ρ _ s sl (w.bind.imp fun b α1 Z1 H1 a s1 w1=> ?_);cases b with
 |true=>exact WS.now s1 w1
 |false=>exact h2 B σ H1 α1 Z1 ρ Q s1 (sl.TC a) w1
theorem vT (h1:tU K E t f):tU K E (LM t) (mx f):=by intro B σ H α Z ρ Q s sl w;exact h1 B σ H α Z ρ _ s sl (w.bind.imp fun b α1 Z1 H1 a s1 w1=>WS.now s1 w1)
noncomputable def jC:sU:=fun _ Z=> .ok QG Z
theorem mw:tU K E Gx jC:=fun B σ H α Z ρ Q s sl w=>WS.now s w
noncomputable def Al (fa fb:dh):dh:=fun ρ Z=>(bq fa ρ Z).bind fun b Z1=>if b=QG then fb ρ Z1 else .ok (.fz (.bool QN)) Z1
theorem vq (ha:cJ K E ta fa) (a:cJ K E tb fb):cJ K E (B8 ta tb) (Al fa fb):=by
 intro B σ H α Z ρ Q s sl w;refine fw ha B σ H α Z ρ (fun c H1=>if c=QG then tb σ H1 Q else Q (.bl QN) H1) s sl (w.bind.imp fun b α1 Z1 H1 e s1 w1=> ?_);cases b with
 |true=>exact a B σ H1 α1 Z1 ρ Q s1 (sl.TC e) w1
 |false=>exact WS.now s1 w1 _ (.bl QN)
noncomputable def Nh (c:sU) (fa fb:dh):dh:=fun ρ Z=>(c ρ Z).bind fun b Z1=>if b=QG then fa ρ Z1 else fb ρ Z1
theorem L5 (e:tU K E t c) (ha:cJ K E ta fa) (f:cJ K E tb fb):cJ K E (P6 t ta tb) (Nh c fa fb):=by
 intro B σ H α Z ρ Q s sl w;refine e B σ H α Z ρ _ s sl (w.bind.imp fun b α1 Z1 H1 a s1 w1=> ?_);cases b with
 |true=>exact ha B σ H1 α1 Z1 ρ Q s1 (sl.TC a) w1
 |false=>exact f B σ H1 α1 Z1 ρ Q s1 (sl.TC a) w1
noncomputable def aN:yy:=fun _ Z=> .ok [] Z
noncomputable def aj (fa:dh) (a:yy):yy:=fun ρ Z=>(fa ρ Z).bind fun x Z1=>(a ρ Z1).bind fun xs Z2=> .ok (x::xs) Z2
theorem bG:wC K E mO aN:=fun B σ H α Z ρ Q s sl w=>WS.now s w [] .nil
theorem aF (ha:cJ K E ta fa) (f:wC K E tr fr):wC K E (iq ta tr) (aj fa fr):=by intro B σ H α Z ρ Q s sl w;refine ha B σ H α Z ρ _ s sl (w.bind.imp fun x α1 Z1 H1 h s1 w1 v e=> ?_);refine f B σ H1 α1 Z1 ρ _ s1 (sl.TC h) (w1.bind.imp fun xs α2 Z2 H2 g s2 b vs a=> ?_);exact WS.now s2 b (v::vs) (.cons (e.TC g) a)
noncomputable def Pj:SV->Option AV
 | .fz d=>QB (.fz d)
 | .rf i=>QB (.rf i)
 | .tp _=>QF
noncomputable def Pi (xs:List SV):Option SV:=match aJ x0 xs with
 |some ds=>QB (.fz (.tuple ds))
 |none=>(aJ Pj xs).map .tp
noncomputable def mi (fa:yy):dh:=fun ρ Z=>(fa ρ Z).bind fun xs Z1=>if xs.length<=1000 then RS.RO Z1 (Pi xs) else .bad
theorem zG (r:Ur O K H α v x) (e:x0 x=QB d):DV O K H v d:=by
 cases x with
 |fz d=>cases e;exact r
 |rf i=>cases e
 |tp l=>cases e
theorem ND (r:Ur O K H α v x) (e:Pj x=QB d):AOk O K H α v d:=by
 cases x with
 |fz d=>cases e;exact r
 |rf i=>cases e;exact r
 |tp l=>cases e
theorem pI (ha:wC K E ta fa):cJ K E (Je ta) (mi fa):=by
 intro B σ H α Z ρ Q s sl w;refine ha B σ H α Z ρ _ s sl (w.bind.imp fun xs α1 Z1 H1 h s1 w1 vs b=> ?_);by_cases hn:xs.length<=1000
 ·rw[if_pos hn] at w1
  refine⟨by rw[b.length];exact yB hn,fun p hp=> ?_⟩;have a:SD H1 (bv H1 p (.tup vs)):=bM hp _;have e:SR α1 Z1 H1 α1 Z1 (bv H1 p (.tup vs)):=SR.same a;have g:V3 (ow B α1 Z1) K (bv H1 p (.tup vs)) p vs:=⟨Vx.of aC,fun z=>absurd z (s1.Y2 p hp)⟩;unfold Pi at w1;cases q:aJ x0 xs with
  |some ds=>rw[q] at w1;exact w1 α1 _ e (s1.grow a) _ (.tup g (j9 (c8 (R:=Ur (ow B α1 Z1) K H1 α1) (fun v x y r f=>(zG r f).ev e.ev) b q)))
  |none=>
   rw[q] at w1;dsimp only at w1;cases q2:aJ Pj xs with
   |none=>rw[q2] at w1;exact w1.elim
   |some l=>rw[q2] at w1;exact w1 α1 _ e (s1.grow a) _ ⟨p,vs,rfl,g,c8 (R:=Ur (ow B α1 Z1) K H1 α1) (fun v x y r f=>(ND r f).ev e.ev e.pre) b q2⟩
 ·rw[if_neg hn] at w1;exact w1.elim
noncomputable def EJ (f:List D->Option RV) (xs:List SV) (Z:aX):RS SV:=match aJ (sh Z) xs with
 |some ds=>(RS.RO Z (f ds)).bind fun rv Z1=>lr Z1 rv
 |_=>(RS.RO Z (aJ (uT 6 Z) xs)).bind fun ds Z1=>(RS.RO Z1 (f ds)).bind fun rv Z3=>wT Z3 rv
noncomputable def sO (f:List D->Option RV) (fa:yy):dh:=fun ρ Z=>(fa ρ Z).bind fun xs Z1=>EJ f xs Z1
theorem gr (g:Hm K r f) (ha:wC K E ta fa):cJ K E (Ec r ta) (sO f fa):=by
 intro B σ H α Z ρ Q s sl w;refine ha B σ H α Z ρ _ s sl (w.bind.imp fun xs α1 Z1 H1 i s1 w1 vs b=> ?_);unfold EJ at w1;cases q1:aJ (sh Z1) xs with
 |none=>rw[q1] at w1;obtain⟨ds,h,w1⟩:=w1.RO;obtain⟨rv,a,w1⟩:=w1.RO;exact g Y2 H1 vs ds rv Q FQ (c8 (R:=Ur (ow B α1 Z1) K H1 α1) (fun v x y r e=>DV.x (jw s1 6 r e)) b h) a (FC s1 w1)
 |some ds=>rw[q1] at w1;obtain⟨rv,a,w1⟩:=w1.RO;exact g _ H1 vs ds rv Q s1.Y2 (c8 (R:=Ur (ow B α1 Z1) K H1 α1) (fun v x y r e=>DL s1 r e) b q1) a (Ea s1 w1)
end
section
variable {B O O':ce} {K:QC} {E:XK} {H H' H1 H2:Hp} {α α' α1 α2:List QI} {Z Z' Z1 Z2:aX} {σ:L2.St} {ρ:bu} {v:V}
theorem zW:∀{vs:List V} {xs:List β} {i:Nat} {x:β},Paired R vs xs->xs[i]? =QB x->∃v,vs[i]? =QB v/\R v x
 |_,_,_,_,.nil,e=>by simp at e
 |_,_,0,_,.cons h _,e=>by simp at e;subst e;exact⟨_,rfl,h⟩
 |_,_,i+1,x,.cons _ t,e=>by obtain⟨v,h1,h2⟩:=zW t (by simpa using e);exact⟨v,by simpa using h1,h2⟩
theorem Lp {vs:List V} (h:Paired R vs xs) (e:kZ xs i=QB x):∃v,kZ vs i=QB v/\R v x:=by
 unfold kZ at e⊢;rw[h.length];cases q:K3 xs.length i with
 |none=>rw[q] at e;cases e
 |some j=>rw[q] at e;exact zW h e
noncomputable def Cu:SV->Option Int
 | .fz (.int i)=>QB i
 |_=>QF
theorem Cf (e:Cu x=QB i) (h:Ur O K H α v x):v= .int i:=by
 unfold Cu at e;split at e
 ·cases e;cases h;rfl
 ·cases e
noncomputable def Ht (x y:SV) (Z:aX):RS SV:=match x with
 | .fz _=>vI bA x y Z
 | .rf j=>(match Z[j]? with
  |some (.lst xs)=>(RS.RO Z (Cu y)).bind fun i Z1=>RS.RO Z1 (kZ xs i)
  |_=> .bad)
 | .tp l=>(RS.RO Z (Cu y)).bind fun i Z1=>RS.RO Z1 ((kZ l i).map AV.sv)
noncomputable def g9 (fa fb:dh):dh:=fun ρ Z=>(fa ρ Z).bind fun x Z1=>(fb ρ Z1).bind fun y Z2=>Ht x y Z2
theorem iB (ha:cJ K E ta fa) (n:cJ K E tb fb):cJ K E (KS (Pr K) ta tb) (g9 fa fb):=by
 intro B σ H α Z ρ Q s sl w;refine ha B σ H α Z ρ _ s sl (w.bind.imp fun x α1 Z1 H1 p s1 w1 v e=> ?_);refine n B σ H1 α1 Z1 ρ _ s1 (sl.TC p) (w1.bind.imp fun y α2 Z2 H2 o s2 b u m=> ?_);have e:=e.TC o;unfold Ht at b;cases x with
 |fz d=>exact GV dC s2 e m b
 |rf j=>
  obtain⟨a,ha,rfl⟩:=e;dsimp only at b;cases q:Z2[j]? with
  |none=>rw[q] at b;exact b.elim
  |some c=>
   rw[q] at b;cases c with
   |lst xs=>
    obtain⟨i,g,b⟩:=WS.RO b;cases qa:kZ xs i with
    |none=>rw[qa] at b;exact b.elim
    |some x=>rw[qa] at b;obtain⟨vs,h1,h2⟩:=s2.X3 j a _ ha q;obtain⟨z,h,f⟩:=Lp h2 qa;exact .inl ⟨a,vs,i,z,rfl,Cf g m,VD.of h1,h,WS.now s2 b z f⟩
   |_=>exact b.elim
 |tp l=>
  obtain⟨a,xs,rfl,h1,h2⟩:=e;obtain⟨i,g,b⟩:=WS.RO b;cases qa:kZ l i with
  |none=>rw[qa] at b;exact b.elim
  |some x=>rw[qa] at b;obtain⟨z,h,f⟩:=Lp h2 qa;exact .inr (.inl ⟨a,xs,i,z,rfl,Cf g m,h1.1,h,WS.now s2 b z (by cases x<;>exact f)⟩)
theorem vH (h:Lv α (Z.set i .dead) b):Lv α Z b:=by
 obtain⟨j,c,h1,h2,a⟩:=h;rcases b8 h2 with⟨rfl,rfl⟩|⟨_,h2⟩
 ·exact absurd rfl a
 ·exact⟨j,c,h1,h2,a⟩
theorem SR.kill:SR α Z H α (Z.set i .dead) H:=⟨fun _ _ h=>h,fun _ _ h _=>h,fun _ h=> .inl (vH h)⟩
theorem Rq.kill (s:Rq B K H α Z) (i:Nat):Rq B K H α (Z.set i .dead):=by
 have e:SR α Z H α (Z.set i .dead) H:=SR.kill;refine⟨by rw[R8];exact s.len,s.nd,s.bn,s.ba,s.al,fun j b d h1 h2=> ?_⟩;rcases b8 h2 with⟨rfl,rfl⟩|⟨WW,h2⟩
 ·exact trivial
 ·exact(s.X3 j b d h1 h2).ev e.ev e.pre fun u q=>q
theorem Rq.abg (s:Rq B K H α Z) (ha:α[i]? =QB a):¬ow B α (Z.set i .dead) a:=by
 rintro(z|⟨j,c,h1,h2,b⟩)
 ·exact s.abP ha z
 ·have:=s.nd j i a h1 ha
  subst this;rcases b8 h2 with⟨_,rfl⟩|⟨WW,_⟩
  ·exact b rfl
  ·exact WW rfl
noncomputable def mh (g:aX->SV->Option (D×aX)):aX->List SV->Option (List D×aX)
 |Z,[]=>QB ([],Z)
 |Z,x::r=>match g Z x with
  |some (d,Z1)=>(match mh g Z1 r with
   |some (ds,Z2)=>QB (d::ds,Z2)
   |none=>QF)
  |none=>QF
noncomputable def frz:Nat->aX->SV->Option (D×aX)
 |_,Z,.fz d=>QB (d,Z)
 |0,_,_=>QF
 |n+1,Z,.rf i=>match Z[i]? with
  |some (.lst xs)=>(match mh (frz n) Z xs with
   |some (ds,Z1)=>QB (.list ds,Z1.set i .dead)
   |none=>QF)
  |_=>QF
 |n+1,Z,.tp l=>match mh (frz n) Z (l.map AV.sv) with
  |some (ds,Z1)=>QB (.tuple ds,Z1)
  |none=>QF
theorem wb (a:∀{Z Z':aX} {v:V} {x:SV} {d:D},Rq B K H α Z->Ur (ow B α Z) K H α v x->g Z x=QB (d,Z')->Rq B K H α Z'/\SR α Z H α Z' H/\L3.DV (ow B α Z') K H v d):
  ∀{vs:List V} {xs:List SV} {ds:List D} {Z Z':aX},Rq B K H α Z->T5 (ow B α Z) K H α vs xs->mh g Z xs=QB (ds,Z')->Rq B K H α Z'/\SR α Z H α Z' H/\L3.SY (ow B α Z') K H vs ds
 |_,_,_,Z,Z',s,.nil,e=>by cases e;exact⟨s,.refl,.nil⟩
 |_,_,_,Z,Z',s,.cons (b:=x) (l₂:=xs) r t,e=>by
  unfold mh at e;cases q:g Z x with
  |none=>rw[q] at e;cases e
  |some p=>
   obtain⟨d,Z1⟩:=p;rw[q] at e;dsimp only at e;obtain⟨s1,h,d1⟩:=a s r q;cases q2:mh g Z1 xs with
   |none=>rw[q2] at e;cases e
   |some p2=>obtain⟨ds,Z2⟩:=p2;rw[q2] at e;cases e;obtain⟨s2,f,i⟩:=wb a s1 (T5.TC h t) q2;exact⟨s2,h.trans f,.cons (d1.ev f.ev) i⟩
theorem vo:∀{vs:List V} {l:List AV},Paired (AOk O K H α) vs l->T5 O K H α vs (l.map AV.sv)
 |_,_,.nil=> .nil
 |_,_,.cons (b:=x) h t=> .cons (by cases x<;>exact h) (vo t)
theorem vU:∀(n:Nat) {Z Z':aX} {v:V} {x:SV} {d:D},Rq B K H α Z->Ur (ow B α Z) K H α v x->frz n Z x=QB (d,Z')->Rq B K H α Z'/\SR α Z H α Z' H/\L3.DV (ow B α Z') K H v d
 |n,Z,Z',v,.fz d',d,s,h,e=>by
  have f:QB (d',Z)=QB (d,Z'):=by cases n<;>exact e
  cases f;exact⟨s,.refl,h⟩
 |0,_,_,v,.rf i,d,s,h,e=>by cases e
 |0,_,_,v,.tp l,d,s,h,e=>by cases e
 |n+1,Z,Z',v,.rf i,d,s,h,e=>by
  obtain⟨a,ha,rfl⟩:=h;unfold frz at e;cases q:Z[i]? with
  |none=>rw[q] at e;cases e
  |some c=>
   rw[q] at e;cases c with
   |lst xs=>
    dsimp only at e;obtain⟨vs,h1,h2⟩:=s.X3 i a _ ha q;cases q2:mh (frz n) Z xs with
    |none=>rw[q2] at e;cases e
    |some p=>obtain⟨ds,Z1⟩:=p;rw[q2] at e;cases e;obtain⟨s1,b,d1⟩:=wb (fun s h e=>vU n s h e) s h2 q2;exact⟨s1.kill i,b.trans SR.kill,wf h1 (s1.abg ha) (d1.ev (SR.kill).ev)⟩
   |_=>cases e
 |n+1,Z,Z',v,.tp l,d,s,h,e=>by
  obtain⟨a,xs,rfl,h1,h2⟩:=h;unfold frz at e;cases q2:mh (frz n) Z (l.map AV.sv) with
  |none=>rw[q2] at e;cases e
  |some p=>obtain⟨ds,Z1⟩:=p;rw[q2] at e;cases e;obtain⟨s1,b,d1⟩:=wb (fun s h e=>vU n s h e) s (vo h2) q2;exact⟨s1,b,.tup (h1.ev b.ev) d1⟩
noncomputable def MK (x:SV) (Z:aX):RS SV:=match frz 4 Z x with
 |some (d,Z1)=> .ok (.fz d) Z1
 |none=> .bad
noncomputable def sA (f:dh):dh:=fun ρ Z=>(f ρ Z).bind fun x Z1=>MK x Z1
theorem pz (h:cJ K E t f):cJ K E t (sA f):=by
 intro B σ H α Z ρ Q s sl w;refine h B σ H α Z ρ _ s sl (w.bind.imp fun x α1 Z1 H1 g s1 w1 v a=> ?_);unfold MK at w1;cases q:frz 4 Z1 x with
 |none=>rw[q] at w1;exact w1.elim
 |some p=>obtain⟨d,Z2⟩:=p;rw[q] at w1;obtain⟨s2,b,e⟩:=vU 4 s1 a q;exact w1 α1 H1 b s2 v e
theorem XOk.sub (h:∀b,O' b->O b) (k:XOk K O H c dx x):XOk K O' H c dx x:=by obtain⟨h1,fs,h2,a⟩:=k;exact⟨h1,fs,h2,fun f d e=>let⟨g1,v,g2,g3⟩:=a f d e;⟨g1,v,g2,g3.ev (Ev.sub h)⟩⟩
noncomputable def wS (F:FN) (n:Nat) (xs:List SV) (Z:aX):RS SV:=if xs.length=n then(match aJ x0 xs with
 |some ds=>(match F ds with
  | .ok rv=>lr Z rv
  | .er x=> .er x Z
  | .bad=> .bad)
 |none=>(RS.RO Z (aJ (uT 6 Z) xs)).bind fun ds Z1=>(match F ds with
  | .ok rv=>wT Z1 rv
  |_=> .bad)) else .bad
noncomputable def fF:RS A->RS A
 | .er _ _=> .bad
 |r=>r
noncomputable def iR (F:FN) (n:Nat) (fa:yy):dh:=fun ρ Z=>(fa ρ Z).bind fun xs Z1=>fF (wS F n xs Z1)
theorem WS.e0 (h:WS K E B H α Z P (fF r)):WS K E0 B H α Z P r:=by
 cases r with
 |ok a Z=>exact h
 |er x Z=>exact h.elim
 |bad=>exact h
theorem Jp (s:Rq B K H α Z) (b:T5 (ow B α Z) K H α vs xs) (w:WS K E B H α Z (PQ B K Q) (wS F n xs Z)):oP K n F vs H Q E:=by
 unfold wS at w;by_cases hn:xs.length=n
 ·rw[if_pos hn] at w
  refine⟨b.length.trans hn,?_⟩;cases q:aJ x0 xs with
  |some ds=>
   rw[q] at w;refine⟨ow B α Z,ds,s.owd,j9 (c8 (R:=Ur (ow B α Z) K H α) (fun v x y r e=>zG r e) b q),?_⟩;dsimp only at w;cases qF:F ds with
   |ok rv=>rw[qF] at w;exact Ea s w
   |er x=>rw[qF] at w;exact fun c dx H' e k=>w c dx α H' (SR.same e) (s.grow e) k
   |bad=>rw[qF] at w;exact w.elim
  |none=>
   rw[q] at w;obtain⟨ds,f,w⟩:=WS.RO w;refine⟨Y2,ds,fun a z=>z.elim,j9 (c8 (R:=Ur (ow B α Z) K H α) (fun v x y r e=>jw s 6 r e) b f),?_⟩;cases qF:F ds with
   |ok rv=>rw[qF] at w;exact FC s w
   |er x=>rw[qF] at w;exact w.elim
   |bad=>rw[qF] at w;exact w.elim
 ·rw[if_neg hn] at w;exact w.elim
theorem AG (ha:wC K E ta fa):cJ K E (jQ (oP K n F) [] E0 ta) (iR F n fa):=by intro B σ H α Z ρ Q s sl w;refine ha B σ H α Z ρ _ s sl (w.bind.imp fun xs α1 Z1 H1 b s1 w1 vs a=> ?_);rw[Rf];exact Jp s1 a (WS.e0 w1)
abbrev iU:=List SV->aX->RS SV
noncomputable def dn (K:QC) (n:Nat) (F:iU):Sp:=fun vs H Q E=>vs.length=n/\∃(B:ce) (α:List QI) (Z:aX) (xs:List SV),Rq B K H α Z/\T5 (ow B α Z) K H α vs xs/\WS K E B H α Z (PQ B K Q) (F xs Z)
noncomputable def tT (F:iU) (n:Nat) (fa:yy):dh:=fun ρ Z=>(fa ρ Z).bind fun xs Z1=>if xs.length=n then fF (F xs Z1) else .bad
theorem uw (ha:wC K E ta fa):cJ K E (jQ (dn K n F) [] E0 ta) (tT F n fa):=by
 intro B σ H α Z ρ Q s sl w;refine ha B σ H α Z ρ _ s sl (w.bind.imp fun xs α1 Z1 H1 b s1 w1 vs a=> ?_);rw[Rf];by_cases hn:xs.length=n
 ·rw[if_pos hn] at w1;exact⟨a.length.trans hn,B,α1,Z1,xs,s1,a,WS.e0 w1⟩
 ·rw[if_neg hn] at w1;exact w1.elim
noncomputable def lc (Z:aX) (C m:Str):SV->Bool
 | .rf i=>match Z[i]? with
  |some (.obj D fs)=>decide (D=C)&&(fs.lookup m).isNone
  |_=>QN
 |_=>QN
noncomputable def ox (C m:Str) (F:iU) (n:Nat) (fo:dh) (fa:yy):dh:=fun ρ Z=>(fo ρ Z).bind fun x Z1=>if lc Z1 C m x=QG then(fa ρ Z1).bind fun xs Z2=>(if(x::xs).length=n then F (x::xs) Z2 else .bad) else .bad
noncomputable def aY (C m:Str) (F:iU) (n:Nat) (fo:dh) (fa:yy):dh:=fun ρ Z=>(fo ρ Z).bind fun x Z1=>if lc Z1 C m x=QG then(fa ρ Z1).bind fun xs Z2=>(if(x::xs).length=n then fF (F (x::xs) Z2) else .bad) else .bad
theorem Ff (f:QZ K QW C=QB (QB (.ref Ca))) (s:Rq B K H α Z) (b:Ur (ow B α Z) K H α v x) (h:lc Z C m x=QG):∃a dx fs,v= .ref a/\H a=QB (.ins Ca dx fs)/\fs.lookup m=QF:=by
 cases x with
 |fz d=>cases h
 |tp l=>cases h
 |rf i=>
  obtain⟨a,ha,rfl⟩:=b;unfold lc at h;dsimp only at h;cases q:Z[i]? with
  |none=>rw[q] at h;cases h
  |some c=>
   rw[q] at h;cases c with
   |obj D fs=>rw[Rn] at h;obtain⟨h1,h2⟩:=h;have e:=of_decide_eq_true h1;subst e;obtain⟨n,dx,ws,g0,j,g⟩:=s.X3 i a _ ha q;rw[f] at g0;cases g0;exact⟨a,dx,ws,rfl,j,t9 g (Option.isNone_iff_eq_none.mp h2)⟩
   |_=>cases h
theorem GB (i:QZ K QW C=QB (QB (.ref Ca))) (g:cJ K E to fo) (ha:wC K E ta fa):cJ K E (uj Ca m (dn K n F) [] E to ta) (ox C m F n fo fa):=by
 intro B σ H α Z ρ Q s sl w;refine g B σ H α Z ρ _ s sl (w.bind.imp fun x α1 Z1 H1 p s1 w1 v f=> ?_);by_cases h:lc Z1 C m x=QG
 ·rw[if_pos h] at w1
  obtain⟨a,dx,fs,rfl,l,j⟩:=Ff i s1 f h;refine⟨a,dx,fs,rfl,l,j,?_⟩;refine ha B σ H1 α1 Z1 ρ _ s1 (sl.TC p) (w1.bind.imp fun xs α2 Z2 H2 o s2 b vs e=> ?_);rw[Rf];have hp:T5 (ow B α2 Z2) K H2 α2 (.ref a::vs) (x::xs):= .cons (f.TC o) e;by_cases hn:(x::xs).length=n
  ·rw[if_pos hn] at b;exact⟨hp.length.trans hn,B,α2,Z2,_,s2,hp,b⟩
  ·rw[if_neg hn] at b;exact b.elim
 ·rw[if_neg h] at w1;exact w1.elim
theorem Df (i:QZ K QW C=QB (QB (.ref Ca))) (g:cJ K E to fo) (ha:wC K E ta fa):cJ K E (uj Ca m (dn K n F) [] E0 to ta) (aY C m F n fo fa):=by
 intro B σ H α Z ρ Q s sl w;refine g B σ H α Z ρ _ s sl (w.bind.imp fun x α1 Z1 H1 p s1 w1 v f=> ?_);by_cases h:lc Z1 C m x=QG
 ·rw[if_pos h] at w1
  obtain⟨a,dx,fs,rfl,l,j⟩:=Ff i s1 f h;refine⟨a,dx,fs,rfl,l,j,?_⟩;refine ha B σ H1 α1 Z1 ρ _ s1 (sl.TC p) (w1.bind.imp fun xs α2 Z2 H2 o s2 b vs e=> ?_);rw[Rf];have hp:T5 (ow B α2 Z2) K H2 α2 (.ref a::vs) (x::xs):= .cons (f.TC o) e;by_cases hn:(x::xs).length=n
  ·rw[if_pos hn] at b;exact⟨hp.length.trans hn,B,α2,Z2,_,s2,hp,WS.e0 b⟩
  ·rw[if_neg hn] at b;exact b.elim
 ·rw[if_neg h] at w1;exact w1.elim
noncomputable def Cm:SV->Bool
 | .fz .none=>QG
 |_=>QN
noncomputable def tJ (C:Str) (F:iU) (n:Nat) (xs:List SV) (Z:aX):RS SV:=if(SV.rf Z.length::xs).length=n then(F (.rf Z.length::xs) (Z++[.obj C []])).bind fun r Z2=>(if Cm r=QG then .ok (.rf Z.length) Z2 else .bad) else .bad
noncomputable def FX (C:Str) (F:iU) (n:Nat) (fa:yy):dh:=fun ρ Z=>(fa ρ Z).bind fun xs Z1=>tJ C F n xs Z1
noncomputable def tO (C:Str) (F:iU) (n:Nat) (fa:yy):dh:=fun ρ Z=>(fa ρ Z).bind fun xs Z1=>fF (tJ C F n xs Z1)
theorem JJ (h:Cm x=QG) (a:Ur O K H α v x):v= .Te:=by
 unfold Cm at h;split at h
 ·cases a;rfl
 ·cases h
theorem G9 (l:QZ K QW C=QB (QB (.ref Ca))) (s:Rq B K H α Z) (j:T5 (ow B α Z) K H α vs xs) (w:WS K E B H α Z (PQ B K Q) (tJ C F n xs Z)):
  ∀x dx,H x=QF->H dx=QF->dx≠x->dn K n F (.ref x::(vs++[])) (bv (bv H dx (.own x)) x (.ins Ca dx [])) (fun v H2=>v= .Te/\Q (.ref x) H2) E:=by
 intro x dx b g o;rw[Rf];unfold tJ at w;have h:SD H (bv (bv H dx (.own x)) x (.ins Ca dx [])):=(bM g _).trans (bM (by rw[aA (fun z=>o z.symm)];exact b) _);have e:SR α Z H (α++[x]) (Z++[.obj C []]) (bv (bv H dx (.own x)) x (.ins Ca dx [])):=SR.Y5 s.len h b;have s1:Rq B K (bv (bv H dx (.own x)) x (.ins Ca dx [])) (α++[x]) (Z++[.obj C []]):=s.Y5 h b (by rw[aC];simp) ⟨Ca,dx,[],l,aC,.nil⟩;have i:∀{α':List QI} {Z':aX} {H':Hp},SR (α++[x]) (Z++[.obj C []]) (bv (bv H dx (.own x)) x (.ins Ca dx [])) α' Z' H'->Ur (ow B α' Z') K H' α' (.ref x) (.rf Z.length):=fun e=>⟨x,e.pre _ _ (by rw[<-s.len];exact bh),rfl⟩;by_cases hn:(SV.rf Z.length::xs).length=n
 ·rw[if_pos hn] at w
  have hp:T5 (ow B (α++[x]) (Z++[.obj C []])) K (bv (bv H dx (.own x)) x (.ins Ca dx [])) (α++[x]) (.ref x::vs) (.rf Z.length::xs):= .cons (i .refl) (T5.TC e j);refine⟨hp.length.trans hn,B,_,_,_,s1,hp,?_⟩;refine WS.imp (WS.from e w.bind) fun r α2 Z2 H2 m s2 a v f=> ?_;by_cases z:Cm r=QG
  ·rw[if_pos z] at a;exact⟨JJ z f,WS.now s2 a _ (i m)⟩
  ·rw[if_neg z] at a;exact a.elim
 ·rw[if_neg hn] at w;exact w.elim
theorem IC (b:QZ K QW C=QB (QB (.ref Ca))) (ha:wC K E ta fa):cJ K E (wV Ca (dn K n F) [] E ta) (FX C F n fa):=by intro B σ H α Z ρ Q s sl w;refine ha B σ H α Z ρ _ s sl (w.bind.imp fun xs α1 Z1 H1 e s1 w1 vs a=> ?_);exact G9 b s1 a w1
theorem Ed (b:QZ K QW C=QB (QB (.ref Ca))) (ha:wC K E ta fa):cJ K E (wV Ca (dn K n F) [] E0 ta) (tO C F n fa):=by intro B σ H α Z ρ Q s sl w;refine ha B σ H α Z ρ _ s sl (w.bind.imp fun xs α1 Z1 H1 e s1 w1 vs a=> ?_);exact G9 b s1 a (WS.e0 w1)
noncomputable def fq (Z:aX):SV->Option (Nat×List SV)
 | .rf i=>match Z[i]? with
  |some (.lst xs)=>QB (i,xs)
  |_=>QF
 |_=>QF
theorem uS (s:Rq B K H α Z) (b:Ur (ow B α Z) K H α v x) (h:fq Z x=QB (i,xs)):Z[i]? =QB (.lst xs)/\∃a vs,α[i]? =QB a/\v= .ref a/\H a=QB (.lst vs)/\T5 (ow B α Z) K H α vs xs:=by
 cases x with
 |fz d=>cases h
 |tp l=>cases h
 |rf j=>
  obtain⟨a,ha,rfl⟩:=b;unfold fq at h;dsimp only at h;cases q:Z[j]? with
  |none=>rw[q] at h;cases h
  |some c=>
   rw[q] at h;cases c with
   |lst ys=>have e:=QX h;cases e;obtain⟨vs,h1,h2⟩:=s.X3 i a _ ha q;exact⟨q,a,vs,ha,rfl,h1,h2⟩
   |_=>cases h
theorem AQ (h:Paired R vs xs) (r:R v x):Paired R (vs++[v]) (xs++[x]):=by
 induction h with
 |nil=>exact .cons r .nil
 |cons a _ ih=>exact .cons a ih
noncomputable def k6 (fo fe:dh):dh:=fun ρ Z=>(fo ρ Z).bind fun o Z1=>(RS.RO Z1 (fq Z1 o)).bind fun _ Z1=>(fe ρ Z1).bind fun x Z2=>(RS.RO Z2 (fq Z2 o)).bind fun p Z3=>
 if p.2.length<1000000 then .ok (.fz .none) (Z3.set p.1 (.lst (p.2++[x]))) else .bad
theorem mf (t:cJ K E to fo) (y:cJ K E te fe):cJ K E (P0 K "list" vR to (iq te mO)) (k6 fo fe):=by
 intro B σ H α Z ρ Q s sl w;refine t B σ H α Z ρ _ s sl (w.bind.imp fun o α1 Z1 H1 G s1 w1 v g=> ?_);obtain⟨⟨i0,m⟩,n,w1⟩:=WS.RO w1;obtain⟨_,l,e,_,rfl,g0,_⟩:=uS s1 g n;refine⟨.inl ⟨rfl,e,VD.of g0⟩,?_⟩;refine y B σ H1 α1 Z1 ρ _ s1 (sl.TC G) (w1.bind.imp fun x α2 Z2 H2 F s2 b u p=> ?_);obtain⟨⟨i,xs⟩,q,b⟩:=WS.RO b;obtain⟨f,a,vs,ha,C,A,j⟩:=uS s2 (g.TC F) q;cases C;dsimp only at b;by_cases hn:xs.length<1000000
 ·rw[if_pos hn] at b;have ev:Ev (ow B α2 Z2) H2 (ow B α2 Z2) (bv H2 l (.lst (vs++[u]))):=n9 ha f (by intro z;cases z);refine⟨l,vs,u,rfl,rfl,A,tP (by rw[j.length];exact hn),?_⟩;exact b α2 _ (SR.put ha f (by intro z;cases z) (by intro z;cases z)) (s2.put ha f (by intro z;cases z) (by intro z;cases z) ⟨_,aC,AQ (Paired.Vg j fun _ _ r=>r.ev ev fun _ _ h=>h) (p.ev ev fun _ _ h=>h)⟩) _ .Te
 ·rw[if_neg hn] at b;exact b.elim
end
inductive FlS where
 |nx (ρ:bu)
 |bk (ρ:bu)
 |ct (ρ:bu)
 |rt (x:SV)
abbrev eS:=bu->aX->RS FlS
abbrev yU:=SV->bu->aX->RS bu
abbrev Gz:=List SV->bu->aX->RS bu
def wW (B:ce) (K:QC) (D:Ends):FlS->List QI->aX->Hp->Prop
 | .nx ρ,α,Z,H=>∀σ,Ud (ow B α Z) K H α σ ρ->D.nx σ H
 | .bk ρ,α,Z,H=>∀σ,Ud (ow B α Z) K H α σ ρ->D.bk σ H
 | .ct ρ,α,Z,H=>∀σ,Ud (ow B α Z) K H α σ ρ->D.ct σ H
 | .rt x,α,Z,H=>∀v,Ur (ow B α Z) K H α v x->D.rt v H
def mX (K:QC) (E:XK) (t:TS) (g:eS):Prop:=
 ∀(B:ce) (σ:L2.St) (H:Hp) (α:List QI) (Z:aX) (ρ:bu) (D:Ends),Rq B K H α Z->Ud (ow B α Z) K H α σ ρ->WS K E B H α Z (wW B K D) (g ρ Z)->t D σ H
def Ho (K:QC) (E:XK) (g:TG) (f:yU):Prop:=
 ∀(B:ce) (σ:L2.St) (H:Hp) (α:List QI) (Z:aX) (ρ:bu) (v:V) (x:SV) (Q:L2.St->Hp->Prop),Rq B K H α Z->Ud (ow B α Z) K H α σ ρ->Ur (ow B α Z) K H α v x->WS K E B H α Z (fun ρ' α' Z' H'=>∀σ',Ud (ow B α' Z') K H' α' σ' ρ'->Q σ' H') (f x ρ Z)->g v σ H Q
def Kh (K:QC) (E:XK) (g:MV) (f:Gz):Prop:=
 ∀(B:ce) (σ:L2.St) (H:Hp) (α:List QI) (Z:aX) (ρ:bu) (vs:List V) (xs:List SV) (Q:L2.St->Hp->Prop),Rq B K H α Z->Ud (ow B α Z) K H α σ ρ->T5 (ow B α Z) K H α vs xs->WS K E B H α Z (fun ρ' α' Z' H'=>∀σ',Ud (ow B α' Z') K H' α' σ' ρ'->Q σ' H') (f xs ρ Z)->g vs σ H Q
section
variable {B O O':ce} {K:QC} {E:XK} {H H' H1 H2:Hp} {α α' α1 α2:List QI} {Z Z' Z1 Z2:aX} {σ:L2.St} {ρ:bu} {v:V}
theorem Ud.set (sl:Ud O K H α σ ρ) (h:Ur O K H α v x):Ud O K H α (σ.set i (QB v)) (ρ.set i (QB x)):=by
 refine⟨by rw[R8,R8];exact sl.1,fun j y a=> ?_⟩;rcases b8 a with⟨rfl,e⟩|⟨WW,hy'⟩
 ·cases e;refine⟨v,?_,h⟩;rw[Sh];have:=uF a;rw[sl.1];exact this
 ·obtain⟨u,h1,h2⟩:=sl.2 j y hy';exact⟨u,by rw[RA (fun z=>WW z.symm)];exact h1,h2⟩
noncomputable def gA (i:Nat):yU:=fun x ρ Z=> .ok (ρ.set i (QB x)) Z
theorem bL:Ho K E (uB i) (gA i):=fun B σ H α Z ρ v x Q s sl h w=>WS.now s w _ (sl.set h)
noncomputable def Dj:Gz:=fun xs ρ Z=>match xs with
 |[]=> .ok ρ Z
 |_=> .bad
noncomputable def sg (f:yU) (g:Gz):Gz:=fun xs ρ Z=>match xs with
 |x::r=>(f x ρ Z).bind fun ρ1 Z1=>g r ρ1 Z1
 |[]=> .bad
theorem A3:Kh K E L7 Dj:=by
 intro B σ H α Z ρ vs xs Q s sl h w;cases h with
 |nil=>exact⟨rfl,WS.now s w _ sl⟩
 |cons _ _=>exact w.elim
theorem rj (h1:Ho K E t f) (h2:Kh K E u g):Kh K E (FO t u) (sg f g):=by
 intro B σ H α Z ρ vs xs Q s sl h w;cases h with
 |nil=>exact w.elim
 |cons a b=>refine⟨_,_,rfl,h1 B σ H α Z ρ _ _ _ s sl a (WS.imp (WS.bind w) fun ρ1 α1 Z1 H1 j s1 w1 e i=> ?_)⟩;exact h2 B e H1 α1 Z1 ρ1 _ _ _ s1 i (T5.TC j b) w1
noncomputable def Ej:SV->Option (List SV)
 | .fz (.tuple ds)=>QB (ds.map .fz)
 | .tp l=>QB (l.map AV.sv)
 |_=>QF
theorem LU (h:Ur O K H α v x) (e:Ej x=QB xs):∃a vs,v= .ref a/\V3 O K H a vs/\T5 O K H α vs xs:=by
 unfold Ej at e;split at e
 ·cases e
  cases h with
  |tup h hs=>exact⟨_,_,rfl,h,i9 _ _ hs⟩
 ·cases e;obtain⟨a,ys,rfl,h1,h2⟩:=h;exact⟨a,ys,rfl,h1,vo h2⟩
 ·cases e
noncomputable def N5 (n:Nat) (f:Gz):yU:=fun x ρ Z=>(RS.RO Z (Ej x)).bind fun xs Z1=>if xs.length=n then f xs ρ Z1 else .bad
theorem AM (h:Kh K E t f):Ho K E (MW K n t) (N5 n f):=by
 intro B σ H α Z ρ v x Q s sl b w;obtain⟨xs,q,w⟩:=WS.RO w;obtain⟨a,vs,rfl,h1,h2⟩:=LU b q;by_cases hn:xs.length=n
 ·rw[if_pos hn] at w;exact⟨a,vs,rfl,h1.1,h2.length.trans hn,h B σ H α Z ρ vs xs Q s sl h2 w⟩
 ·rw[if_neg hn] at w;exact w.elim
noncomputable def cI:eS:=fun ρ Z=> .ok (.nx ρ) Z
noncomputable def aL (f g:eS):eS:=fun ρ Z=>(f ρ Z).bind fun fl Z1=>match fl with
 | .nx ρ1=>g ρ1 Z1
 |fl=> .ok fl Z1
noncomputable def bK (f:dh):eS:=fun ρ Z=>(f ρ Z).bind fun _ Z1=> .ok (.nx ρ) Z1
noncomputable def dJ (f:dh) (g:yU):eS:=fun ρ Z=>(f ρ Z).bind fun x Z1=>(g x ρ Z1).bind fun ρ1 Z2=> .ok (.nx ρ1) Z2
noncomputable def ck (c:sU) (f g:eS):eS:=fun ρ Z=>(c ρ Z).bind fun b Z1=>if b=QG then f ρ Z1 else g ρ Z1
noncomputable def gn (f:dh):eS:=fun ρ Z=>(f ρ Z).bind fun x Z1=> .ok (.rt x) Z1
noncomputable def uD:eS:=fun _ Z=> .ok (.rt (.fz .none)) Z
theorem gQ:mX K E AC cI:=fun B σ H α Z ρ D s sl w=>WS.now s w σ sl
theorem Fp:mX K E Lk uD:=fun B σ H α Z ρ D s sl w=>WS.now s w .Te .Te
theorem aK (h1:mX K E t f) (h2:mX K E u g):mX K E (Iq t u) (aL f g):=by
 intro B σ H α Z ρ D s sl w;refine h1 B σ H α Z ρ {D with nx:=u D} s sl (WS.imp (WS.bind w) fun fl α1 Z1 H1 e s1 w1=> ?_);cases fl with
 |nx ρ1=>exact fun a b=>h2 B a H1 α1 Z1 ρ1 D s1 b w1
 |rt x=>exact WS.now (E:=E) s1 w1
 |bk ρ1=>exact WS.now (E:=E) s1 w1
 |ct ρ1=>exact WS.now (E:=E) s1 w1
theorem gj (h:cJ K E t f):mX K E (x5 t) (bK f):=by intro B σ H α Z ρ D s sl w;exact h B σ H α Z ρ _ s sl (WS.imp (WS.bind w) fun x α1 Z1 H1 a s1 w1 v b=>WS.now s1 w1 σ (sl.TC a))
theorem dH (h:cJ K E t f) (j:Ho K E g fg):mX K E (Dw t g) (dJ f fg):=by intro B σ H α Z ρ D s sl w;refine h B σ H α Z ρ _ s sl (WS.imp (WS.bind w) fun x α1 Z1 H1 l s1 w1 v i=> ?_);exact j B σ H1 α1 Z1 ρ v x _ s1 (sl.TC l) i (WS.imp (WS.bind w1) fun ρ1 α2 Z2 H2 m s2 e a b=>WS.now s2 e a b)
theorem lK (e:tU K E c fc) (h1:mX K E t f) (h2:mX K E u g):mX K E (Ir c t u) (ck fc f g):=by
 intro B σ H α Z ρ D s sl w;refine e B σ H α Z ρ _ s sl (WS.imp (WS.bind w) fun b α1 Z1 H1 a s1 w1=> ?_);cases b with
 |true=>exact h1 B σ H1 α1 Z1 ρ D s1 (sl.TC a) w1
 |false=>exact h2 B σ H1 α1 Z1 ρ D s1 (sl.TC a) w1
theorem eU (h:cJ K E t f):mX K E (IW t) (gn f):=by intro B σ H α Z ρ D s sl w;exact h B σ H α Z ρ _ s sl (WS.imp (WS.bind w) fun x α1 Z1 H1 b s1 w1 v a=>WS.now s1 w1 v a)
noncomputable def d7 (f:Str) (x:SV):List (Str×SV)->List (Str×SV)
 |[]=>[(f,x)]
 |(g,y)::r=>if g=f then(g,x)::r else(g,y)::d7 f x r
theorem Gj (h:Ur O K H α v x):∀{ws:List (Str×V)} {fs:List (Str×SV)},Paired (fun(p:Str×V) (q:Str×SV)=>p.1=q.1/\Ur O K H α p.2 q.2) ws fs->Paired (fun(p:Str×V) (q:Str×SV)=>p.1=q.1/\Ur O K H α p.2 q.2) (iw f v ws) (d7 f x fs)
 |_,_,.nil=> .cons ⟨rfl,h⟩ .nil
 |(g,u)::ws,(g',y)::fs,.cons ⟨e,k⟩ t=>by
  cases e;unfold iw d7;by_cases z:g=f
  ·rw[if_pos z,if_pos z];exact .cons ⟨rfl,h⟩ t
  ·rw[if_neg z,if_neg z];exact .cons ⟨rfl,k⟩ (Gj h t)
noncomputable def DG (Z:aX) (C:Str):SV->Option (Nat×List (Str×SV))
 | .rf i=>match Z[i]? with
  |some (.obj D fs)=>if D=C then QB (i,fs) else QF
  |_=>QF
 |_=>QF
theorem OA (s:Rq B K H α Z) (b:Ur (ow B α Z) K H α v x) (h:DG Z C x=QB (i,fs)):Z[i]? =QB (.obj C fs)/\∃a Ca dx ws,α[i]? =QB a/\v= .ref a/\QZ K QW C=QB (QB (.ref Ca))/\H a=QB (.ins Ca dx ws)/\Paired (fun(p:Str×V) (q:Str×SV)=>p.1=q.1/\Ur (ow B α Z) K H α p.2 q.2) ws fs:=by
 cases x with
 |fz d=>cases h
 |tp l=>cases h
 |rf j=>
  obtain⟨a,ha,rfl⟩:=b;unfold DG at h;dsimp only at h;cases q:Z[j]? with
  |none=>rw[q] at h;cases h
  |some c=>
   rw[q] at h;cases c with
   |obj D gs=>
    dsimp only at h;by_cases z:D=C
    ·subst z;rw[if_pos rfl] at h;have e:=QX h;cases e;obtain⟨Ca,dx,ws,f,h1,h2⟩:=s.X3 i a _ ha q;exact⟨q,a,Ca,dx,ws,ha,rfl,f,h1,h2⟩
    ·rw[if_neg z] at h;cases h
   |_=>cases h
noncomputable def fu (C f:Str) (fo fe:dh):eS:=fun ρ Z=>(fe ρ Z).bind fun x Z1=>(fo ρ Z1).bind fun o Z2=>(RS.RO Z2 (DG Z2 C o)).bind fun p Z3=>if p.2.length<100 then .ok (.nx ρ) (Z3.set p.1 (.obj C (d7 f x p.2))) else .bad
theorem kG (G:gu K C L) (A:f∈L) (y:cJ K E to fo) (F:cJ K E te fe):mX K E (Ny K to te f) (fu C f fo fe):=by
 intro B σ H α Z ρ D s sl w;refine F B σ H α Z ρ _ s sl (WS.imp (WS.bind w) fun x α1 Z1 H1 n s1 w1 v p=> ?_);refine y B σ H1 α1 Z1 ρ _ s1 (sl.TC n) (WS.imp (WS.bind w1) fun o α2 Z2 H2 m s2 b u t=> ?_);obtain⟨⟨i,fs⟩,q,b⟩:=WS.RO b;obtain⟨g,a,e,dx,ws,ha,rfl,j,h1,h2⟩:=OA s2 t q;obtain⟨N,g0,J,I⟩:=G;rw[j] at g0;cases g0;dsimp only at b;by_cases hn:fs.length<100
 ·rw[if_pos hn] at b;have ev:Ev (ow B α2 Z2) H2 (ow B α2 Z2) (bv H2 a (.ins e dx (iw f v ws))):=n9 ha g (by intro z;cases z);have l:SR α2 Z2 H2 α2 (Z2.set i (.obj C (d7 f x fs))) (bv H2 a (.ins e dx (iw f v ws))):=SR.put ha g (by intro z;cases z) (by intro z;cases z);have M:=Paired.length h2;refine⟨a,e,dx,ws,rfl,h1,J,I f A,by omega,?_⟩;refine b α2 _ l (s2.put ha g (by intro z;cases z) (by intro z;cases z) ⟨e,dx,_,j,aC,Gj ((p.TC m).ev ev fun _ _ h=>h) (Paired.Vg h2 fun _ _ r=>⟨r.1,r.2.ev ev fun _ _ h=>h⟩)⟩) σ ((sl.TC (n.trans m)).TC l)
 ·rw[if_neg hn] at b;exact b.elim
abbrev KO:=bu->aX->RS (List D)
def Ob (K:QC) (E:XK) (b:TI) (e:KO):Prop:=
 ∀(B:ce) (σ:L2.St) (H:Hp) (α:List QI) (Z:aX) (ρ:bu) (a:It->Hp->Prop),Rq B K H α Z->Ud (ow B α Z) K H α σ ρ->WS K E B H α Z (fun ds α' Z' H'=>∀J,zR K J (ow B α' Z') H' ds->a J H') (e ρ Z)->b σ H a
noncomputable def im (f:FI):KO:=fun ρ Z=>match f (bF ρ) with
 | .ok (ds,_)=> .ok ds Z
 | .er x=> .er x Z
 | .bad=> .bad
theorem ma (h:IO K E wi f):Ob K E wi (im f):=by
 intro B σ H α Z ρ g s sl w;refine h (ow B α Z) H (ow B α Z) σ H (bF ρ) g (GC s sl) ?_;unfold im at w;cases q:f (bF ρ) with
 |bad=>rw[q] at w;exact w.elim
 |er x=>rw[q] at w;exact fun c dx H' e k=>w c dx α H' (SR.same e) (s.grow e) k
 |ok r=>obtain⟨ds,ρ'⟩:=r;rw[q] at w;exact fun O' J H' e R it=>w α H' (SR.same R.same) (s.grow R.same) J fun i H2 a n=>it i H2 (fun b o h z=>a b o h fun y=>z (R.bo b y)) n
noncomputable def l8 (fe:dh):KO:=fun ρ Z=>(fe ρ Z).bind fun x Z1=>(match frz 4 Z1 x with
 |some (d,Z2)=>RS.RO Z2 (eN d)
 |none=> .bad)
theorem uG (h:cJ K E tl fe):Ob K E (Ck K tl) (l8 fe):=by
 intro B σ H α Z ρ g s sl w;refine h B σ H α Z ρ _ s sl (WS.imp (WS.bind w) fun x α1 Z1 H1 f s1 w1 v b=> ?_);cases q:frz 4 Z1 x with
 |none=>rw[q] at w1;exact w1.elim
 |some p=>
  obtain⟨d,Z2⟩:=p;rw[q] at w1;obtain⟨s2,a,e⟩:=vU 4 s1 b q;dsimp only at w1;cases qs:eN d with
  |none=>rw[qs] at w1;exact w1.elim
  |some ds=>
   rw[qs] at w1;cases e with
   |tup h hs=>cases qs;exact⟨_,rfl,.inr ⟨⟨_,h.1⟩,w1 α1 H1 a s2 _ (FU h hs)⟩⟩
   |lst h hs=>cases qs;exact⟨_,rfl,.inl ⟨⟨_,h.1.sq⟩,w1 α1 H1 a s2 _ (AF h hs)⟩⟩
   |_=>cases qs
noncomputable def kg (gt:yU) (b:eS):List D->eS
 |[],ρ,Z=> .ok (.nx ρ) Z
 |d::r,ρ,Z=>(gt (.fz d) ρ Z).bind fun ρ1 Z1=>(b ρ1 Z1).bind fun fl Z2=>match fl with
  | .nx ρ2=>kg gt b r ρ2 Z2
  | .ct ρ2=>kg gt b r ρ2 Z2
  | .bk ρ2=> .ok (.nx ρ2) Z2
  | .rt x=> .ok (.rt x) Z2
noncomputable def zY (a:KO) (gt:yU) (b:eS):eS:=fun ρ Z=>(a ρ Z).bind fun ds Z1=>kg gt b ds ρ Z1
theorem BW (hi:Ob K E wi fi) (G:Ho K E g gt) (I:mX K E tb b):mX K E (MR wi g tb) (zY fi gt b):=by
 intro B σ H α Z ρ D s sl w;refine hi B σ H α Z ρ _ s sl (WS.imp (WS.bind w) fun ds α1 Z1 H1 Q s1 w1 J it=> ?_);refine⟨fun i m a H'=>m=ds.length - i/\i<=ds.length/\∃α2 Z2 ρ2,SR α1 Z1 H1 α2 Z2 H'/\Rq B K H' α2 Z2/\Ud (ow B α2 Z2) K H' α2 a ρ2/\WS K E B H' α2 Z2 (wW B K D) (kg gt b (ds.drop i) ρ2 Z2),⟨_,rfl,RF _,α1,Z1,ρ,.refl,s1,sl.TC Q,w1⟩,?_⟩;rintro i m h H2 ⟨rfl,hi,α2,Z2,ρ2,e2,s2,sl2,w2⟩;obtain⟨go,stop⟩:=it (ow B α2 Z2) H2 e2.ev s2.Y2;by_cases U4:i<ds.length
 ·obtain⟨M,L⟩:=go i U4
  refine .inr ⟨M,fun a H'=>i+1<=ds.length/\∃α2 Z2 ρ2,SR α1 Z1 H1 α2 Z2 H'/\Rq B K H' α2 Z2/\Ud (ow B α2 Z2) K H' α2 a ρ2/\WS K E B H' α2 Z2 (wW B K D) (kg gt b (ds.drop (i+1)) ρ2 Z2),fun a H' ⟨h1,h2⟩=>⟨ds.length - (i+1),by omega,rfl,h1,h2⟩,fun x v y=> ?_⟩;obtain⟨z,d,hd,R⟩:=L x v y;have N:ds.drop i=d::ds.drop (i+1):=by obtain⟨_,q⟩:=QK.mp hd;rw[T7 U4,q]
  rw[N] at w2;have u:SR α2 Z2 H2 α2 Z2 v:=SR.same z;refine G B h v α2 Z2 ρ2 x (.fz d) _ (s2.grow z) (sl2.TC u) R (WS.imp (WS.bind (WS.from u w2)) fun ρ3 r Z4 S P F C p t=> ?_);refine I B p S r Z4 ρ3 _ F t (WS.imp (WS.bind C) fun fl j A T O n w4=> ?_);have l:=e2.trans (u.trans (P.trans O));cases fl with
  |nx ρ5=>exact fun o f=>⟨U4,j,A,ρ5,l,n,f,w4⟩
  |ct ρ5=>exact fun o f=>⟨U4,j,A,ρ5,l,n,f,w4⟩
  |bk ρ5=>exact WS.now (E:=E) n w4
  |rt x=>exact WS.now (E:=E) n w4
 ·have e:i=ds.length:=by omega
  subst e;rw[Ut (QS _)] at w2;exact .inl ⟨stop,WS.now s2 w2 h sl2⟩
noncomputable def tE (c:sU) (b:eS):Nat->eS
 |0,_,_=> .bad
 |n+1,ρ,Z=>(c ρ Z).bind fun k Z1=>if k=QG then(b ρ Z1).bind fun fl Z2=>match fl with
  | .nx ρ2=>tE c b n ρ2 Z2
  | .ct ρ2=>tE c b n ρ2 Z2
  | .bk ρ2=> .ok (.nx ρ2) Z2
  | .rt x=> .ok (.rt x) Z2 else .ok (.nx ρ) Z1
noncomputable def uW (c:sU) (b:eS):eS:=tE c b 1000000
theorem na (v:tU K E c fc) (y:mX K E tb b):mX K E (Eg c tb) (uW fc b):=by
 intro B σ H α Z ρ D s sl w;refine⟨fun m a H'=>∃α2 Z2 ρ2,SR α Z H α2 Z2 H'/\Rq B K H' α2 Z2/\Ud (ow B α2 Z2) K H' α2 a ρ2/\WS K E B H' α2 Z2 (wW B K D) (tE fc b m ρ2 Z2),⟨_,α,Z,ρ,.refl,s,sl,w⟩,?_⟩;rintro m e H2 ⟨α2,Z2,ρ2,A,s2,g,r⟩;cases m with
 |zero=>exact r.elim
 |succ m=>
  refine v B e H2 α2 Z2 ρ2 _ s2 g (WS.imp (WS.bind r) fun k o Z3 C p t j=> ?_);cases k with
  |true=>
   rw[if_pos rfl] at j⊢;refine⟨fun a H'=>∃α2 Z2 ρ2,SR α Z H α2 Z2 H'/\Rq B K H' α2 Z2/\Ud (ow B α2 Z2) K H' α2 a ρ2/\WS K E B H' α2 Z2 (wW B K D) (tE fc b m ρ2 Z2),fun a H' q=>⟨m,UL m,q⟩,?_⟩;refine y B e C o Z3 ρ2 _ t (g.TC p) (WS.imp (WS.bind j) fun fl h u F z l w4=> ?_);have i:=A.trans (p.trans z);cases fl with
   |nx ρ5=>exact fun n f=>⟨h,u,ρ5,i,l,f,w4⟩
   |ct ρ5=>exact fun n f=>⟨h,u,ρ5,i,l,f,w4⟩
   |bk ρ5=>exact WS.now (E:=E) l w4
   |rt x=>exact WS.now (E:=E) l w4
  |false=>rw[if_neg QV] at j⊢;exact WS.now t j e (g.TC p)
end
section
variable {B O O':ce} {K:QC} {E:XK} {H H' H1 H2:Hp} {α α' α1 α2:List QI} {Z Z' Z1 Z2:aX} {σ:L2.St} {ρ:bu} {v:V}
noncomputable def cL (gt:yU) (ft:sU) (fe:dh):List D->bu->aX->List SV->RS (List SV)
 |[],_,Z,acc=> .ok acc Z
 |d::r,ρ,Z,acc=>(gt (.fz d) ρ Z).bind fun ρ1 Z1=>(ft ρ1 Z1).bind fun b Z2=>if b=QG then(fe ρ1 Z2).bind fun x Z3=>(if acc.length<1000000 then cL gt ft fe r ρ1 Z3 (acc++[x]) else .bad) else cL gt ft fe r ρ1 Z2 acc
noncomputable def gz (n:Nat) (a:List Nat) (ρ:bu):bu:=QP n QF++a.map fun j=>(ρ[j]?).join
noncomputable def l9 (n:Nat) (a:List Nat) (b:KO) (gt:yU) (ft:sU) (fe:dh):dh:=fun ρ Z=>(b ρ Z).bind fun ds Z1=>(fF (cL gt ft fe ds (gz n a ρ) Z1 [])).bind fun xs Z2=> .ok (.rf Z2.length) (Z2++[.lst xs])
theorem II {own:List Str} {fv:List (Str×Nat)} {n:Nat} {f:List Nat} (hn:own.length=n) (g:fv.map (·.2)=f) (sl:Ud O K H α σ ρ):Ud O K H α (iG own fv σ) (gz n f ρ):=by
 unfold iG gz;rw[AR hn];have h:fv.length=f.length:=by rw[<-g,QH]
 refine⟨by rw[QM,QM,Rt,Rt,QH,QH,h],fun j x a=> ?_⟩;by_cases hj:j<n
 ·rw[Rg (by rw[Rt];exact hj),Tr,if_pos hj] at a;cases a
 ·rw[Ru (by rw[Rt];omega),Rt,QT] at a⊢
  subst g;rw[QT] at a;cases q:fv[j - n]? with
  |none=>rw[q] at a;cases a
  |some p=>
   rw[q] at a;have b:(ρ[p.2]?).join=QB x:=QX a;have e:ρ[p.2]? =QB (QB x):=by
    cases qq:ρ[p.2]? with
    |none=>rw[qq] at b;cases b
    |some o=>rw[qq] at b;exact congrArg QB b
   obtain⟨u,h1,h2⟩:=sl.2 p.2 x e;exact⟨u,by show QB ((σ[p.2]?).join)=_;rw[h1];rfl,h2⟩
theorem wU {p:QI} {c:Cell} (a:α.length=Z.length) (e:c≠ .dead):ow (b5 B p) α Z=ow B (α++[p]) (Z++[c]):=by
 funext b;refine propext ⟨fun z=> ?_,fun z=> ?_⟩
 ·rcases z with(z|z)|⟨i,d,h1,h2,h3⟩
  ·exact .inl z
  ·exact .inr ⟨α.length,c,by rw[z];exact bh,by rw[a];exact bh,e⟩
  ·exact .inr ⟨i,d,d6 h1,d6 h2,h3⟩
 ·rcases z with z|z
  ·exact .inl (.inl z)
  ·rcases qN a z with z|z
   ·exact .inr z
   ·exact .inl (.inr z)
theorem Rq.adopt {p:QI} {vs:List V} {xs:List SV} (s:Rq (b5 B p) K H α Z) (hp:H p=QB (.lst vs)) (e:T5 (ow (b5 B p) α Z) K H α vs xs) (f:¬B p):Rq B K H (α++[p]) (Z++[.lst xs]):=by
 have g:ow (b5 B p) α Z=ow B (α++[p]) (Z++[.lst xs]):=wU s.len (by intro z;cases z);have pre:∀(i:Nat) (a:QI),α[i]? =QB a->(α++[p])[i]? =QB a:=fun i a h=>d6 h;have b:∀i:Nat,α[i]?≠QB p:=s.ba p (.inr rfl);refine⟨by rw[QM,QM,s.len];rfl,fun i j a h1 h2=> ?_,fun a h=>s.bn a (.inl h),fun a h i q=> ?_,fun i a h=> ?_,fun i a d h1 h2=> ?_⟩
 ·rcases bx h1 with g1|⟨e1,e2⟩<;>rcases bx h2 with g2|⟨e3,e4⟩
  ·exact s.nd i j a g1 g2
  ·rw[e4] at g1;exact absurd g1 (b i)
  ·rw[e2] at g2;exact absurd g2 (b j)
  ·omega
 ·rcases bx q with q|⟨_,e2⟩
  ·exact s.ba a (.inl h) i q
  ·subst e2;exact f h
 ·rcases bx h with h|⟨_,e2⟩
  ·exact s.al i a h
  ·rw[e2,hp];simp
 ·rw[<-g]
  rcases bx h2 with g2|⟨e1,e2⟩
  ·rcases bx h1 with g1|⟨e1,_⟩
   ·exact(s.X3 i a d g1 g2).ev .refl pre fun o q=>q
   ·have:=(QK.mp g2).1;have:=s.len;omega
  ·rcases bx h1 with g1|⟨_,e3⟩
   ·have:=(QK.mp g1).1;have:=s.len;omega
   ·rw[e2,e3];exact⟨vs,hp,Paired.Vg e fun _ _ r=>r.ev .refl pre⟩
theorem Rq.hide {p:QI} {o:HO} (s:Rq B K H α Z) (hp:H p=QF):Rq (b5 B p) K (bv H p o) α Z:=by have f:SD H (bv H p o):=bM hp o;have g:=s.grow f;have ev:Ev (ow B α Z) H (ow (b5 B p) α Z) (bv H p o):=fun b u h n=>⟨f b u h,fun z=>z.elim (fun z=>z.elim (fun z=>n (.inl z)) fun z=>by rw[z,hp] at h;cases h) fun z=>n (.inr z)⟩;refine⟨g.len,g.nd,fun a h=>h.elim (g.bn a) fun e=>by rw[e,aC];simp,fun a h i q=>h.elim (fun h=>g.ba a h i q) fun e=>by rw[e] at q;exact s.al i p q hp,g.al,fun i a c h1 h2=> ?_⟩;exact(s.X3 i a c h1 h2).ev ev (fun _ _ h=>h) fun o q=>f _ _ q
theorem Rq.aej {p:QI} {o o':HO} (s:Rq (b5 B p) K H α Z) (hp:H p=QB o):Rq (b5 B p) K (bv H p o') α Z:=by
 have ev:Ev (ow (b5 B p) α Z) H (ow (b5 B p) α Z) (bv H p o'):=Ev.mut (.inl (.inr rfl)) o';have n:∀b,H b≠QF->bv H p o' b≠QF:=fun b h=>by
  by_cases z:b=p
  ·subst z;rw[aC];simp
  ·rw[aA z];exact h
 refine⟨s.len,s.nd,fun a h=>n a (s.bn a h),s.ba,fun i a h=>n a (s.al i a h),fun i a c h1 h2=>(s.X3 i a c h1 h2).ev ev (fun _ _ h=>h) fun u q=> ?_⟩;have:a≠p:=fun z=>s.ba p (.inr rfl) i (by rw[<-z];exact h1);rw[aA this];exact q
theorem SR.dd {p:QI} {o:HO} (e:SR α1 Z1 H1 α Z H) (hp:H1 p=QF):SR α1 Z1 H1 α Z (bv H p o):=⟨e.pre,fun b u h n=>by rw[aA (bU h hp)];exact e.kp b u h n,e.lv⟩
theorem Rq.acG {p:QI} (s:Rq (b5 B p) K H α Z):Rq B K H α Z:=
 ⟨s.len,s.nd,fun a h=>s.bn a (.inl h),fun a h=>s.ba a (.inl h),s.al,fun i a c h1 h2=>(s.X3 i a c h1 h2).ev (fun b o h n=>⟨h,fun y=>n (y.elim (fun y=> .inl (.inl y)) .inr)⟩) (fun _ _ h=>h) fun _ h=>h⟩
theorem rp {own:List Str} {fv:List (Str×Nat)} {g:TG} {tc:TT} {te:TE} {gt:yU} {ft:sU} {fe:dh} {n:Nat} {Y:List Nat} {J:It} {Q:VK} {ds:List D} (hn:own.length=n) (hf:fv.map (·.2)=Y)
  (hg:Ho K E g gt) (ht:tU K E tc ft) (he:cJ K E te fe) (s1:Rq B K H1 α1 Z1) (sl1:Ud (ow B α1 Z1) K H1 α1 σ ρ) (it:zR K J (ow B α1 Z1) H1 ds) (w1:WS K E B H1 α1 Z1 (PQ B K Q) ((cL gt ft fe ds (gz n Y ρ) Z1 []).bind fun xs Z2=> .ok (.rf Z2.length) (Z2++[.lst xs]))):
  ∀D,H1 D=QF->D0 J D (iG own fv σ) g tc te H1 fun H'=>Q (.ref D) H':=by
 intro l G;have S:Ud (ow B α1 Z1) K H1 α1 (iG own fv σ) (gz n Y ρ):=II hn hf sl1;generalize qr:cL gt ft fe ds (gz n Y ρ) Z1 []=rr at w1;by_cases aa8:rr= .bad
 ·subst aa8;exact w1.elim
 ·
  have hB:¬B l:=fun z=>s1.bn l z G;have Z:∀{α2:List QI} {Z2:aX} {H':Hp},SR α1 Z1 H1 α2 Z2 H'->Ev (ow B α1 Z1) H1 (ow (b5 B l) α2 Z2) H':=fun e b o h n=>⟨e.kp b o h fun z=>n (.inr z),fun z=>by
   rcases z with(z|z)|z
   ·exact n (.inl z)
   ·rw[z,G] at h;cases h
   ·exact(e.lv b z).elim (fun q=>n (.inr q)) fun q=>by rw[h] at q;cases q⟩
  refine⟨fun i m σ' H'=>m=ds.length - i/\i<=ds.length/\∃α2 Z2 ρc acc ys,SR α1 Z1 H1 α2 Z2 H'/\Rq (b5 B l) K H' α2 Z2/\Ud (ow (b5 B l) α2 Z2) K H' α2 σ' ρc/\H' l=QB (.lst ys)/\T5 (ow (b5 B l) α2 Z2) K H' α2 ys acc/\cL gt ft fe (ds.drop i) ρc Z2 acc=rr,
   ⟨_,rfl,RF _,α1,Z1,gz n Y ρ,[],[],SR.same (bM G _),s1.hide G,?_,aC,.nil,qr⟩,?_⟩
  ·exact⟨S.1,fun j x hx=>let⟨v,h1,h2⟩:=S.2 j x hx;⟨v,h1,h2.ev (Z (SR.same (bM G _))) fun _ _ h=>h⟩⟩
  ·rintro i m σ2 H2 ⟨rfl,hi,α2,Z2,ρ2,acc,ys,e2,s2,sl2,hy,vy,f⟩
   obtain⟨go,stop⟩:=it (ow (b5 B l) α2 Z2) H2 (Z e2) s2.Y2;by_cases U4:i<ds.length
   ·obtain⟨g1,g2⟩:=go i U4
    refine .inr ⟨g1,fun M w=>i+1<=ds.length/\∃α2 Z2 ρc acc ys,SR α1 Z1 H1 α2 Z2 w/\Rq (b5 B l) K w α2 Z2/\Ud (ow (b5 B l) α2 Z2) K w α2 M ρc/\w l=QB (.lst ys)/\T5 (ow (b5 B l) α2 Z2) K w α2 ys acc/\cL gt ft fe (ds.drop (i+1)) ρc Z2 acc=rr,
     fun M w ⟨h1,h2⟩=>⟨ds.length - (i+1),by omega,rfl,h1,h2⟩,fun x I y=> ?_⟩
    obtain⟨s3,d,hd,dv⟩:=g2 x I y;have ed:ds.drop i=d::ds.drop (i+1):=by obtain⟨_,q⟩:=QK.mp hd;rw[T7 U4,q]
    rw[ed] at f;unfold cL at f;have L:SR α2 Z2 H2 α2 Z2 I:=SR.same s3;have kD:∀{O αy:List QI} {Zx Zy:aX} {Hx Hy:Hp} {o:HO},Rq (b5 B l) K Hx O Zx->SR O Zx Hx αy Zy Hy->Hx l=QB o->Hy l=QB o:=fun sx ex h=>ex.kp _ _ h fun⟨i,c,q,_⟩=>sx.ba l (.inr rfl) i q;have p:∀{C:List QI} {Z3:aX} {I:Hp} {z:Xc} {u:aX},SR α1 Z1 H1 C Z3 I->RS.er z u=rr->∀c dx α' H',SR C Z3 I α' u H'->Rq (b5 B l) K H' α' u->XOk K (ow (b5 B l) α' u) H' c dx z->E c dx H':=fun{C Z3 I z u} L q c dx α' H' e s' x'=>by subst q;exact w1 c dx α' H' (L.trans e) s'.acG (XOk.sub (fun b y=>y.elim (fun y=> .inl (.inl y)) .inr) x')
    refine hg (b5 B l) σ2 I α2 Z2 ρ2 x (.fz d) _ (s2.grow s3) (sl2.TC L) dv ?_;cases qg:gt (.fz d) ρ2 Z2 with
    |er z u=>rw[qg] at f;exact p (e2.trans L) f
    |bad=>rw[qg] at f;exact aa8 f.symm
    |ok ρ4 Z4=>
     rw[qg] at f;intro α4 H4 e4 s4 N U;refine ht (b5 B l) N H4 α4 Z4 ρ4 _ s4 U ?_;have f:((ft ρ4 Z4).bind fun b Z2=>if b=QG then(fe ρ4 Z2).bind fun x Z3=>(if acc.length<1000000 then cL gt ft fe (ds.drop (i+1)) ρ4 Z3 (acc++[x]) else .bad) else cL gt ft fe (ds.drop (i+1)) ρ4 Z2 acc)=rr:=f;cases qt:ft ρ4 Z4 with
     |er z u=>rw[qt] at f;exact p (e2.trans (L.trans e4)) f
     |bad=>rw[qt] at f;exact aa8 f.symm
     |ok b Z5=>
      rw[qt] at f;intro P w e5 s5;have F:=U.TC e5;have t:=L.trans (e4.trans e5);cases b with
      |false=>have f:cL gt ft fe (ds.drop (i+1)) ρ4 Z5 acc=rr:=f;exact⟨U4,P,Z5,ρ4,acc,ys,e2.trans t,s5,F,kD s2 t hy,T5.TC t vy,f⟩
      |true=>
       have f:((fe ρ4 Z5).bind fun x Z3=>(if acc.length<1000000 then cL gt ft fe (ds.drop (i+1)) ρ4 Z3 (acc++[x]) else .bad))=rr:=f;rw[if_pos rfl];refine he (b5 B l) N w P Z5 ρ4 _ s5 F ?_;cases qe:fe ρ4 Z5 with
       |er z u=>rw[qe] at f;exact p (e2.trans t) f
       |bad=>rw[qe] at f;exact aa8 f.symm
       |ok x6 Z6=>
        rw[qe] at f;intro A H6 e6 s6 v6 hv6;have f:(if acc.length<1000000 then cL gt ft fe (ds.drop (i+1)) ρ4 Z6 (acc++[x6]) else .bad)=rr:=f;by_cases hl6:acc.length<1000000
        ·rw[if_pos hl6] at f;have H:=t.trans e6;have X:H6 l=QB (.lst ys):=kD s2 H hy;have R:=T5.TC H vy;have em:Ev (ow (b5 B l) A Z6) H6 (ow (b5 B l) A Z6) (bv H6 l (.lst (ys++[v6]))):=Ev.mut (.inl (.inr rfl)) _;have T:=F.TC e6;refine⟨ys,X,tP (by rw[R.length];exact hl6),U4,A,Z6,ρ4,acc++[x6],ys++[v6],(e2.trans H).dd G,s6.aej X,⟨T.1,fun j x hx=>let⟨v,h1,h2⟩:=T.2 j x hx;⟨v,h1,h2.ev em fun _ _ h=>h⟩⟩,aC,AQ (Paired.Vg R fun _ _ r=>r.ev em fun _ _ h=>h) (hv6.ev em fun _ _ h=>h),f⟩
        ·rw[if_neg hl6] at f;exact absurd f.symm aa8
   ·have e:i=ds.length:=by omega
    subst e;rw[Ut (QS _)] at f;have f:RS.ok acc Z2=rr:=f;subst f;refine .inl ⟨stop,?_⟩;refine w1 (α2++[l]) H2 ⟨fun i a h=>d6 (e2.pre i a h),e2.kp,fun b z=>(qN s2.len z).elim (e2.lv b) fun z=> .inr (by rw[z];exact G)⟩ (s2.adopt hy vy hB) (.ref l) ⟨l,by rw[<-s2.len];exact bh,rfl⟩
theorem Na {A C:Type} {P:C->List QI->aX->Hp->Prop} {r:RS A} {k:A->aX->C} {m:A->aX->aX} (w:WS K E B H α Z P ((fF r).bind fun a o=> .ok (k a o) (m a o))):WS K E0 B H α Z P (r.bind fun a o=> .ok (k a o) (m a o)):=by
 cases r with
 |ok a o=>exact w
 |er x o=>exact w.elim
 |bad=>exact w
theorem rA {own:List Str} {fv:List (Str×Nat)} {a:TI} {g:TG} {tc:TT} {te:TE} {e:KO} {gt:yU} {ft:sU} {fe:dh} {n:Nat} {b:List Nat} (hn:own.length=n) (i:fv.map (·.2)=b)
  (hi:Ob K E a e) (h:Ho K E0 g gt) (f:tU K E0 tc ft) (j:cJ K E0 te fe):cJ K E (p5 own fv a g tc te) (l9 n b e gt ft fe):=by
 intro B σ H α Z ρ Q s sl w;refine hi B σ H α Z ρ _ s sl (WS.imp (WS.bind w) fun ds α1 Z1 H1 l s1 w1 J it=> ?_);exact rp hn i h f j s1 (sl.TC l) it (Na w1)
noncomputable def cY (N:Nat) (g:eS):iU:=fun xs Z=>(g (xs.map QB++QP (N - xs.length) QF) Z).bind fun fl Z1=>match fl with
 | .rt x=> .ok x Z1
 | .nx _=> .ok (.fz .none) Z1
 |_=> .bad
theorem En {N:List Str} {vs:List V} {xs:List SV} (h:T5 O K H α vs xs):Ud O K H α (L2.start N vs) (xs.map QB++QP (N.length - xs.length) QF):=by
 have b:vs.length=xs.length:=Paired.length h;unfold L2.start;refine⟨by rw[QM,QM,QH,QH,Rt,Rt,b],fun i x a=> ?_⟩;by_cases hi:i<xs.length
 ·rw[Rg (by rw[QH];exact hi),QT] at a
  cases q:xs[i]? with
  |none=>rw[q] at a;cases a
  |some d=>rw[q] at a;cases a;obtain⟨v,e,h2⟩:=zW h q;refine⟨v,?_,h2⟩;rw[Rg (by rw[QH,b];exact hi),QT,e];rfl
 ·rw[Ru (by rw[QH];omega),Tr] at a;split at a<;>cases a
theorem zL {N:List Str} {vs:List V} {xs:List SV} {g:eS} {t:TS} {Q:VK} {n:Nat} (b:mX K E t g) (h:dn K n (cY N.length g) vs H Q E):t {nx:=fun _ H'=>Q .Te H',rt:=Q} (L2.start N vs) H:=by
 obtain⟨e,B,α,Z,xs,s,a,w⟩:=h;refine b B _ H α Z _ _ s (En a) (WS.imp (WS.bind w) fun fl α1 Z1 H1 f s1 w1=> ?_);cases fl with
 |rt x=>exact WS.now (E:=E) s1 w1
 |nx ρ=>exact fun σ sl=>WS.now (E:=E) s1 w1 .Te .Te
 |bk ρ=>exact w1.elim
 |ct ρ=>exact w1.elim
end
theorem Qq {P:Q7} {w:Rv} {K:QC} {mg:Str->Option QD} {base:Heap} {x qual:Str} {st:Tg} {f:QI} {fd:RQ} {N ps:List Str} {k n m:Nat} {g:eS} {FF:iU} (F:Up K x qual st f fd) (S:Tz N ps (ay st)) (hn:ps.length=n) (hm:N.length=m) (i:FF=cY m g)
  (j:∀(Sl:QD) (A:Rp) (outer:List Env) (s:QL) (H:Hp) (E:XK),S9 k (A.deeper (Rb qual (ay st) s.heap.objs.size f Sl))->
   ∃t,Xg (eT di P w K mg base N qual (ay st) f Sl A outer s H E).nox (b6 st) t/\mX K E t g):FnOk P w K mg base di (k+1) f fd ps (dn K n FF):=by
 subst i hm;refine F.ok S (fun vs H Q E h=>h.1.trans hn.symm) (fun Sl A outer s H vs Q E e h=> ?_);obtain⟨t,a,b⟩:=j Sl A outer s H E e;exact⟨t,a,zL (xs:=[]) b h⟩
theorem PF {P:Q7} {w:Rv} {K:QC} {mg:Str->Option QD} {base:Heap} {x qual:Str} {st:Tg} {f:QI} {fd:RQ} {N ps:List Str} {k n m:Nat} {g:eS} {FF:iU} (F:Up K x qual st f fd) (S:Tz N ps (ay st)) (hn:ps.length=n) (hm:N.length=m) (l:FF=cY m g)
  (p:∀(Sl:QD) (A:Rp) (outer:List Env) (s:QL) (H:Hp) (E:XK),S9 k (A.deeper (Rb qual (ay st) s.heap.objs.size f Sl))->
   ∃t,Xg (eT (L4.i8 P w) P w K mg base N qual (ay st) f Sl A outer s H E) (b6 st) t/\mX K E t g):FnOk P w K mg base (L4.i8 P w) (k+1) f fd ps (dn K n FF):=by
 subst l hm;obtain⟨oc,od,kV,doc,pm,an,Sl,ct,Y0,rfl,b,o⟩:=F.ex;refine Fy b o S (fun vs H Q E h=>h.1.trans hn.symm) fun A outer s H vs Q E j a=> ?_;obtain⟨t,e,i⟩:=p Sl A outer s H E j;exact⟨t,e,zL (xs:=[]) i a⟩
noncomputable abbrev IT (P:Q7) (w:Rv) (K:QC) (mg:Str->Option QD) (base:Heap) (k:Nat) (x:Str) (ps:List Str) (n:Nat) (F:iU):Prop:=rS P w K mg base k x ps (dn K n F)
end L10
namespace PySem.W
open PySem PySem.Calls PyProof.Rows PyProof.V PySem.Spec
section
variable {prog:Q7} {w:Rv} {A:Rp} {E:QD->QL->Prop} {s:QL} {T:String} {r d:QI} {n:Nat} {P:Nat->QD->Prop} {OK:Heap->Prop}
theorem collect_kdl (K:KdlSrc prog w T r d n P OK) (l:A.handled=QF) (Sa:OK s.heap) (hn:n<=QU)
  (p:∀h' tk acc,(∀b o,s.heap.get? b=QB o->h'.get? b=QB o)->ahW P acc n->Q acc.toList {s with heap:=h',toks:=tk}):wpAny (model prog w) A (collect (.ref r)) Q E s:=by
 have i:=K.there _ Sa;unfold collect;refine QE (wpAny_runValue (Uv F.entry_proto_collect ?_));rw[Rp.under_plainId F.plain_proto_collect _];refine QE (SS ?_);refine QQ ⟨Uq F.plain_list_iadd _,Uv F.entry_list_iadd ?_⟩;rw[Rp.under_plainId F.plain_list_iadd _];have m:(s.heap.push {cls:= .type "list",data:= .seq ([]:List QD).toArray}).get? s.heap.objs.size=QB {cls:= .type "list",data:= .seq ([]:List QD).toArray}:=Heap.get?_push_size _ rfl;refine kdl_extend (R:=wants (fun v s'=>wpAny (model prog w) A (match v with| .ref a=>(load a>>=fun o=>match o.data with| .seq xs _=>pure xs.toList|_=>unsupported "internal:collect")|_=>unsupported "internal:collect") Q E s') E) (s:={s with heap:=s.heap.push {cls:= .type "list",data:= .seq ([]:List QD).toArray}}) K l (K.keep _ _ Sa fun b _ o e=>Heap.get?_push_of_some _ e) _ (Se i.1) (Se i.2) _ 0 m (fun h' tk h q j f g=> ?_) hn;refine QE (acs f ?_);exact QQ (p h' tk h (fun b o e=>j b o (Ra (Heap.lt_size e)) (Heap.get?_push_of_some _ e)) g)
end
end PySem.W
namespace PyProof.Rows
open PySem
section
variable {prog:Q7} {w:Rv} {A:Rp} {E:QD->QL->Prop} {s:QL} {T:String} {r d:QI} {n:Nat} {P:Nat->QD->Prop} {OK:Heap->Prop}
theorem yO (K:PySem.W.KdlSrc prog w T r d n P OK) (l:A.handled=QF) (Sa:OK s.heap) (i:n<64) (p:∀acc:Array QD,ahW P acc n->IntsAre acc.toList ns)
  (h:∀(h1 h':Heap) (tk:Nat) (out:Array QD) (e:Nat) (a:List Int),(∀b o,s.heap.get? b=QB o->h1.get? b=QB o)->h'.get? h1.objs.size=QB (seqObj "list" out e)->(∀b o,h1.get? b=QB o->h'.get? b=QB o)->IntsAre out.toList a->a.Perm ns->a.Pairwise (·<=·)->Q (.ref h1.objs.size) {s with heap:=h',toks:=tk}):
  wpAny (model prog w) A (call (.builtin "sorted") [.ref r]) Q E s:=by
 refine Calls.call_function_entry kind_sorted plain_sorted entry_sorted (args_sorted1 _) (QE (QQ (QE (PySem.W.collect_kdl K l Sa (by rw[Tn];omega) (fun h1 tk acc j hi=>QE (ahV ?_ (hsz:=by rw[SN,hi.1,Tn];omega)))))));have f:(h1.push (seqObj "list" acc.toList.toArray 0)).get? h1.objs.size=QB (seqObj "list" acc.toList.toArray 0):=Heap.get?_push_size _ rfl;have g:=p acc hi;refine QE (Tu (Uh slot_list_sort ⟨_,f,rfl⟩ entry_list_sort (list_sort_tree f g (by rw[SN,hi.1];exact i) fun out a a1 t q=>⟨_,rfl,QQ ⟨_,rfl,?_⟩⟩) (args_list_sort _)));obtain⟨e,m⟩:=qA f;exact h h1 _ tk out e a j m (fun b o' z=>oG (Ra (Heap.lt_size z)) (Heap.get?_push_of_some _ z)) a1 t q
end
end PyProof.Rows
namespace L10
open PySem PySem.Spec PyProof.Rows L2 L3
noncomputable def Pn (p d:QI):HO:= .ext fun h=>h.IsValuesView p d
theorem O0 (x:h.IsValuesView p d):ObjOk P w H h p (Pn p d):=⟨x,let⟨o,a,_⟩:=x;⟨o,a⟩,fun h1 h2 ⟨o,a,b⟩ k=>⟨o,k o a,b⟩⟩
def Kz:V->List V->Hp->VK->Prop:=fun x vs H Q=>∃a Rc,x= .ref a/\vs=[]/\H a=QB (.dK Rc)/\∀p,H p=QF->Q (.ref p) (bv H p (Pn p a))
theorem uA:PZ X "dict.values" Kz:=by intro pins s σ H x xs v us Q I g f h;obtain⟨a,Rc,rfl,rfl,e,q⟩:=h;cases g;cases f;obtain⟨z,hd,vs,rel,dd⟩:=xJ I.Sa e;refine call_meetsIn Vd dd.typeIs PySem.F.entry_dict_values (PySem.F.args_dict_values_1 _) (meets_dict_values (cQ X.prog X.w) a hd) ⟨⟨vs,dd⟩,?_⟩;refine⟨.ref s.heap.objs.size,_,I.laid (fun b o e=>Heap.get?_push_of_some _ e) (QS _) (O0 ⟨_,Heap.get?_push_size _ rfl,rfl,rfl⟩),rfl,q _ (I.Sa.fresh (QS _))⟩
def Fd:List V->Hp->VK->Prop:=fun xs H Q=>∃p a Rc,xs=[.ref p]/\H p=QB (Pn p a)/\H a=QB (.dK Rc)/\∀l,H l=QF->Q (.ref l) (bv H l (.lst (Rc.map (·.2))))
theorem Bo:∀{Rc:List (κ×V)} {vs:List (κ×QD)},KV Rc vs->Vals (Rc.map (·.2)) (vs.map (·.2))
 |_,_,.nil=> .nil
 |_,_,.cons h t=> .cons h.2 (Bo t)
theorem si (l:X.calm=QG):T4 X (.type "list") Fd:=by intro pins s σ H xs us Q I r h;obtain⟨p,a,Rc,rfl,n,e,q⟩:=h;obtain⟨u,rfl,g⟩:=lz r;cases g;obtain⟨z,hd,vs,rel,dd⟩:=xJ I.Sa e;obtain⟨A,y⟩:=dd.dictAt;obtain⟨f,_,_⟩:=I.Sa p _ n;refine PySem.W.kdl_call (PySem.W.kdl_values) (I.ok.hd l) ⟨f,y⟩ (by rw[<-rel.length];exact z) fun h' tk b c i m hi=> ?_;have w:=PySem.W.kdl_vals_eq b.toList (by rw[SN];exact hi.1) fun j v t=>hi.2 j v (by rw[<-VT];exact t);refine⟨.ref s.heap.objs.size,_,I.laid (o:= .lst (Rc.map (·.2))) i (QS _) ⟨by rw[QH];exact z,b.toList,c,by rw[w];exact Bo rel,by rw[Array.toArray_toList];exact m⟩,rfl,q _ (I.Sa.fresh (QS _))⟩
def Et:List V->Hp->VK->Prop:=fun xs H Q=>∃(p:QI) (Rc:List (cD×V)) (ns:List Int),xs=[.ref p]/\H p=QB (.dK Rc)/\Rc.map (·.1)=ns.map Sum.inl/\ns.length<64/\∀(l:QI) (a:List Int),H l=QF->a.Perm ns->a.Pairwise (·<=·)->Q (.ref l) (bv H l (.lst (a.map V.int)))
theorem pW:∀{vs:List (cD×QD)} {ns:List Int} {us:List QD},vs.map (·.1)=ns.map Sum.inl->us.length=vs.length->(∀(j:Nat) (u:QD),us[j]? =QB u->∃k x,vs[j]? =QB (k,x)/\(cQ prog w).is k u=QG)->IntsAre us ns
 |[],[],[],_,_,_=> .nil
 |[],[],_::_,_,h,_=>by simp at h
 |[],_::_,_,h,_,_=>by simp at h
 |_::_,[],_,h,_,_=>by simp at h
 |_::_,_::_,[],_,h,_=>by simp at h
 |(k,y)::vs,n::ns,u::us,h1,h2,h3=>by rw[QY,QY,ajg] at h1;obtain⟨g,x,e,b⟩:=h3 0 u rfl;cases e;have f:=h1.1;subst f;obtain⟨t,rfl⟩:=QD.isInt_shape (show QD.isInt n u=QG from b);exact .cons _ _ (pW h1.2 (by simpa using h2) fun j a e=>h3 (j+1) a (by simpa using e))
theorem rD (o:X.calm=QG):T4 X (.builtin "sorted") Et:=by
 intro pins s σ H xs us Q I r h;obtain⟨p,Rc,ns,rfl,e,w,t,q⟩:=h;obtain⟨u,rfl,g⟩:=lz r;cases g;obtain⟨z,hd,vs,rel,dd⟩:=xJ I.Sa e;obtain⟨G,B⟩:=dd.dictAt;have b:vs.map (·.1)=ns.map Sum.inl:=by rw[<-rel.keys];exact w
 have F:vs.length=ns.length:=by have:=congrArg Wg b;simpa using this
 refine yO (PySem.W.kdl_dict hd) (I.ok.hd o) B (by omega) (fun C hi=>pW b (by rw[SN];exact hi.1) fun j v y=>hi.2 j v (by rw[<-VT];exact y)) fun h1 h' tk out A i m n E hi hp l=> ?_;have a:=hp.length_eq;have f:=I.kept (t':=s.toks) m;refine⟨.ref h1.objs.size,_,f.laid E (QS _) ?_,rfl,q _ i (f.Sa.fresh (QS _)) hp l⟩;refine⟨?_,out.toList,A,iZ hi,n⟩;rw[QH,a];have:(64:Nat)<=QU:=by decide
 omega
end L10
namespace PySem
open Sem (wp)
namespace F
theorem lk_tuple_keys:typeLookup (.type "tuple") "keys"=pure QF:=by rw[aeZ,abm];kernel_rfl
theorem lk_tuple_hook:typeLookup (.type "tuple") "__getattr__"=pure QF:=by rw[aeZ,abm];kernel_rfl
theorem sub_ae:isSubtype (.type "AttributeError") (.type "AttributeError")=pure QG:=by rw[isSubtype_type];kernel_rfl
end F
section
variable {prog:Q7} {w:Rv} {A:Rp} {E:QD->QL->Prop} {h:Heap} {g:Array Wd} {d:aas} {t:Nat} {os:Za} {a:QI} {o:Obj}
theorem yQ {α:Type} {name f:Str} {Q:α->QL->Prop} {E:QD->QL->Prop} (hm:f.length<=QU) (l:A.handled=QF) (i:∀e h' t',(∀b o,h.get? b=QB o->h'.get? b=QB o)->(⟨h',g,d,t',os⟩:QL).TypeIs e "AttributeError"->E e ⟨h',g,d,t',os⟩):
  wpAny (model prog w) A (raiseAttrError (.ref a) name f:Sem α) Q E ⟨h,g,d,t,os⟩:=by
 have j:¬f.length>QU:=Nat.not_lt.mpr hm;unfold raiseAttrError newExc newTuple
 repeat (any_goals (first|assumption|wp_step))
 refine YD (a:=QG) F.sub_ae ?_
 repeat (any_goals (first|assumption|wp_step))
 refine ab2 l (i _ _ _ (fun b o e=> ?_) ?_)
 ·exact(Heap.get?_update_other _ _ (Ne.symm (Ra (Heap.lt_size (Heap.get?_push_of_some _ e))))).trans (Heap.get?_push_of_some _ (Heap.get?_push_of_some _ e))
 ·exact⟨_,Heap.get?_update_self _ (Heap.get?_push_size _ rfl) rfl,rfl⟩
theorem nA {tk:Tok} {Q:Fin->QL->Prop} {E:QD->QL->Prop} {RE:Array QD} {n:Nat} {sl:Array (Option QD)} (f:h.get? a=QB ⟨.type "tuple",QF,.seq RE n,sl⟩) (j:A.handled=QF) (i:∀e h' t',(∀b o,h.get? b=QB o->h'.get? b=QB o)->(⟨h',g,d,t',os⟩:QL).TypeIs e "AttributeError"->E e ⟨h',g,d,t',os⟩):
  wpAny (model prog w) A (RY.«object.__getattribute__» ⟨[.ref a,.str "keys" tk],[]⟩) Q E ⟨h,g,d,t,os⟩:=by
 have l:(⟨h,g,d,t,os⟩:QL).TypeIs (.ref a) "tuple":=⟨_,f,rfl⟩;have m:=F.lk_tuple_keys
 repeat (any_goals (first|assumption|wp_step))
 exact yQ (by decide+kernel) j i
theorem tq {tk:Tok} {Q:QD->QL->Prop} {E:QD->QL->Prop} {RE:Array QD} {n:Nat} {sl:Array (Option QD)} (f:h.get? a=QB ⟨.type "tuple",QF,.seq RE n,sl⟩) (m:A.handled=QF) (j:∀e h' t',(∀b o,h.get? b=QB o->h'.get? b=QB o)->(⟨h',g,d,t',os⟩:QL).TypeIs e "AttributeError"->E e ⟨h',g,d,t',os⟩):
  wpAny (model prog w) A (getAttrBy (.ref a) (.str "keys" tk) QN) Q E ⟨h,g,d,t,os⟩:=by
 have p:(⟨h,g,d,t,os⟩:QL).TypeIs (.ref a) "tuple":=⟨_,f,rfl⟩;have u:=F.slot_tuple_getattribute.lookup;have r:=F.slot_tuple_getattribute.bind (.ref a);have q:=F.lk_tuple_hook
 repeat (any_goals (first|assumption|wp_step))
 refine To F.slot_tuple_getattribute.plain F.entry_tuple_ga (F.slot_tuple_getattribute.check _ _ _ _ _ _ _ _ p (F.args_tuple_getattribute_2 _ _) (nA f m fun e h' t' l i=> ?_));have fs:=F.sub_ae;show wpAny (model prog w) A (getattributeRaised (QD.ref a) (QD.str (Str.ofString "keys") tk) (QD.type "tuple") e QF QN QN) Q E _;unfold getattributeRaised;refine QE (Yj i fs ?_)
 repeat (any_goals (first|assumption|wp_step))
 exact j e h' t' l i
theorem oU (f:h.get? a=QB ⟨.type "tuple",QF,.seq RE n,sl⟩) (l:A.handled=QF) (i:∀h' t',(∀b o,h.get? b=QB o->h'.get? b=QB o)->Q QF ⟨h',g,d,t',os⟩):
  wpAny (model prog w) A (getAttr? (.ref a) "keys") Q E ⟨h,g,d,t,os⟩:=by
 unfold getAttr? getAttrBy?;have fs:=F.sub_ae;refine QE ?_
 repeat (any_goals (first|assumption|(with_reducible refine tq f l fun e h' t' j m=> ?_)|wp_step))
 exact i h' t' j
namespace F
theorem entry_upd_loop:entryFor table "dict.update.loop"=QB RY.«dict.update.loop»:=entryFor_of_tree (by kernel_rfl)
theorem plain_upd_loop:plainId "dict.update.loop"=QG:=by decide+kernel
end F
end
section
variable {prog:Q7} {w:Rv} {A:Rp} {E:QD->QL->Prop} {s:QL} {K:Type} [DecidableEq K] {knd:KeyKind prog w K} {I dd ax:QI} {items:Array QD} {ks:List (K×QD)} {R:Yh->QL->Prop}
theorem zZ (Rc:List (K×QD)) (k:K) (v:QD):(stored Rc k v).length<=Rc.length+1:=by
 unfold stored;split
 ·rw[QH];omega
 ·rw[QM];exact QS _
theorem oz:∀(more Rc:List (K×QD)),(merged Rc more).length<=Rc.length+more.length
 |[],Rc=>QS _
 |p::r,Rc=>by have h1:=oz r (stored Rc p.1 p.2);have h2:=zZ Rc p.1 p.2;show(merged (stored Rc p.1 p.2) r).length<=_;rw[Q0];omega
theorem yF (more:List (K×QD)):(merged [] more).length<=more.length:=by have:=oz more [];simpa using this
theorem GU {G:Heap} (P:A.handled=QF) (Z:ax≠I) (E:I≠dd) (C:ax≠dd) (hp:∀(i:Nat) (v:QD),items[i]? =QB v->∃q key k x,v= .ref q/\q≠dd/\q≠I/\ks[i]? =QB (k,x)/\knd.is k key=QG/\G.IsTuple q #[key,x]) (hs:ks.length=items.size) (hz:items.size<=QU)
  (T:∀h' tk,h'.DictOf knd dd (merged [] ks)->(∀b o,b≠dd->b≠I->G.get? b=QB o->h'.get? b=QB o)->R (.ok (.ret .none)) {s with heap:=h',toks:=tk}):
  ∀(m i:Nat) (h:Heap) (tk:Nat),items.size - i=m->i<=items.size->h.IsTupleIter I ax i->h.IsTuple ax items->h.DictOf knd dd (merged [] (ks.take i))->(∀b o,b≠dd->b≠I->G.get? b=QB o->h.get? b=QB o)->
   codeAny (model prog w) A (.builtin "dict.update.loop" ⟨[.ref dd,.ref I,rawInt i,.none],[]⟩) R {s with heap:=h,toks:=tk}:=by
 have W:=Walks.tuple (prog:=prog) (w:=w) (A:=A.in1) P I ax Z items;intro m
 induction m with
 |zero=>
  intro i h tk hm hi it n j kp;have e:i=items.size:=by omega
  subst e;refine Uv F.entry_upd_loop ?_;rw[Rp.under_plainId F.plain_upd_loop _];refine QE (W.done _ _ _ ⟨it,n⟩ fun h' l a=> ?_);rw[List.take_of_length_le (by omega)] at j;refine QE (QQ (QQ ?_));refine T h' l (j.at fun o e=>a dd o (by simp;exact fun z=>E z.symm) e) fun b o h1 h2 e=>a b o (by simp;exact h2) (kp b o h1 h2 e)
 |succ m ih=>
  intro i h tk hm hi it n j kp;have K:i<items.size:=by omega
  refine Uv F.entry_upd_loop ?_;rw[Rp.under_plainId F.plain_upd_loop _];refine QE (W.item i _ _ _ K ⟨it,n⟩ fun v h' l N st a=> ?_);obtain⟨q,key,k,x,rfl,t,f,u,Y,O⟩:=hp i v N;have r:=O.at fun o e=>a q o (by simp;exact f) (kp q o t f e);have J:=j.at fun o e=>a dd o (by simp;exact fun z=>E z.symm) e;have p:=fun b o h1 h2 e=>a b o (by simp;exact h2) (kp b o h1 h2 e);obtain⟨M,g,B,nq,y⟩:=r;obtain⟨cq,dq,U,L⟩:=M;cases B;cases y;have S:({s with heap:=h',toks:=l}:QL).TypeIs (.ref q) "tuple":=⟨_,g,rfl⟩;refine QE (Tu (QE ?_));refine W0 ?_;unfold RY.Dict.pairItems;refine QE (aaD S ?_);rw[if_pos (by decide)];refine QE ?_;unfold seqItems?;refine QE (acs g (QQ (QQ ?_)));refine Tu (wpAny_dictSet_pairs Y J (fun h2 X s2=> ?_) ?_)
  ·refine QQ ⟨Uq F.plain_upd_loop _,?_⟩;have H:∀b o,b≠dd->h'.get? b=QB o->h2.get? b=QB o:=fun b o Q e=>(s2.2 b Q).trans e;refine ih (i+1) h2 (l+1) (by omega) K (st.1.at fun o e=>H I o E e) (st.2.at fun o e=>H ax o C e) ?_ fun b o h1 h2 e=>H b o h1 (p b o h1 h2 e);rw[merged_take_succ [] ks i (k,x) u];exact X
  ·have:(merged [] (ks.take i)).length<=(ks.take i).length:=yF _;rw[SE] at this;omega
end
end PySem
namespace PySem
open Sem (wp)
open PyProof.Rows
section
variable {prog:Q7} {w:Rv} {A:Rp} {E:QD->QL->Prop} {s:QL} {K:Type} [DecidableEq K] {knd:KeyKind prog w K} {ax:QI} {items:Array QD} {ks:List (K×QD)} {R:Yh->QL->Prop}
theorem pk (z:A.handled=QF) (y:s.heap.get? ax=QB ⟨.type "tuple",QF,.seq items n,sl⟩) (C:ks.length=items.size) (hz:items.size<=QU)
  (hp:∀(i:Nat) (v:QD),items[i]? =QB v->∃q key k x,v= .ref q/\ks[i]? =QB (k,x)/\knd.is k key=QG/\s.heap.IsTuple q #[key,x])
  (h:∀h' tk,h'.DictOf knd s.heap.objs.size (merged [] ks)->(∀b o,s.heap.get? b=QB o->h'.get? b=QB o)->Q (.ref s.heap.objs.size) {s with heap:=h',toks:=tk}):
  wpAny (model prog w) A (call (.type "dict") [.ref ax]) Q E s:=by
 refine callType_codes (Q₁:=fun obj f=>obj= .ref s.heap.objs.size/\f={s with heap:=s.heap.push {cls:= .type "dict",data:= .dict #[]}}) F.kt_called_dict (F.kt_typeCall_dict_1 _) F.entry_dict_init (kt_code_dict_new _ ⟨rfl,rfl⟩) ?_;rintro obj f ⟨rfl,rfl⟩;have a:(s.heap.push {cls:= .type "dict",data:= .dict #[]}).DictOf knd s.heap.objs.size []:=Heap.DictOf.new s.heap;have t:(s.heap.push {cls:= .type "dict",data:= .dict #[]}).get? ax=QB ⟨.type "tuple",QF,.seq items n,sl⟩:=Heap.get?_push_of_some _ y;have G:({s with heap:=s.heap.push {cls:= .type "dict",data:= .dict #[]}}:QL).TypeIs (.ref ax) "tuple":=⟨_,t,rfl⟩;refine⟨a.typeIs,F.args_dict_init_2 _ _,?_⟩;unfold RY.«dict.__init__»;refine QE ?_;unfold RY.Dict.selfAndRest;refine QE (wpAny_notOrdered_dict a.typeIs ?_);refine QQ ?_;show wpAny _ _ (RY.Dict.updateFrom "dict.__init__" s.heap.objs.size (.ref ax) [] .none) _ _ _;unfold RY.Dict.updateFrom;refine QE (aaD G ?_);rw[if_pos (by decide)];refine QE (oU t z fun h' B l=> ?_);rw[if_pos (show(QF:Option QD).isNone=QG from rfl)];refine QE (XD ?_);have j:=l _ _ t;have r:h'.IsTuple ax items:=⟨_,j,rfl,n,rfl⟩;refine QE (WI r ?_);refine QQ ⟨Uq F.plain_upd_loop _,?_⟩;have N0:s.heap.objs.size<h'.objs.size:=by obtain⟨o,_,_,m,_⟩:=a;exact Heap.lt_size (l _ _ m)
 have g:=Heap.lt_size y;refine GU (A:=A.in1) (knd:=knd) z (Ra (Uy g N0)) (Se N0) (Ra g) (fun i v e=> ?_) C hz (fun h2 p I k2=> ?_) items.size 0 _ B (by omega) (RF _) ⟨_,Heap.get?_push_size _ rfl,rfl,rfl⟩ ⟨_,Heap.get?_push_of_some _ j,rfl,n,rfl⟩ ?_ fun b o _ _ e=>e
 ·obtain⟨q,key,k,x,rfl,h1,h2,o,m,H⟩:=hp i v e;have u:=Heap.lt_size m;exact⟨q,key,k,x,rfl,Ra u,Ra (Uy u N0),h1,h2,o,Heap.get?_push_of_some _ (l _ _ (Heap.get?_push_of_some _ m)),H⟩
 ·refine⟨rfl,h h2 p I fun b o e=> ?_⟩;have lb:=Heap.lt_size e;exact k2 b o (Ra lb) (Ra (Uy lb N0)) (Heap.get?_push_of_some _ (l _ _ (Heap.get?_push_of_some _ e)))
 ·have:=a.at (h':=h'.push {cls:= .type "tuple_iterator",data:= .fields #[.ref ax,.int 0 0]}) fun o e=>Heap.get?_push_of_some _ (l _ _ e);exact this
end
end PySem
namespace L10
open PySem PySem.Spec PyProof.Rows L2 L3
inductive Ye (K:QC) (H:Hp):List V->List (cD×V)->Prop
 |nil:Ye K H [] []
 |cons {q:QI} {k:cD} {v:V} {vs:List V} {Rc:List (cD×V)}:Vx K H q [kV k,v]->Ye K H vs Rc->Ye K H (.ref q::vs) ((k,v)::Rc)
def EC (K:QC):List V->Hp->VK->Prop:=fun xs H Q=>∃p ys Rc,xs=[.ref p]/\Vx K H p ys/\Ye K H ys Rc/\∀d,H d=QF->Q (.ref d) (bv H d (.dK (nj [] Rc)))
theorem EF (I:Inv X pins σ H s):∀{ys:List V} {Rc:List (cD×V)} {us:List QD},Ye X.K H ys Rc->Vals ys us->∃ks:List (cD×QD),KV Rc ks/\ks.length=us.length/\∀(i:Nat) (v:QD),us[i]? =QB v->∃q key k x,v= .ref q/\ks[i]? =QB (k,x)/\(cQ X.prog X.w).is k key=QG/\s.heap.IsTuple q #[key,x]
 |_,_,_,.nil,.nil=>⟨[],.nil,rfl,fun i v e=>by simp at e⟩
 |_,_,_,.cons (q:=q) (k:=k) (v:=v) h t,.cons r rs=>by
  obtain⟨ks,h1,h2,m⟩:=EF I t rs;obtain⟨RE,rv,pl,_⟩:=I.tuple h;cases r;obtain⟨g,f,rfl,l,j⟩:∃g f,RE=[g,f]/\RelV (kV k) g/\RelV v f:=by
   cases rv with
   |cons a b=>cases b with
    |cons b c=>cases c;exact⟨_,_,rfl,a,b⟩
  refine⟨(k,f)::ks,.cons ⟨rfl,j⟩ h1,by rw[Q0,Q0,h2],fun i u e=> ?_⟩;cases i with
  |zero=>cases e;exact⟨q,g,k,f,rfl,rfl,ue l,pl⟩
  |succ i=>exact m i u (by simpa using e)
theorem zQ (z:X.calm=QG):T4 X (.type "dict") (EC X.K):=by
 intro pins s σ H xs us Q I r h;obtain⟨p,ys,Rc,rfl,l,hp,q⟩:=h;obtain⟨u,rfl,f⟩:=lz r;cases f;obtain⟨RE,rv,⟨o,m,⟨b,n,hd⟩,a⟩,j⟩:=I.ac9 l;obtain⟨ks,k1,k2,k3⟩:=EF I hp rv;obtain⟨oc,od,g,Y0⟩:=o;cases b;cases hd;cases a;have t:=rv.length;have w:=k1.length;refine pk (I.ok.hd z) m (by rw[Q1];exact k2) (by rw[Q1,<-t];exact j) (fun i v e=>k3 i v (by simpa using e)) fun h' tk dd y=> ?_;refine⟨.ref s.heap.objs.size,_,I.laid y (QS _) ?_,rfl,q _ (I.Sa.fresh (QS _))⟩;refine yE ?_ ?_ (KV.merge k1 .nil) dd
 ·have:=lj Rc [];rw[SM] at this;omega
 ·exact beq_eq_false_iff_ne.mpr (Se I.big)
end L10
namespace L10
open PySem PyProof.Rows L2 L3
theorem Md:RP "dict"=QB (.type "dict"):=by decide+kernel
section
variable {B O O':ce} {K:QC} {E:XK} {H H' H1 H2:Hp} {α α' α1 α2:List QI} {Z Z' Z1 Z2:aX} {σ:L2.St} {ρ:bu} {v:V}
noncomputable def sW:SV->Option cD
 | .fz (.int i)=>QB (.inl i)
 | .fz (.str x)=>QB (.inr x)
 |_=>QF
theorem pJ (e:sW x=QB k) (h:Ur O K H α v x):v=kV k:=by
 unfold sW at e;split at e
 ·cases e;cases h;rfl
 ·cases e;cases h;rfl
 ·cases e
noncomputable abbrev uM (O:ce) (K:QC) (H:Hp) (α:List QI):List (cD×V)->List (cD×SV)->Prop:=Paired (fun(p:cD×V) (q:cD×SV)=>p.1=q.1/\Ur O K H α p.2 q.2)
noncomputable def gR (Z:aX):SV->Option (Nat×List (cD×SV))
 | .rf i=>match Z[i]? with
  |some (.WN Rc)=>QB (i,Rc)
  |_=>QF
 |_=>QF
theorem lU (s:Rq B K H α Z) (b:Ur (ow B α Z) K H α v x) (h:gR Z x=QB (i,Rc)):Z[i]? =QB (.WN Rc)/\∃a ws,α[i]? =QB a/\v= .ref a/\H a=QB (.dK ws)/\uM (ow B α Z) K H α ws Rc:=by
 cases x with
 |fz d=>cases h
 |tp l=>cases h
 |rf j=>
  obtain⟨a,ha,rfl⟩:=b;unfold gR at h;dsimp only at h;cases q:Z[j]? with
  |none=>rw[q] at h;cases h
  |some c=>
   rw[q] at h;cases c with
   |WN ys=>have e:=QX h;cases e;obtain⟨ws,h1,h2⟩:=s.X3 i a _ ha q;exact⟨q,a,ws,ha,rfl,h1,h2⟩
   |_=>cases h
noncomputable def ji (Rc:List (cD×SV)) (k:cD):Option SV:=(Rc.find? fun a=>decide (a.1=k)).map (·.2)
noncomputable def jB (Rc:List (cD×SV)) (k:cD) (x:SV):List (cD×SV):=
 if(Rc.any fun a=>decide (a.1=k))=QG then Rc.map (fun a=>if a.1=k then(a.1,x) else a) else Rc++[(k,x)]
noncomputable def lX (Rc:List (cD×SV)) (k:cD):List (cD×SV):=Rc.filter fun a=>decide (a.1≠k)
theorem pB:∀{ws:List (cD×V)} {Rc:List (cD×SV)},uM O K H α ws Rc->(∀x,ji Rc k=QB x->∃v,jF ws k=QB v/\Ur O K H α v x)/\(ji Rc k=QF->jF ws k=QF)
 |_,_,.nil=>⟨fun x e=>(by cases e),fun _=>rfl⟩
 |(a,u)::ws,(b,y)::Rc,.cons ⟨h1,h2⟩ t=>by
  cases h1;unfold ji jF;rw[RB,RB];by_cases e:a=k
  ·simp only[decide_eq_true e];exact⟨fun x h=>⟨u,rfl,by cases h;exact h2⟩,fun h=>by cases h⟩
  ·simp only[decide_eq_false e];exact pB t
theorem OV:∀{ws:List (cD×V)} {Rc:List (cD×SV)},uM O K H α ws Rc->(ws.any fun kv=>decide (kv.1=k))=Rc.any fun kv=>decide (kv.1=k)
 |_,_,.nil=>rfl
 |(a,u)::ws,(b,y)::Rc,.cons ⟨h1,h2⟩ t=>by cases h1;rw[UM,UM,OV t]
theorem Nr (f:Ur O K H α v x):∀{ws:List (cD×V)} {Rc:List (cD×SV)},uM O K H α ws Rc->uM O K H α (ws.map (fun kv=>if kv.1=k then(kv.1,v) else kv)) (Rc.map (fun kv=>if kv.1=k then(kv.1,x) else kv))
 |_,_,.nil=> .nil
 |(a,u)::ws,(b,y)::Rc,.cons ⟨h1,h2⟩ t=>by
  cases h1;rw[QY,QY];by_cases e:a=k
  ·rw[if_pos e,if_pos e];exact .cons ⟨rfl,f⟩ (Nr f t)
  ·rw[if_neg e,if_neg e];exact .cons ⟨rfl,h2⟩ (Nr f t)
theorem Fs (h:uM O K H α ws Rc) (r:p.1=q.1/\Ur O K H α p.2 q.2):uM O K H α (ws++[p]) (Rc++[q]):=by
 induction h with
 |nil=>exact .cons r .nil
 |cons a _ ih=>exact .cons a ih
theorem B2 (a:Ur O K H α v x) (h:uM O K H α ws Rc):uM O K H α (iQ ws k v) (jB Rc k x):=by
 unfold iQ jB;rw[OV h];split
 ·exact Nr a h
 ·exact Fs h ⟨rfl,a⟩
theorem sj:∀{ws:List (cD×V)} {Rc:List (cD×SV)},uM O K H α ws Rc->uM O K H α (mj ws k) (lX Rc k)
 |_,_,.nil=> .nil
 |(a,u)::ws,(b,y)::Rc,.cons ⟨h1,h2⟩ t=>by
  cases h1;unfold mj lX;rw[VH,VH];by_cases e:a=k
  ·have z:decide (a≠k)=QN:=decide_eq_false fun n=>n e;simp only[z];exact sj t
  ·have z:=decide_eq_true e;simp only[z];exact .cons ⟨rfl,h2⟩ (sj t)
noncomputable def yr (neg:Bool) (fk fd:dh):dh:=fun ρ Z=>(fk ρ Z).bind fun x Z1=>(fd ρ Z1).bind fun o Z2=>(RS.RO Z2 (sW x)).bind fun k Z2=>(RS.RO Z2 (gR Z2 o)).bind fun p Z2=> .ok (.fz (.bool ((ji p.2 k).isSome !=neg))) Z2
theorem Gf (h:uM O K H α ws Rc):(jF ws k).isSome=(ji Rc k).isSome:=by
 obtain⟨h1,h2⟩:=pB h;cases q:ji Rc k with
 |none=>rw[h2 q];rfl
 |some x=>obtain⟨u,e,_⟩:=h1 x q;rw[e];rfl
theorem JV (h:cJ K E tk fk) (hd:cJ K E td fd):cJ K E (On tk td) (yr QN fk fd):=by intro B σ H α Z ρ Q s sl w;refine h B σ H α Z ρ _ s sl (w.bind.imp fun x α1 Z1 H1 m s1 w1 v f=> ?_);refine hd B σ H1 α1 Z1 ρ _ s1 (sl.TC m) (w1.bind.imp fun o α2 Z2 H2 n s2 b u g=> ?_);obtain⟨k,q1,b⟩:=WS.RO b;obtain⟨⟨i,Rc⟩,e,b⟩:=WS.RO b;obtain⟨_,a,ws,ha,rfl,l,j⟩:=lU s2 g e;refine⟨a,jF ws k,rfl,by rw[pJ q1 f];exact Yv.k l,?_⟩;rw[Gf j];refine WS.now s2 b _ ?_;rw[Bool.bne_false];exact .bl _
noncomputable def uv (fd fk:dh):dh:=fun ρ Z=>(fd ρ Z).bind fun o Z1=>(fk ρ Z1).bind fun x Z2=>(RS.RO Z2 (sW x)).bind fun k Z2=>(RS.RO Z2 (gR Z2 o)).bind fun p Z2=>RS.RO Z2 (ji p.2 k)
theorem xg (hd:cJ K E td fd) (l:cJ K E tk fk):cJ K E (K0 td tk) (uv fd fk):=by
 intro B σ H α Z ρ Q s sl w;refine hd B σ H α Z ρ _ s sl (w.bind.imp fun o α1 Z1 H1 r s1 w1 u j=> ?_);refine l B σ H1 α1 Z1 ρ _ s1 (sl.TC r) (w1.bind.imp fun x α2 Z2 H2 p s2 b v h=> ?_);obtain⟨k,q1,b⟩:=WS.RO b;obtain⟨⟨i,Rc⟩,f,b⟩:=WS.RO b;obtain⟨_,a,ws,ha,rfl,n,m⟩:=lU s2 (j.TC p) f;dsimp only at b;cases q:ji Rc k with
 |none=>rw[q] at b;exact b.elim
 |some y=>rw[q] at b;obtain⟨z,g,e⟩:=(pB m).1 y q;exact⟨a,z,rfl,by rw[pJ q1 h,<-g];exact Yv.k n,WS.now s2 b z e⟩
noncomputable def wE (fd fk fv:dh):eS:=fun ρ Z=>(fv ρ Z).bind fun y Z1=>(fd ρ Z1).bind fun o Z2=>(fk ρ Z2).bind fun x Z3=>(RS.RO Z3 (sW x)).bind fun k Z3=>(RS.RO Z3 (gR Z3 o)).bind fun p Z3=>if p.2.length<1000000 then .ok (.nx ρ) (Z3.set p.1 (.WN (jB p.2 k y))) else .bad
theorem F1 (hd:cJ K E td fd) (J:cJ K E tk fk) (G:cJ K E tv fv):mX K E (KJ td tk tv) (wE fd fk fv):=by
 intro B σ H α Z ρ D s sl w;refine G B σ H α Z ρ _ s sl (WS.imp (WS.bind w) fun y α1 Z1 H1 n s1 w1 p j=> ?_);refine hd B σ H1 α1 Z1 ρ _ s1 (sl.TC n) (WS.imp (WS.bind w1) fun o α2 Z2 H2 m s2 A u I=> ?_);refine J B σ H2 α2 Z2 ρ _ s2 (sl.TC (n.trans m)) (WS.imp (WS.bind A) fun x b Z3 f l q e z F=> ?_);obtain⟨k,q1,e⟩:=WS.RO e;obtain⟨⟨i,Rc⟩,C,e⟩:=WS.RO e;obtain⟨g,a,ws,ha,rfl,L,t⟩:=lU q (I.TC l) C;dsimp only at e;by_cases hn:Rc.length<1000000
 ·rw[if_pos hn] at e;have ev:Ev (ow B b Z3) f (ow B b Z3) (bv f a (.dK (iQ ws k p))):=n9 ha g (by intro z;cases z);have v:SR b Z3 f b (Z3.set i (.WN (jB Rc k y))) (bv f a (.dK (iQ ws k p))):=SR.put ha g (by intro z;cases z) (by intro z;cases z);have M:=Paired.length t;refine⟨a,_,rfl,by rw[pJ q1 F];exact aaZ.k L (tP (by omega)),?_⟩;exact e b _ v (q.put ha g (by intro z;cases z) (by intro z;cases z) ⟨_,aC,B2 ((j.TC (m.trans l)).ev ev fun _ _ h=>h) (Paired.Vg t fun _ _ r=>⟨r.1,r.2.ev ev fun _ _ h=>h⟩)⟩) σ ((sl.TC (n.trans (m.trans l))).TC v)
 ·rw[if_neg hn] at e;exact e.elim
noncomputable def x9 (fd fk:dh):dh:=fun ρ Z=>(fd ρ Z).bind fun o Z1=>(RS.RO Z1 (gR Z1 o)).bind fun _ Z1=>(fk ρ Z1).bind fun x Z2=>(RS.RO Z2 (sW x)).bind fun k Z2=>(RS.RO Z2 (gR Z2 o)).bind fun p Z2=>(RS.RO Z2 (ji p.2 k)).bind fun y Z2=> .ok y (Z2.set p.1 (.WN (lX p.2 k)))
theorem Gp (hd:cJ K E td fd) (C:cJ K E tk fk):cJ K E (ES td tk) (x9 fd fk):=by intro B σ H α Z ρ Q s sl w;refine hd B σ H α Z ρ _ s sl (w.bind.imp fun o α1 Z1 H1 J s1 w1 u g=> ?_);obtain⟨⟨i0,L⟩,p,w1⟩:=WS.RO w1;obtain⟨_,a,e,_,rfl,g0,_⟩:=lU s1 g p;refine⟨a,rfl,.inl ⟨e,.inl g0⟩,?_⟩;refine C B σ H1 α1 Z1 ρ _ s1 (sl.TC J) (w1.bind.imp fun x α2 Z2 H2 I s2 b v A=> ?_);obtain⟨k,q1,b⟩:=WS.RO b;obtain⟨⟨i,Rc⟩,n,b⟩:=WS.RO b;obtain⟨f,M,ws,ha,G,F,j⟩:=lU s2 (g.TC I) n;cases G;dsimp only at b;obtain⟨y,q,b⟩:=WS.RO b;obtain⟨z,t,m⟩:=(pB j).1 y q;have ev:Ev (ow B α2 Z2) H2 (ow B α2 Z2) (bv H2 a (.dK (mj ws k))):=n9 ha f (by intro z;cases z);have l:SR α2 Z2 H2 α2 (Z2.set i (.WN (lX Rc k))) (bv H2 a (.dK (mj ws k))):=SR.put ha f (by intro z;cases z) (by intro z;cases z);refine⟨ws,k,z,F,pJ q1 A,t,?_⟩;exact b α2 _ l (s2.put ha f (by intro z;cases z) (by intro z;cases z) ⟨_,aC,sj (Paired.Vg j fun _ _ r=>⟨r.1,r.2.ev ev fun _ _ h=>h⟩)⟩) z (m.TC l)
theorem mv (s:Rq B K H α Z) (hp:H p=QF) (w:WS K E B H α Z (PQ B K Q) (.ok (.rf Z.length) (Z++[c]))) (b:∀e:SR α Z H (α++[p]) (Z++[c]) (bv H p o),COk (ow B (α++[p]) (Z++[c])) K (bv H p o) (α++[p]) p c):Q (.ref p) (bv H p o):=by have a:SD H (bv H p o):=bM hp _;have e:SR α Z H (α++[p]) (Z++[c]) (bv H p o):=SR.Y5 s.len a hp;exact w _ _ e (s.Y5 a hp (by rw[aC];simp) (b e)) _ ⟨p,by rw[<-s.len];exact bh,rfl⟩
noncomputable def Bx (fd:dh):dh:=fun ρ Z=>(fd ρ Z).bind fun o Z1=>(RS.RO Z1 (gR Z1 o)).bind fun p Z1=> .ok (.rf Z1.length) (Z1++[.lst (p.2.map (·.2))])
theorem wI:∀{ws:List (cD×V)} {Rc:List (cD×SV)},uM O K H α ws Rc->T5 O K H α (ws.map (·.2)) (Rc.map (·.2))
 |_,_,.nil=> .nil
 |_,_,.cons h t=> .cons h.2 (wI t)
theorem yj (hd:cJ K E td fd):cJ K E (Ec Fd (iq (Mg K "dict" Kz td) mO)) (Bx fd):=by intro B σ H α Z ρ Q s sl w;refine hd B σ H α Z ρ _ s sl (w.bind.imp fun o α1 Z1 H1 t s1 w1 u j=> ?_);obtain⟨⟨i,Rc⟩,h,w1⟩:=WS.RO w1;obtain⟨q,a,ws,ha,rfl,f,n⟩:=lU s1 j h;refine⟨.inr (.inr (.inl ⟨rfl,.inl ⟨ws,f⟩⟩)),a,ws,rfl,rfl,f,fun p hp=> ?_⟩;have b:SD H1 (bv H1 p (Pn p a)):=bM hp _;have s2:=s1.grow b;have g:=WS.from (SR.same b) w1;refine⟨p,a,ws,rfl,aC,b _ _ f,fun l m=> ?_⟩;refine mv s2 m g fun e=>⟨_,aC,wI (Paired.Vg n fun _ _ r=>⟨r.1,(r.2.TC (SR.same b)).TC e⟩)⟩
noncomputable def Ad:cD->Option Int
 | .inl i=>QB i
 | .inr _=>QF
noncomputable def ud (fd:dh):dh:=fun ρ Z=>(fd ρ Z).bind fun o Z1=>(RS.RO Z1 (gR Z1 o)).bind fun p Z1=>(RS.RO Z1 (aJ Ad (p.2.map (·.1)))).bind fun ns Z1=>if ns.length<64 then .ok (.rf Z1.length) (Z1++[.lst ((jS ns).map fun i=>SV.fz (.int i))]) else .bad
theorem qW:∀{ks:List cD} {ns:List Int},aJ Ad ks=QB ns->ks=ns.map Sum.inl
 |[],_,e=>by cases e;rfl
 |k::r,ns,e=>by
  unfold aJ at e;cases k with
  |inr x=>cases e
  |inl i=>
   dsimp only[Ad] at e;cases q:aJ Ad r with
   |none=>rw[q] at e;cases e
   |some ms=>rw[q] at e;cases e;rw[QY,<-qW q]
theorem xy:∀{ws:List (cD×V)} {Rc:List (cD×SV)},uM O K H α ws Rc->ws.map (·.1)=Rc.map (·.1)
 |_,_,.nil=>rfl
 |_,_,.cons h t=>by rw[QY,QY,h.1,xy t]
theorem Az (O:ce) (K:QC) (H:Hp) (α:List QI):∀ns:List Int,T5 O K H α (ns.map V.int) (ns.map fun i=>SV.fz (.int i))
 |[]=> .nil
 |n::r=> .cons (.int n) (Az O K H α r)
theorem yw (hd:cJ K E td fd):cJ K E (Ec Et (iq td mO)) (ud fd):=by
 intro B σ H α Z ρ Q s sl w;refine hd B σ H α Z ρ _ s sl (w.bind.imp fun o α1 Z1 H1 t s1 w1 u g=> ?_);obtain⟨⟨i,Rc⟩,f,w1⟩:=WS.RO w1;obtain⟨q,a,ws,ha,rfl,n,m⟩:=lU s1 g f;obtain⟨ns,b,w1⟩:=WS.RO w1;by_cases hn:ns.length<64
 ·rw[if_pos hn] at w1;refine⟨a,ws,ns,rfl,n,by rw[xy m];exact qW b,hn,fun l r j hp h=> ?_⟩;have p:=kX (hp.trans (eK ns).symm) h (dX ns);subst p;exact mv s1 j w1 fun e=>⟨_,aC,Az _ _ _ _ _⟩
 ·rw[if_neg hn] at w1;exact w1.elim
noncomputable def qO:D->Option (cD×SV)
 | .tuple [.int i,d]=>QB (.inl i,.fz d)
 | .tuple [.str x,d]=>QB (.inr x,.fz d)
 |_=>QF
noncomputable def vj:SV->Option (List (cD×SV))
 | .fz (.tuple ds)=>aJ qO ds
 |_=>QF
theorem CH (e:vj x=QB ps):∃ds,x= .fz (.tuple ds)/\aJ qO ds=QB ps:=by
 unfold vj at e;split at e
 ·exact⟨_,rfl,e⟩
 ·cases e
noncomputable def lJ (Rc more:List (cD×SV)):List (cD×SV):=more.foldl (fun a b=>jB a b.1 b.2) Rc
noncomputable def xN (fe:dh):dh:=fun ρ Z=>(fe ρ Z).bind fun x Z1=>(RS.RO Z1 (vj x)).bind fun ps Z1=> .ok (.rf Z1.length) (Z1++[.WN (lJ [] ps)])
theorem xw:∀{vs:List V} {ds:List D} {ps:List (cD×SV)},L3.SY O K H vs ds->aJ qO ds=QB ps->∃Rc,Ye K H vs Rc/\uM O K H α Rc ps
 |_,_,_,.nil,e=>by cases e;exact⟨[],.nil,.nil⟩
 |_,_,_,.cons (d:=d) (ds:=ds) h t,e=>by
  unfold aJ at e;cases q:qO d with
  |none=>rw[q] at e;cases e
  |some p=>
   rw[q] at e;dsimp only at e;cases q2:aJ qO ds with
   |none=>rw[q2] at e;cases e
   |some ps=>
    rw[q2] at e;cases e;obtain⟨Rc,k1,k2⟩:=xw t q2;unfold qO at q;split at q
    ·cases q
     cases h with
     |tup h hs=>cases hs with
      |cons a b=>cases b with
       |cons b c=>cases c;cases a;exact⟨(.inl _,_)::Rc,.cons h.1 k1,.cons ⟨rfl,b⟩ k2⟩
    ·cases q
     cases h with
     |tup h hs=>cases hs with
      |cons a b=>cases b with
       |cons b c=>cases c;cases a;exact⟨(.inr _,_)::Rc,.cons h.1 k1,.cons ⟨rfl,b⟩ k2⟩
    ·cases q
theorem BS:∀{more:List (cD×V)} {e:List (cD×SV)} {ws:List (cD×V)} {Rc:List (cD×SV)},uM O K H α more e->uM O K H α ws Rc->uM O K H α (nj ws more) (lJ Rc e)
 |_,_,_,_,.nil,h=>h
 |(a,u)::more,(b,y)::e,_,_,.cons r t,h=>by obtain⟨r1,f⟩:=r;cases r1;show uM O K H α (nj (iQ _ a u) more) (lJ (jB _ a y) e);exact BS t (B2 f h)
theorem Fm (f:cJ K E te fe):cJ K E (Ec (EC K) (iq te mO)) (xN fe):=by
 intro B σ H α Z ρ Q s sl w;refine f B σ H α Z ρ _ s sl (w.bind.imp fun x α1 Z1 H1 g s1 w1 u b=> ?_);obtain⟨ps,q,a⟩:=WS.RO w1;obtain⟨ds,rfl,q⟩:=CH q;have a:=a;cases b with
 |tup h hs=>obtain⟨Rc,k1,k2⟩:=xw hs q;exact⟨_,_,Rc,rfl,h.1,k1,fun d hd=>mv s1 hd a fun e=>⟨_,aC,BS (Paired.Vg k2 fun _ _ r=>⟨r.1,r.2.TC e⟩) .nil⟩⟩
end
end L10
namespace PySem
open PyProof.Rows
noncomputable def kY:Option Int->Int->Option Int
 |none,x=>QB x
 |some m,x=>QB (if x>m then x else m)
noncomputable def OU:Option (Int×Tok)->Array QD
 |none=> #[]
 |some (m,t)=> #[.int m t,.int m t]
noncomputable def Lu (d:QD):Option (Int×Tok)->QD
 |none=>d
 |some (m,t)=> .int m t
namespace F
theorem args_maxd (a b:QD):checkBuiltinCall "max" ⟨[a],[("default",b)]⟩=pure ():=by kernel_rfl
end F
section
variable {prog:Q7} {w:Rv} {A:Rp} {E:QD->QL->Prop} {R:Yh->QL->Prop} {I l S:QI} {vs:List QD} {d:QD}
theorem HI (X:A.handled=QF) (Z:l≠I) (j:S≠I) (G:S≠l) {s:QL}:
  ∀{u:List QD} {ns:List Int},IntsAre u ns->∀(i:Nat) (h:Heap) (tk:Nat) (b:Option (Int×Tok)) (c:Nat),vs=vs.take i++u->i<=vs.length->h.IsListIter I l i->h.IsList l vs.toArray->h.get? S=QB {cls:= .type "list",dict:=QF,data:= .seq (OU b) c,slots:= #[]}->
  (∀h' tk b',b'.map (·.1)=ns.foldl kY (b.map (·.1))->(∀a o,a≠I->a≠S->h.get? a=QB o->h'.get? a=QB o)->R (.ok (.ret (Lu d b'))) {s with heap:=h',toks:=tk})->
  codeAny (model prog w) A (.builtin "max.loop" ⟨[.ref I,.none,.ref S],[("default",d)]⟩) R {s with heap:=h,toks:=tk}:=by
 have W:=Walks.list (prog:=prog) (w:=w) (A:=A.in1) X I l Z vs.toArray;intro u ns hi
 induction hi with
 |nil=>
  intro i h tk b c q hi it N H B;have e:i=vs.toArray.size:=by rw[Rf] at q;have:=congrArg Wg q;rw[SE] at this;rw[Q1];omega
  refine Uv F.entry_max_loop ?_;rw[Rp.under_plainId F.plain_max_loop _];refine QE (Sv H rfl ?_);refine QE (W0 (W.done _ _ _ (e▸⟨it,N⟩) fun h' C r=> ?_));have f:=r S _ (by simpa using j) H;cases b with
  |none=>refine QE (XD (QQ ?_));exact B h' C QF rfl fun a o h1 h2 e=>r a o (by simpa using h1) e
  |some p=>obtain⟨m,t⟩:=p;refine QE (YN f rfl (QE (UD (QQ ?_))) (hz:=by show 2<=QU;decide));exact B _ C (QB (m,t)) rfl fun a o h1 h2 e=>(Heap.get?_update_other _ _ (Ne.symm h2)).trans (r a o (by simpa using h1) e)
 | @cons n t agj ad9 hr ih=>
  intro i h tk b c q hi it N H B;have U:i<vs.toArray.size:=by have:=congrArg Wg q;rw[QM,SE,Q0] at this;rw[Q1];omega
  have E:vs[i]? =QB (.int n t):=by rw[q,Ru (by rw[SE];omega),SE,Nat.min_eq_left hi,adX];rfl
  have y:vs=vs.take (i+1)++agj:=by rw[TV,E];rw[Rj];exact q
  have Q:i+1<=vs.length:=by rw[Q1] at U;exact U
  refine Uv F.entry_max_loop ?_;rw[Rp.under_plainId F.plain_max_loop _];refine QE (Sv H rfl ?_);refine QE (W0 (W.item i _ _ _ U ⟨it,N⟩ fun v h' C Y st r=> ?_));have ev:v= .int n t:=by have J:=Y;rw[List.getElem?_toArray,E] at J;exact(QX J).symm
  subst ev;have f:=r S _ (by simpa using j) H;have T:(toString "max"++toString ".loop":String)= "max.loop":=by decide
  cases b with
  |none=>
   show wpAny _ A.in1 (updateSeq S (fun _=> #[QD.int n t,QD.int n t])>>=_) _ _ _;refine QE (YN f rfl ?_);rw[T];refine QQ ⟨Uq F.plain_max_loop _,ih (i+1) _ C (QB (n,t)) _ y Q (st.1.at fun o e=> ?_) (st.2.at fun o e=> ?_) (Heap.get?_update_self _ f rfl) fun h2 g L K k2=>B h2 g L K fun a o h1 z e=>k2 a o h1 z ((Heap.get?_update_other _ _ (Ne.symm z)).trans (r a o (by simpa using h1) e))⟩
   ·exact(Heap.get?_update_other _ _ j).trans e
   ·exact(Heap.get?_update_other _ _ G).trans e
  |some p=>
   obtain⟨m,M⟩:=p;show wpAny _ A.in1 (tryCatch (holding [QD.int n t,QD.int n t] (richCompare .Gt (QD.int n t) (QD.int m M)>>=_)) _>>=_) _ _ _;have O:=CmpOf.ints_gt (prog:=prog) (w:=w) (A:=A.in1) (P:=fun(k:Nat) v=>(k=0/\v=QD.int n t)\/(k=1/\v=QD.int m M)) (fun k=>if k=0 then n else m) fun k v q=>by
    rcases q with⟨rfl,rfl⟩|⟨rfl,rfl⟩
    ·exact⟨t,rfl⟩
    ·exact⟨M,rfl⟩
   refine QE (W0 (Tu (QE (O 0 1 _ _ _ _ _ (.inl ⟨rfl,rfl⟩) (.inr ⟨rfl,rfl⟩) ?_))));refine QE (Tu (Tj ?_));refine QE (UD (QQ ?_));show wpAny _ A.in1 (if decide (n>m)=QG then _ else _) _ _ _;by_cases hb:n>m
   ·rw[if_pos (decide_eq_true hb)]
    refine QE (YN f rfl (QE (UD ?_)) (hz:=by show 2<=QU;decide));rw[T];refine QQ ⟨Uq F.plain_max_loop _,ih (i+1) _ C (QB (n,t)) _ y Q (st.1.at fun o e=> ?_) (st.2.at fun o e=> ?_) (Heap.get?_update_self _ f rfl) fun h2 g L K k2=>B h2 g L ?_ fun a o h1 z e=>k2 a o h1 z ((Heap.get?_update_other _ _ (Ne.symm z)).trans (r a o (by simpa using h1) e))⟩
    ·exact(Heap.get?_update_other _ _ j).trans e
    ·exact(Heap.get?_update_other _ _ G).trans e
    ·rw[K];show _=ad9.foldl kY (QB (if n>m then n else m));rw[if_pos hb];rfl
   ·rw[if_neg (by rw[decide_eq_false hb];exact QV)];refine QE (UD ?_);rw[T];refine QQ ⟨Uq F.plain_max_loop _,ih (i+1) _ C (QB (m,M)) c y Q st.1 st.2 f fun h2 g L K k2=>B h2 g L ?_ fun a o h1 z e=>k2 a o h1 z (r a o (by simpa using h1) e)⟩;rw[K];show _=ad9.foldl kY (QB (if n>m then n else m));rw[if_neg hb];rfl
theorem Dm (m:A.handled=QF) (g:s.heap.IsList l vs.toArray) (hi:IntsAre vs ns)
  (p:∀h' tk b,b.map (·.1)=ns.foldl kY QF->(∀a o,s.heap.get? a=QB o->h'.get? a=QB o)->Q (Lu d b) {s with heap:=h',toks:=tk}):
  wpAny (model prog w) A (call (.builtin "max") [.ref l] [("default",d)]) Q E s:=by
 have i:l<s.heap.objs.size:=by obtain⟨_,e,_⟩:=g;exact Heap.lt_size e
 have q:(toString "max"++toString ".loop":String)= "max.loop":=by decide
 refine Vt (To F.plain_max F.entry_max (YD (F.args_maxd _ _) ?_));refine QE (YD (show RY.Builtins.bindParams "max" ["key","default"] 0 ⟨[],[("default",d)]⟩=pure [QF,QB d] from rfl) ?_);refine QE (QQ ?_);refine QE (Vi g ?_);refine QE (SS ?_);rw[q];have f:(s.heap.push {cls:= .type "list_iterator",data:= .fields #[.ref l,.int 0 0]}).objs.size=s.heap.objs.size+1:=Heap.size_push _ _;refine QQ ⟨Uq F.plain_max_loop _,HI m (Ra i) (by rw[f];exact Nat.succ_ne_self _) (by rw[f];exact Se (Vp i)) hi 0 _ s.toks QF 0 rfl (RF _) ⟨_,Heap.get?_push_of_some _ (Heap.get?_push_size _ rfl),rfl,rfl⟩ ((g.push _).push _) (Heap.get?_push_size _ rfl) fun h' tk b n j=> ?_⟩;refine p h' tk b n fun a o e=> ?_;have h:=Heap.lt_size e;exact j a o (Ra h) (by rw[f];exact Ra (Vp h)) (Heap.get?_push_of_some _ (Heap.get?_push_of_some _ e))
end
end PySem
namespace L10
open PySem PySem.Spec PyProof.Rows L2 L3
def K9 (K:QC) (i:Int):List V->Hp->VK->Prop:=fun xs H Q=>∃(p:QI) (ns:List Int),xs=[.ref p]/\VD K H p (ns.map V.int)/\Q (.int ((ns.foldl kY QF).getD i)) H
theorem Ap (v:X.calm=QG) (r:Gl X "max") (hm:X.mg "max"=QF) (ha:PA X [l] ta) (f:N9 l=QN:=by rfl):
  PE X (.Call (.Name "max" p) [l] [⟨QB "default",.Constant (.int i) j p1,p2⟩] pos) (Ec (K9 X.K i) ta):=by
 intro pins s σ H Q I h;refine TQ (nU I r hm KC (callWith_kw (cG (ha pos pins s σ H _ I h) fun us s1 ⟨vs,H1,e,r1,q1⟩=> ?_) (by rw[ut _ _ _ f];rfl) (by rw[ut _ _ _ f];rfl) rfl rfl));obtain⟨a,ns,rfl,n,q⟩:=q1;obtain⟨u,rfl,g⟩:=lz r1;cases g;obtain⟨RE,rv,pl,y⟩:=e.list n;refine ae0 (acq (ae1 ?_));have z:=e.tok (s1.toks+1);refine Dm (e.ok.hd v) pl.isList (lZ rv) fun h' tk b w o=> ?_;refine⟨.int ((ns.foldl kY QF).getD i),H1,e.kept o,?_,q⟩;rw[<-w];cases b with
 |none=>exact⟨_,rfl⟩
 |some p=>obtain⟨m,t⟩:=p;exact⟨t,rfl⟩
noncomputable def Dv (i:Int):List D->Option RV
 |[.list ds]=>(nc ds).map fun ns=> .fz (.int ((ns.foldl kY QF).getD i))
 |_=>QF
theorem Bt {K:QC}:Hm K (K9 K i) (Dv i):=by
 intro O H xs ds rv Q n hp e q;unfold Dv at e;split at e
 ·rename_i es
  cases hp with
  |cons h1 h2=>
   cases h2;cases qa:nc es with
   |none=>rw[qa] at e;cases e
   |some ns=>rw[qa] at e;cases e;obtain⟨a,vs,rfl,f,b⟩:=Dq h1;obtain rfl:=pA b qa;exact⟨a,ns,rfl,f.sq,q.at (.int _)⟩
 ·cases e
end L10
namespace L10
open PySem L2 L3
section
variable {B O O':ce} {K:QC} {E:XK} {H H' H1 H2:Hp} {α α' α1 α2:List QI} {Z Z' Z1 Z2:aX} {σ:L2.St} {ρ:bu} {v:V}
theorem gH {l r:List A} (h:(l++r)[i]? =QB y):l[i]? =QB y\/∃j,i=l.length+j/\r[j]? =QB y:=by
 by_cases hi:i<l.length
 ·rw[Rg hi] at h;exact .inl h
 ·rw[Ru (by omega)] at h;exact .inr ⟨i - l.length,by omega,h⟩
theorem JB {l r:List A} {i:Nat} (h:l[i]? =QB y):(l++r)[i]? =QB y:=by rw[Rg (QK.mp h).1];exact h
theorem DB {l r:List A} (h:r[i]? =QB y):(l++r)[l.length+i]? =QB y:=by rw[Ru (by omega),VP];exact h
theorem EN (e:α.length=Z.length) (h:Lv (α++ps) (Z++cs) b):Lv α Z b\/b∈ps:=by
 obtain⟨i,d,h1,h2,a⟩:=h;rcases gH h1 with g1|⟨j,e1,g1⟩
 ·rcases gH h2 with g2|⟨k,e2,g2⟩
  ·exact .inl ⟨i,d,g1,g2,a⟩
  ·have:=(QK.mp g1).1;omega
 ·exact .inr (RD g1)
theorem SR.Yw (s:Rq B K H α Z) (e:SD H H') (hp:∀p∈ps,H p=QF):SR α Z H (α++ps) (Z++cs) H':=
 ⟨fun i a h=>JB h,fun b u q _=>e b u q,fun b z=>(EN s.len z).imp id fun z=>hp b z⟩
theorem Rq.Yw (s:Rq B K H α Z) (e:SD H H') (hp:∀p∈ps,H p=QF) (f:∀p∈ps,H' p≠QF) (nd:∀(i j:Nat) (a:QI),ps[i]? =QB a->ps[j]? =QB a->i=j) (l:ps.length=cs.length)
  (new:∀(i:Nat) (a:QI) (c:Cell),ps[i]? =QB a->cs[i]? =QB c->COk (ow B (α++ps) (Z++cs)) K H' (α++ps) a c):Rq B K H' (α++ps) (Z++cs):=by
 have ev:SR α Z H (α++ps) (Z++cs) H':=SR.Yw s e hp;have n:∀b,H b≠QF->H' b≠QF:=fun b h z=>h (e.free z);refine⟨by rw[QM,QM,s.len,l],fun i j a h1 h2=> ?_,fun a h=>n a (s.bn a h),fun a h i q=> ?_,fun i a h=> ?_,fun i a d h1 h2=> ?_⟩
 ·rcases gH h1 with g1|⟨i',e1,g1⟩<;>rcases gH h2 with g2|⟨j',e2,g2⟩
  ·exact s.nd i j a g1 g2
  ·exact absurd (hp a (RD g2)) (s.al i a g1)
  ·exact absurd (hp a (RD g1)) (s.al j a g2)
  ·have:=nd i' j' a g1 g2;omega
 ·rcases gH q with q|⟨j,_,q⟩
  ·exact s.ba a h i q
  ·exact s.bn a h (hp a (RD q))
 ·rcases gH h with h|⟨j,_,h⟩
  ·exact n a (s.al i a h)
  ·exact f a (RD h)
 ·have g:=s.len
  rcases gH h2 with g2|⟨j,e2,g2⟩
  ·rcases gH h1 with g1|⟨k,e1,g1⟩
   ·exact(s.X3 i a d g1 g2).ev ev.ev ev.pre fun o q=>e _ _ q
   ·have:=(QK.mp g2).1;omega
  ·rcases gH h1 with g1|⟨k,e1,g1⟩
   ·have:=(QK.mp g1).1;omega
   ·have:k=j:=by omega
    subst this;exact new k a d g1 g2
noncomputable def Dt (Z':aX):Nat->List AV->Option (List AV×List (List D)×List Nat)
 |_,[]=>QB ([],[],[])
 |n,.fz d::r=>match Dt Z' n r with
  |some (l,cs,js)=>QB (.fz d::l,cs,js)
  |none=>QF
 |n,.rf i::r=>match sh Z' (.rf i) with
  |some (.list ds)=>(match Dt Z' (n+1) r with
   |some (l,cs,js)=>QB (.rf n::l,ds::cs,i::js)
   |none=>QF)
  |_=>QF
noncomputable def Ph (ds:List D):Cell:= .lst (ds.map .fz)
noncomputable def pq (x:SV) (Z' Z:aX):RS SV:=match x with
 | .fz d=> .ok (.fz d) Z
 | .rf i=>(match sh Z' (.rf i) with
  |some (.list ds)=>lr Z (.ow ds)
  |_=> .bad)
 | .tp l=>(match Dt Z' Z.length l with
  |some (l',cs,js)=>if js.Nodup then .ok (.tp l') (Z++cs.map Ph) else .bad
  |none=> .bad)
theorem pP (h:sh Z (.rf i)=QB (.list ds)):∃xs,Z[i]? =QB (.lst xs)/\aJ x0 xs=QB ds:=by
 unfold sh at h;dsimp only at h;cases q:Z[i]? with
 |none=>rw[q] at h;cases h
 |some c=>
  rw[q] at h;cases c with
  |lst xs=>
   dsimp only at h;cases q2:aJ x0 xs with
   |none=>rw[q2] at h;cases h
   |some es=>rw[q2] at h;cases h;exact⟨xs,rfl,q2⟩
  |_=>cases h
theorem jr (s:Rq B K H α Z) (h:sh Z (.rf i)=QB (.list ds)):∃a vs,α[i]? =QB a/\H a=QB (.lst vs)/\L3.SY (ow B α Z) K H vs ds/\ow B α Z a:=by obtain⟨xs,q1,b⟩:=pP h;obtain⟨a,ha⟩:=s.at q1;obtain⟨vs,h1,h2⟩:=s.X3 i a _ ha q1;exact⟨a,vs,ha,h1,j9 (c8 (R:=Ur (ow B α Z) K H α) (fun v x y r e=>zG r e) h2 b),.inr ⟨i,_,ha,q1,by intro z;cases z⟩⟩
theorem Fq {B':ce} (s:Rq B' K H' α' Z'):∀{n:Nat} {l o:List AV} {cs:List (List D)} {g:List Nat} {xs:List V},Dt Z' n l=QB (o,cs,g)->Paired (AOk (ow B' α' Z') K H' α') xs l->
  ∃ps:List QI,ps.length=g.length/\cs.length=g.length/\(∀(k j:Nat),g[k]? =QB j->∃a ds vs,ps[k]? =QB a/\cs[k]? =QB ds/\α'[j]? =QB a/\H' a=QB (.lst vs)/\L3.SY (ow B' α' Z') K H' vs ds/\ow B' α' Z' a)/\
   ∀(b:List QI),b.length=n->Paired (AOk (ow B' α' Z') K H' (b++ps)) xs o
 |_,[],_,_,_,_,e,.nil=>by cases e;exact⟨[],rfl,rfl,fun k j h=>by simp at h,fun b _=> .nil⟩
 |n,.fz d::r,o,cs,g,_,e,.cons h t=>by
  unfold Dt at e;cases q:Dt Z' n r with
  |none=>rw[q] at e;cases e
  |some p=>obtain⟨l1,y,u⟩:=p;rw[q] at e;cases e;obtain⟨ps,h1,h2,w,v⟩:=Fq s q t;exact⟨ps,h1,h2,w,fun b f=> .cons h (v b f)⟩
 |n,.rf i::r,o,cs,g,_,e,.cons h t=>by
  unfold Dt at e;cases qs:sh Z' (.rf i) with
  |none=>rw[qs] at e;cases e
  |some d=>
   rw[qs] at e;cases d with
   |list ds=>
    dsimp only at e;cases q:Dt Z' (n+1) r with
    |none=>rw[q] at e;cases e
    |some p=>
     obtain⟨l1,y,u⟩:=p;rw[q] at e;cases e;obtain⟨ps,h1,h2,w,v⟩:=Fq s q t;obtain⟨a,vs,ha,A,hd,B⟩:=jr s qs;refine⟨a::ps,by rw[Q0,Q0,h1],by rw[Q0,Q0,h2],fun k j z=> ?_,fun b f=> ?_⟩
     ·cases k with
      |zero=>cases z;exact⟨a,ds,vs,rfl,rfl,ha,A,hd,B⟩
      |succ k=>exact w k j (by simpa using z)
     ·have C:b++a::ps=(b++[a])++ps:=by simp
      obtain⟨E,m,rfl⟩:=h;rw[ha] at m;cases m;refine .cons ⟨a,by rw[<-f];exact DB (l:=b) (r:=a::ps) (i:=0) rfl,rfl⟩ ?_;rw[C];exact v (b++[a]) (by rw[QM,f];rfl)
   |_=>cases e
theorem CQ (s:Rq B K H α Z) (w:WS K E B H α Z (PQ B K Q) (pq x Z' Z)) (R:SR [] [] H α' Z' H') (s':Rq (ow B α Z) K H' α' Z') (G:Ur (ow (ow B α Z) α' Z') K H' α' v x):Q v H':=by
 have A:=fun b o h=>R.kp b o h fun⟨i,c,q,_⟩=>by simp at q
 have sub:∀b,ow B α Z b->ow (ow B α Z) α' Z' b:=fun b z=> .inl z;have P:=fun i a c h1 h2 h3=>(R.lv a ⟨i,c,h1,h2,h3⟩).elim (fun⟨i,c,q,_⟩=>by simp at q) id;cases x with
 |fz d=>exact w α H' (SR.same A) (s.grow A) v (DV.ev (Ev.sub sub) G)
 |rf i=>
  unfold pq at w;dsimp only at w;cases qs:sh Z' (.rf i) with
  |none=>rw[qs] at w;exact w.elim
  |some d=>
   rw[qs] at w;cases d with
   |list ds=>obtain⟨a,vs,ha,h1,hd,I⟩:=jr s' qs;obtain⟨xs,q1,_⟩:=pP qs;obtain⟨a',C,rfl⟩:=G;rw[ha] at C;cases C;exact r8 s w A (P i a _ ha q1 (by intro z;cases z)) h1 hd sub I
   |_=>exact w.elim
 |tp l=>
  unfold pq at w;dsimp only at w;cases qg:Dt Z' Z.length l with
  |none=>rw[qg] at w;exact w.elim
  |some p=>
   obtain⟨l',cs,F⟩:=p;rw[qg] at w;dsimp only at w;by_cases hn:F.Nodup
   ·rw[if_pos hn] at w
    obtain⟨a,xs,rfl,ht,hl⟩:=G;obtain⟨ps,O,g2,g3,g4⟩:=Fq s' qg hl;have y:∀(k:Nat) (b:QI),ps[k]? =QB b->∃j ds vs,F[k]? =QB j/\cs[k]? =QB ds/\α'[j]? =QB b/\H' b=QB (.lst vs)/\L3.SY (ow (ow B α Z) α' Z') K H' vs ds/\ow (ow B α Z) α' Z' b:=fun k b N=>by
     have e:k<F.length:=by rw[<-O];exact(QK.mp N).1
     obtain⟨b',ds,vs,q1,u,t,g,n,f⟩:=g3 k _ (QR e);rw[N] at q1;cases q1;exact⟨_,ds,vs,QR e,u,t,g,n,f⟩
    have U:∀(j:Nat) (b:QI),α'[j]? =QB b->ow (ow B α Z) α' Z' b->H b=QF:=fun j b J I=>by
     rcases I with z|⟨i,c,z1,z2,z3⟩
     ·exact absurd J (s'.ba b z j)
     ·exact P i b c z1 z2 z3
    have fp:∀p∈ps,H p=QF:=fun p hp=>by obtain⟨k,e⟩:=UH.mp hp;obtain⟨j,ds,vs,q1,u,t,g,n,f⟩:=y k p e;exact U j p t f
    have m:∀b,ow B (α++ps) (Z++cs.map Ph) b->ow (ow B α Z) α' Z' b:=fun b z=>by
     rcases z with z|z
     ·exact .inl (.inl z)
     ·rcases EN s.len z with z|z
      ·exact .inl (.inr z)
      ·obtain⟨k,e⟩:=UH.mp z;obtain⟨j,ds,vs,q1,u,t,g,n,f⟩:=y k b e;exact f
    have ev:=SR.Yw (cs:=cs.map Ph) s A fp;refine w (α++ps) H' ev (s.Yw A fp (fun p hp=> ?_) (fun i j b hi J=> ?_) (by rw[QH,O,g2]) fun i b c hi M=> ?_) (.ref a) ⟨a,xs,rfl,ht.ev (Ev.sub m),Paired.Vg (g4 α s.len) fun _ _ r=>r.ev (Ev.sub m) fun _ _ h=>h⟩
    ·obtain⟨k,e⟩:=UH.mp hp;obtain⟨j,ds,vs,q1,u,t,g,n,f⟩:=y k p e;rw[g];simp
    ·obtain⟨Y,_,_,p1,_,T,_⟩:=y i b hi;obtain⟨X,_,_,r1,_,S,_⟩:=y j b J;have:=s'.nd Y X b T S;subst this;have L:=(QK.mp p1).1;exact(List.getElem?_inj L hn).mp (p1.trans r1.symm)
    ·obtain⟨j,ds,vs,q1,u,t,g,n,f⟩:=y i b hi;rw[QT,u] at M;cases M;exact⟨vs,g,i9 _ _ (n.ev (Ev.sub m))⟩
   ·rw[if_neg hn] at w;exact w.elim
noncomputable def qQ (F:iU) (n:Nat) (xs:List SV) (Z:aX):RS SV:=if xs.length=n then(match aJ x0 xs with
 |some ds=>(match F (ds.map .fz) [] with
  | .ok x Z'=>pq x Z' Z
  | .er x _=> .er x Z
  | .bad=> .bad)
 |none=> .bad) else .bad
noncomputable def mE (F:iU) (n:Nat) (fa:yy):dh:=fun ρ Z=>(fa ρ Z).bind fun xs Z1=>fF (qQ F n xs Z1)
theorem Gi (h:∀a,B a->H a≠QF):Rq B K H [] []:=⟨rfl,fun i j a h=>by simp at h,h,fun a h i=>by simp,fun i a h=>by simp at h,fun i a c h=>by simp at h⟩
theorem A9:∀{xs:List SV} {ds:List D},aJ x0 xs=QB ds->xs=ds.map .fz
 |[],_,e=>by cases e;rfl
 |x::r,ds,e=>by
  unfold aJ at e;cases x with
  |fz d=>
   dsimp only[x0] at e;cases q:aJ x0 r with
   |none=>rw[q] at e;cases e
   |some es=>rw[q] at e;cases e;rw[QY,<-A9 q]
  |rf i=>cases e
  |tp l=>cases e
theorem DC (s:Rq B K H α Z) (e:T5 (ow B α Z) K H α vs xs) (w:WS K E B H α Z (PQ B K Q) (qQ F n xs Z)):dn K n F vs H Q E:=by
 unfold qQ at w;by_cases hn:xs.length=n
 ·rw[if_pos hn] at w
  refine⟨e.length.trans hn,?_⟩;cases q:aJ x0 xs with
  |none=>rw[q] at w;exact w.elim
  |some ds=>
   rw[q] at w;dsimp only at w;have ex:=A9 q;refine⟨ow B α Z,[],[],ds.map .fz,Gi s.owd,?_,?_⟩
   ·rw[ex] at e;exact i9 _ _ ((D4 e).ev (Ev.sub fun b z=>z.elim id fun⟨i,c,q,_⟩=>by simp at q))
   ·cases qF:F (ds.map .fz) [] with
    |bad=>rw[qF] at w;exact w.elim
    |ok x Z'=>rw[qF] at w;exact fun α' H' f s' v a=>CQ s w f s' a
    |er x Z'=>
     rw[qF] at w;intro c dx α' H' f s' k;have g:=fun b o h=>f.kp b o h fun⟨i,c,q,_⟩=>by simp at q
     exact w c dx α H' (SR.same g) (s.grow g) (XOk.sub (fun b z=> .inl z) k)
 ·rw[if_neg hn] at w;exact w.elim
theorem m9 (ha:wC K E ta fa):cJ K E (jQ (dn K n F) [] E0 ta) (mE F n fa):=by intro B σ H α Z ρ Q s sl w;refine ha B σ H α Z ρ _ s sl (w.bind.imp fun xs α1 Z1 H1 b s1 w1 vs a=> ?_);rw[Rf];exact DC s1 a (WS.e0 w1)
noncomputable def OC (F:iU):FN:=fun ds=>match F (ds.map .fz) [] with
 | .ok (.fz d) _=> .ok (.fz d)
 | .ok (.rf i) Z=>(match sh Z (.rf i) with
  |some (.list ds)=> .ok (.ow ds)
  |_=> .bad)
 | .ok (.tp _) _=> .bad
 | .er x _=> .er x
 | .bad=> .bad
theorem NT (h:oP K n (OC F) vs H Q E):dn K n F vs H Q E:=by
 obtain⟨p,B,ds,r,t,w⟩:=h;refine⟨p,B,[],[],ds.map .fz,Gi r,i9 _ _ (t.ev (Ev.sub fun b z=>z.elim id fun⟨i,c,q,_⟩=>by simp at q)),?_⟩;unfold OC at w;cases qF:F (ds.map .fz) [] with
 |bad=>rw[qF] at w;exact w.elim
 |er x Z'=>rw[qF] at w;intro c dx α' H' f s' k;exact w c dx H' (fun b o h=>f.kp b o h fun⟨i,c,q,_⟩=>by simp at q) (XOk.sub (fun b z=> .inl z) k)
 |ok x Z'=>
  rw[qF] at w;intro α' H' f s' v j;have g:=fun b o h=>f.kp b o h fun⟨i,c,q,_⟩=>by simp at q
  cases x with
  |fz d=>exact w v H' g (DV.ev (Ev.sub fun b z=> .inl z) j)
  |tp l=>exact w.elim
  |rf i=>
   dsimp only at w;cases qs:sh Z' (.rf i) with
   |none=>rw[qs] at w;exact w.elim
   |some d=>
    rw[qs] at w;cases d with
    |list es=>obtain⟨a,us,ha,h1,hd,m⟩:=jr s' qs;obtain⟨xs,q1,_⟩:=pP qs;obtain⟨u,e,rfl⟩:=j;rw[ha] at e;cases e;refine w a us H' g ((f.lv a ⟨i,_,ha,q1,by intro z;cases z⟩).elim (fun⟨i,c,q,_⟩=>by simp at q) id) h1 (hd.ev (Ev.sub fun b z=>z.elim (fun z=> .inl z) fun z=>by rw[z];exact m))
    |_=>exact w.elim
end
def bX (P:Q7) (w:Rv) (K:QC) (mg:Str->Option QD) (base:Heap) (CX:wA) (k:Nat) (C m:Str) (ps:List Str) (sp:Sp):Prop:=
 ∃Ca f fd,QZ K QW C=QB (QB (.ref Ca))/\ZE K Ca/\Meth K Ca m f/\FnOk P w K mg base CX k f fd ps sp/\Binds K fd ps []
def ym (P:Q7) (w:Rv) (K:QC) (mg:Str->Option QD) (base:Heap) (CX:wA) (k:Nat) (C:Str) (ps:List Str) (sp:Sp):Prop:=
 ∃Ca f fd,QZ K QW C=QB (QB (.ref Ca))/\mg C=QB (.ref Ca)/\Mk K Ca f/\FnOk P w K mg base CX k f fd ps sp/\Binds K fd ps []
def vN (K:QC) (C m:Str) (sp:Sp) (E:XK) (ta:TE) (t:TA):TE:=fun σ H Q=>∃Ca,QZ K QW C=QB (QB (.ref Ca))/\uj Ca m sp [] E ta t σ H Q
def zH (K:QC) (C:Str) (sp:Sp) (E:XK) (t:TA):TE:=fun σ H Q=>∃Ca,QZ K QW C=QB (QB (.ref Ca))/\wV Ca sp [] E t σ H Q
section
variable {X:Cx} {CX:wA} {E:XK} {k j:Nat} {C m:Str} {ps:List Str} {sp:Sp} {o e:RN} {es:List RN} {ta:TE} {t:TA} {apos pos p:Pos}
theorem Ew (M:bX X.prog X.w X.K X.mg X.base CX k C m ps sp) (g:fE CX X E) (l:S9 j X.A) (n:PE X o ta) (ha:PA X (e::es) t) (a:k<=j:=by decide)
  (dg:Q9 (e::es) X.env=(QN,eval e X.env)::Q9 es X.env:=by rfl) (u:(backTo pos (Q9 es X.env)).any (·.1)=QN:=by rfl)
  (i:eval (.Call (.Attribute o m apos) (e::es) [] pos) X.env=(do
   let ov<-eval o X.env
   standAt apos.atName
   let(f,first)<-holding [ov] (getMethod ov m pl)
   callWith pos f first (backTo pos (Q9 (e::es) X.env)) (backToKw pos (keywordEach [] X.env))):=by rfl):PE X (.Call (.Attribute o m apos) (e::es) [] pos) (vN X.K C m sp E ta t):=by
 obtain⟨y,f,fd,h1,h2,r,q,p⟩:=M;intro pins s σ H Q I ⟨v,b,h⟩;rw[h1] at b;cases b;exact Ji n h2 r q (l.mono a) p .nil g ha dg u i pins s σ H Q I h
theorem G1 (M:bX X.prog X.w X.K X.mg X.base CX k C m ps sp) (e:fE CX X E) (i:S9 j X.A) (l:PE X o ta) (a:k<=j:=by decide)
  (g:eval (.Call (.Attribute o m apos) [] [] pos) X.env=(do
   let ov<-eval o X.env
   standAt apos.atName
   let(f,first)<-holding [ov] (getMethod ov m pl)
   callWith pos f first (backTo pos (Q9 [] X.env)) (backToKw pos (keywordEach [] X.env))):=by rfl):PE X (.Call (.Attribute o m apos) [] [] pos) (vN X.K C m sp E ta mO):=by
 obtain⟨t,f,fd,h1,h2,q,p,n⟩:=M;intro pins s σ H Q I ⟨r,b,h⟩;rw[h1] at b;cases b;exact Ee l h2 q p (i.mono a) n .nil e g pins s σ H Q I h
theorem Lq (M:ym X.prog X.w X.K X.mg X.base CX k C ps sp) (g:fE CX X E) (i:S9 j X.A) (ha:PA X (e::es) t) (a:k+1<=j:=by decide) (l:Gl X C:=by rfl)
  (r:(C==("__debug__":Str))=QN:=by decide) (m:Q9 (e::es) X.env=(QN,eval e X.env)::Q9 es X.env:=by rfl) (u:(backTo pos (Q9 es X.env)).any (·.1)=QN:=by rfl):
  PE X (.Call (.Name C p) (e::es) [] pos) (zH X.K C sp E t):=by
 obtain⟨y,f,fd,h1,h2,q,o,n⟩:=M;intro pins s σ H Q I ⟨v,b,h⟩;rw[h1] at b;cases b;exact JZ q o (i.mono a) l h2 n .nil g ha r m u pins s σ H Q I h
end
section
variable {K:QC} {E:XK} {C m:Str} {F:iU} {n:Nat} {to:TE} {ta:TA} {fo:dh} {fa:yy} {L:List Str}
theorem D2 (a:gu K C L) (b:cJ K E to fo) (ha:wC K E ta fa):cJ K E (vN K C m (dn K n F) E to ta) (ox C m F n fo fa):=by obtain⟨e,a,_⟩:=a;exact fun B σ H α Z ρ Q s sl w=>⟨e,a,GB a b ha B σ H α Z ρ Q s sl w⟩
theorem Aq (a:gu K C L) (b:cJ K E to fo) (ha:wC K E ta fa):cJ K E (vN K C m (dn K n F) E0 to ta) (aY C m F n fo fa):=by obtain⟨e,a,_⟩:=a;exact fun B σ H α Z ρ Q s sl w=>⟨e,a,Df a b ha B σ H α Z ρ Q s sl w⟩
theorem Me (a:gu K C L) (ha:wC K E ta fa):cJ K E (zH K C (dn K n F) E ta) (FX C F n fa):=by obtain⟨b,a,_⟩:=a;exact fun B σ H α Z ρ Q s sl w=>⟨b,a,IC a ha B σ H α Z ρ Q s sl w⟩
theorem IK (a:gu K C L) (ha:wC K E ta fa):cJ K E (zH K C (dn K n F) E0 ta) (tO C F n fa):=by obtain⟨b,a,_⟩:=a;exact fun B σ H α Z ρ Q s sl w=>⟨b,a,Ed a ha B σ H α Z ρ Q s sl w⟩
end
section
variable {ρ ρ1 ρ2:bu} {Z Z1 Z2 Z3 Z4:aX} {x y z:SV} {i n:Nat} {d dx dy:D} {ds:List D} {b:Bool}
theorem a9 (h:ρ[i]? =QB (QB x)):aq i ρ Z= .ok x Z:=by unfold aq;rw[h]
theorem af (h:f (bF ρ)= .ok (.fz d,ρ')):ae f ρ Z= .ok (.fz d) Z:=by unfold ae;rw[h]
theorem dL (h:f (bF ρ)= .ok (.ow ds,ρ')):ae f ρ Z= .ok (.rf Z.length) (Z++[.lst (ds.map .fz)]):=by unfold ae;rw[h];rfl
theorem cr (h:f (bF ρ)= .ok (b,ρ')):ci f ρ Z= .ok b Z:=by unfold ci;rw[h]
theorem mK (h:f (bF ρ)= .ok (ds,ρ')):im f ρ Z= .ok ds Z:=by unfold im;rw[h]
theorem jf (b:e ρ Z= .ok (.rf i) Z1) (g:Z1[i]? =QB (.obj C fs)) (a:fs.lookup f=QB x):bj C f e ρ Z= .ok x Z1:=by unfold bj;rw[b,RS.bind_ok];dsimp only;rw[g];dsimp only;rw[if_pos rfl,a];rfl
theorem cx (ha:fa ρ Z= .ok x Z1) (b:fb ρ Z1= .ok y Z2) (a:vI f x y Z2= .ok z Z3):jJ f fa fb ρ Z= .ok z Z3:=by unfold jJ;rw[ha,RS.bind_ok,b,RS.bind_ok,a]
theorem b9 (h:f dx dy=QB (.fz d)):vI f (.fz dx) (.fz dy) Z= .ok (.fz d) Z:=by unfold vI;show((RS.RO Z (f dx dy)).bind fun rv Z1=>lr Z1 rv)=_;rw[h];rfl
theorem lY (b:sh Z x=QB dx) (a:sh Z y=QB dy) (h:f dx dy=QB (.fz d)):vI f x y Z= .ok (.fz d) Z:=by unfold vI;rw[b,a];show((RS.RO Z (f dx dy)).bind fun rv Z1=>lr Z1 rv)=_;rw[h];rfl
theorem mF:∀ds:List D,aJ x0 (ds.map .fz)=QB ds
 |[]=>rfl
 |d::r=>by rw[QY];unfold aJ;rw[mF r];rfl
theorem cS (h:Z[i]? =QB (.lst (ds.map .fz))):sh Z (.rf i)=QB (.list ds):=by unfold sh;dsimp only;rw[h];dsimp only;rw[mF];rfl
theorem aQ (h:fa ρ Z= .ok (.fz (.bool b)) Z1):bq fa ρ Z= .ok b Z1:=by unfold bq;rw[h];rfl
theorem iO (h:fa ρ Z= .ok QG Z1) (k:fb ρ Z1=r):mW fa fb ρ Z=r:=by unfold mW;rw[h,RS.bind_ok,if_pos rfl,k]
theorem gM (h:fa ρ Z= .ok QN Z1):mW fa fb ρ Z= .ok QN Z1:=by unfold mW;rw[h,RS.bind_ok,if_neg QV]
theorem sJ (h:fa ρ Z= .ok QG Z1):xi fa fb ρ Z= .ok QG Z1:=by unfold xi;rw[h,RS.bind_ok,if_pos rfl]
theorem gS (h:fa ρ Z= .ok QN Z1) (k:fb ρ Z1=r):xi fa fb ρ Z=r:=by unfold xi;rw[h,RS.bind_ok,if_neg QV,k]
theorem kP (h:fa ρ Z= .ok b Z1):mx fa ρ Z= .ok (!b) Z1:=by unfold mx;rw[h];rfl
theorem tM (h:bq fa ρ Z= .ok QG Z1) (k:fb ρ Z1=r):Al fa fb ρ Z=r:=by unfold Al;rw[h,RS.bind_ok,if_pos rfl,k]
theorem C8 (h:bq fa ρ Z= .ok QN Z1):Al fa fb ρ Z= .ok (.fz (.bool QN)) Z1:=by unfold Al;rw[h,RS.bind_ok,if_neg QV]
theorem HF (h:c ρ Z= .ok QG Z1) (k:fa ρ Z1=r):Nh c fa fb ρ Z=r:=by unfold Nh;rw[h,RS.bind_ok,if_pos rfl,k]
theorem Ip (h:c ρ Z= .ok QN Z1) (k:fb ρ Z1=r):Nh c fa fb ρ Z=r:=by unfold Nh;rw[h,RS.bind_ok,if_neg QV,k]
theorem aM:aN ρ Z= .ok [] Z:=rfl
theorem ao (ha:fa ρ Z= .ok x Z1) (a:fr ρ Z1= .ok xs Z2):aj fa fr ρ Z= .ok (x::xs) Z2:=by unfold aj;rw[ha,RS.bind_ok,a,RS.bind_ok]
theorem vY (ha:fa ρ Z= .ok (ds.map .fz) Z1) (a:ds.length<=1000):mi fa ρ Z= .ok (.fz (.tuple ds)) Z1:=by unfold mi;rw[ha,RS.bind_ok,QH,if_pos a];unfold Pi;rw[mF];rfl
theorem K4 (ha:fa ρ Z= .ok xs Z1) (a:xs.length<=1000) (h1:aJ x0 xs=QF) (h2:aJ Pj xs=QB l):mi fa ρ Z= .ok (.tp l) Z1:=by unfold mi;rw[ha,RS.bind_ok,if_pos a];unfold Pi;rw[h1];dsimp only;rw[h2];rfl
theorem tN (ha:fa ρ Z= .ok xs Z1) (a:aJ (sh Z1) xs=QB ds) (h:f ds=QB (.fz d)):sO f fa ρ Z= .ok (.fz d) Z1:=by unfold sO;rw[ha,RS.bind_ok];unfold EJ;rw[a];show((RS.RO Z1 (f ds)).bind fun rv Z1=>lr Z1 rv)=_;rw[h];rfl
theorem zy (ha:fa ρ Z= .ok (ds.map .fz) Z1) (hn:ds.length=n) (a:F ds= .ok (.fz d)):iR F n fa ρ Z= .ok (.fz d) Z1:=by unfold iR;rw[ha,RS.bind_ok];unfold wS;rw[QH,if_pos hn,mF];dsimp only;rw[a];rfl
theorem vZ (ha:fa ρ Z= .ok (ds.map .fz) Z1) (hn:ds.length=n) (a:F ds= .ok (.ow es)):iR F n fa ρ Z= .ok (.rf Z1.length) (Z1++[.lst (es.map .fz)]):=by unfold iR;rw[ha,RS.bind_ok];unfold wS;rw[QH,if_pos hn,mF];dsimp only;rw[a];rfl
theorem my:fF (RS.ok a Z)= .ok a Z:=rfl
theorem JM (b:fo ρ Z= .ok (.rf i) Z1) (e:Z1[i]? =QB (.obj C fs)) (hm:fs.lookup m=QF) (ha:fa ρ Z1= .ok xs Z2) (hn:(SV.rf i::xs).length=n) (f:F (.rf i::xs) Z2= .ok x Z3):aY C m F n fo fa ρ Z= .ok x Z3:=by
 have a:lc Z1 C m (.rf i)=QG:=by unfold lc;dsimp only;rw[e];dsimp only;rw[hm,decide_eq_true rfl];rfl
 unfold aY;rw[b,RS.bind_ok,if_pos a,ha,RS.bind_ok,if_pos hn,f];rfl
theorem MM (ha:fa ρ Z= .ok xs Z1) (hn:(SV.rf Z1.length::xs).length=n) (a:F (.rf Z1.length::xs) (Z1++[.obj C []])= .ok (.fz .none) Z2):tO C F n fa ρ Z= .ok (.rf Z1.length) Z2:=by unfold tO;rw[ha,RS.bind_ok];unfold tJ;rw[if_pos hn,a,RS.bind_ok,if_pos (show Cm (.fz .none)=QG from rfl)];rfl
theorem cC (ha:fa ρ Z= .ok (.fz dx) Z1) (a:fb ρ Z1= .ok (.fz dy) Z2) (h:bA dx dy=QB (.fz d)):g9 fa fb ρ Z= .ok (.fz d) Z2:=by unfold g9;rw[ha,RS.bind_ok,a,RS.bind_ok];exact b9 h
theorem rB (a:fo ρ Z= .ok (.rf i) Z1) (h1:Z1[i]? =QB (.lst xs)) (e:fe ρ Z1= .ok x Z2) (h2:Z2[i]? =QB (.lst ys)) (b:ys.length<1000000):k6 fo fe ρ Z= .ok (.fz .none) (Z2.set i (.lst (ys++[x]))):=by
 have g:fq Z1 (.rf i)=QB (i,xs):=by unfold fq;dsimp only;rw[h1]
 have f:fq Z2 (.rf i)=QB (i,ys):=by unfold fq;dsimp only;rw[h2]
 unfold k6;rw[a,RS.bind_ok,g];show((fe ρ Z1).bind _)=_;rw[e,RS.bind_ok,f];show(if ys.length<1000000 then _ else _)=_;rw[if_pos b]
theorem lA (h:Z[i]? =QB (.WN Rc)):gR Z (.rf i)=QB (i,Rc):=by unfold gR;dsimp only;rw[h]
theorem zA (a:fk ρ Z= .ok x Z1) (hd:fd ρ Z1= .ok (.rf i) Z2) (h1:sW x=QB k) (h2:Z2[i]? =QB (.WN Rc)):yr neg fk fd ρ Z= .ok (.fz (.bool ((ji Rc k).isSome !=neg))) Z2:=by unfold yr;rw[a,RS.bind_ok,hd,RS.bind_ok,h1];show((RS.RO Z2 (gR Z2 (.rf i))).bind _)=_;rw[lA h2];rfl
theorem HX (hd:fd ρ Z= .ok (.rf i) Z1) (a:fk ρ Z1= .ok x Z2) (h1:sW x=QB k) (h2:Z2[i]? =QB (.WN Rc)) (b:ji Rc k=QB y):uv fd fk ρ Z= .ok y Z2:=by unfold uv;rw[hd,RS.bind_ok,a,RS.bind_ok,h1];show((RS.RO Z2 (gR Z2 (.rf i))).bind _)=_;rw[lA h2];show RS.RO Z2 (ji Rc k)=_;rw[b];rfl
theorem HY (a:fv ρ Z= .ok y Z1) (hd:fd ρ Z1= .ok (.rf i) Z2) (e:fk ρ Z2= .ok x Z3) (h1:sW x=QB k) (h2:Z3[i]? =QB (.WN Rc)) (b:Rc.length<1000000):wE fd fk fv ρ Z= .ok (.nx ρ) (Z3.set i (.WN (jB Rc k y))):=by unfold wE;rw[a,RS.bind_ok,hd,RS.bind_ok,e,RS.bind_ok,h1];show((RS.RO Z3 (gR Z3 (.rf i))).bind _)=_;rw[lA h2];show(if Rc.length<1000000 then _ else _)=_;rw[if_pos b]
theorem Ii (hd:fd ρ Z= .ok (.rf i) Z1) (e:Z1[i]? =QB (.WN ahN)) (a:fk ρ Z1= .ok x Z2) (h1:sW x=QB k) (h2:Z2[i]? =QB (.WN Rc)) (b:ji Rc k=QB y):x9 fd fk ρ Z= .ok y (Z2.set i (.WN (lX Rc k))):=by unfold x9;rw[hd,RS.bind_ok,lA e];show((fk ρ Z1).bind _)=_;rw[a,RS.bind_ok,h1];show((RS.RO Z2 (gR Z2 (.rf i))).bind _)=_;rw[lA h2];show((RS.RO Z2 (ji Rc k)).bind _)=_;rw[b];rfl
theorem J8 (hd:fd ρ Z= .ok (.rf i) Z1) (h:Z1[i]? =QB (.WN Rc)):Bx fd ρ Z= .ok (.rf Z1.length) (Z1++[.lst (Rc.map (·.2))]):=by unfold Bx;rw[hd,RS.bind_ok,lA h];rfl
theorem HN (hd:fd ρ Z= .ok (.rf i) Z1) (h:Z1[i]? =QB (.WN Rc)) (b:aJ Ad (Rc.map (·.1))=QB ns) (a:ns.length<64):ud fd ρ Z= .ok (.rf Z1.length) (Z1++[.lst ((jS ns).map fun i=>SV.fz (.int i))]):=by unfold ud;rw[hd,RS.bind_ok,lA h];show((RS.RO Z1 (aJ Ad (Rc.map (·.1)))).bind _)=_;rw[b];show(if ns.length<64 then _ else _)=_;rw[if_pos a]
theorem Jv (a:fe ρ Z= .ok x Z1) (h:vj x=QB ps):xN fe ρ Z= .ok (.rf Z1.length) (Z1++[.WN (lJ [] ps)]):=by unfold xN;rw[a,RS.bind_ok,h];rfl
variable {fl:FlS} {r:RS FlS}
theorem cK (h:f ρ Z= .ok (.nx ρ1) Z1) (k:g ρ1 Z1=r):aL f g ρ Z=r:=by unfold aL;rw[h,RS.bind_ok];exact k
theorem og (h:f ρ Z= .ok (.rt x) Z1):aL f g ρ Z= .ok (.rt x) Z1:=by unfold aL;rw[h];rfl
theorem d9 (h:c ρ Z= .ok QG Z1) (k:f ρ Z1=r):ck c f g ρ Z=r:=by unfold ck;rw[h,RS.bind_ok,if_pos rfl,k]
theorem gc (h:c ρ Z= .ok QN Z1) (k:g ρ Z1=r):ck c f g ρ Z=r:=by unfold ck;rw[h,RS.bind_ok,if_neg QV,k]
theorem gW (h:f ρ Z= .ok x Z1):gn f ρ Z= .ok (.rt x) Z1:=by unfold gn;rw[h];rfl
theorem fX (h:f ρ Z= .ok x Z1):bK f ρ Z= .ok (.nx ρ) Z1:=by unfold bK;rw[h];rfl
theorem zB (h:f ρ Z= .ok x Z1) (e:ρ.set i (QB x)=ρ1):dJ f (gA i) ρ Z= .ok (.nx ρ1) Z1:=by subst e;unfold dJ;rw[h];rfl
theorem fY:cI ρ Z= .ok (.nx ρ) Z:=rfl
theorem nr (g:fe ρ Z= .ok x Z1) (a:fo ρ Z1= .ok (.rf i) Z2) (h:Z2[i]? =QB (.obj C fs)) (b:fs.length<100):fu C f fo fe ρ Z= .ok (.nx ρ) (Z2.set i (.obj C (d7 f x fs))):=by
 have e:DG Z2 C (.rf i)=QB (i,fs):=by unfold DG;dsimp only;rw[h];dsimp only;rw[if_pos rfl]
 unfold fu;rw[g,RS.bind_ok,a,RS.bind_ok,e];show(if fs.length<100 then _ else _)=_;rw[if_pos b]
theorem rZ (h:f ρ Z= .ok x Z1) (k:frz 4 Z1 x=QB (d,Z2)):sA f ρ Z= .ok (.fz d) Z2:=by unfold sA;rw[h,RS.bind_ok];unfold MK;rw[k]
theorem jo (e:xs.map QB++QP (N - xs.length) QF=ρ) (h:g ρ Z= .ok (.rt x) Z1):cY N g xs Z= .ok x Z1:=by subst e;unfold cY;rw[h];rfl
theorem ml (e:xs.map QB++QP (N - xs.length) QF=ρ) (h:g ρ Z= .ok (.nx ρ1) Z1):cY N g xs Z= .ok (.fz .none) Z1:=by subst e;unfold cY;rw[h];rfl
end
section
variable {ρ ρ1 ρ2:bu} {Z Z1 Z2 Z3 Z4:aX} {x y z:SV} {i n:Nat} {d dx dy:D} {ds:List D} {b:Bool}
theorem nu (e:α->D) (f:α->SV) (Z:aX) (I:bu->Prop):∀(xs:List α) (ρ:bu) (a:List SV),I ρ->a.length+xs.length<=1000000->(∀x∈xs,∀ρ,I ρ->∃ρ',gt (.fz (e x)) ρ Z= .ok ρ' Z/\ft ρ' Z= .ok QG Z/\fe ρ' Z= .ok (f x) Z/\I ρ')->cL gt ft fe (xs.map e) ρ Z a= .ok (a++xs.map f) Z
 |[],ρ,a,_,_,_=>by show RS.ok a Z=_;rw[T6,Rf]
 |x::r,ρ,a,h0,hl,hs=>by obtain⟨ρ',h1,h2,h,g⟩:=hs x Q8 ρ h0;rw[Q0] at hl;show((gt (.fz (e x)) ρ Z).bind _)=_;rw[h1,RS.bind_ok,h2,RS.bind_ok,if_pos rfl,h,RS.bind_ok,if_pos (by omega),nu e f Z I r ρ' _ g (by rw[QM,V8];omega) fun y b=>hs y (Q4 _ b),Rj];rfl
theorem vt (hi:fi ρ Z= .ok ds Z1) (a:cL gt ft fe ds (gz n fj ρ) Z1 []= .ok xs Z2):l9 n fj fi gt ft fe ρ Z= .ok (.rf Z2.length) (Z2++[.lst xs]):=by unfold l9;rw[hi,RS.bind_ok,a,my,RS.bind_ok]
theorem wu (m:Nat):∀(ds:List D),mh (frz m) Z (ds.map .fz)=QB (ds,Z)
 |[]=>rfl
 |d::r=>by rw[QY];unfold mh;rw[show frz m Z (.fz d)=QB (d,Z) by cases m<;>rfl];dsimp only;rw[wu m r]
theorem pR (h:Z[i]? =QB (.lst (ds.map .fz))):frz 4 Z (.rf i)=QB (.list ds,Z.set i .dead):=by unfold frz;rw[h];dsimp only;rw[wu]
theorem EG (h:fe ρ Z= .ok (.rf i) Z1) (a:Z1[i]? =QB (.lst (ds.map .fz))):l8 fe ρ Z= .ok ds (Z1.set i .dead):=by unfold l8;rw[h,RS.bind_ok,pR a];rfl
def Qa (N C:bu->aX->Prop) (T:SV->aX->Prop):RS FlS->Prop
 | .ok (.nx ρ) Z=>N ρ Z
 | .ok (.ct ρ) Z=>C ρ Z
 | .ok (.rt v) Z=>T v Z
 |_=>False
structure U5 (r:RS FlS) (N C:bu->aX->Prop) (T:SV->aX->Prop):Prop where
 out:Qa N C T r
variable {f g:eS} {fe:dh} {N C:bu->aX->Prop} {T:SV->aX->Prop}
theorem U5.eq (e:r=r') (h:U5 r' N C T):U5 r N C T:=by rw[e];exact h
theorem qu (h:U5 (f ρ Z) (fun r o=>U5 (g r o) N C T) C T):U5 (aL f g ρ Z) N C T:=by
 refine⟨?_⟩;have h:=h.out;unfold aL;cases q:f ρ Z with
 |bad=>rw[q] at h;exact h.elim
 |er x o=>rw[q] at h;exact h.elim
 |ok fl o=>
  rw[q] at h;cases fl with
  |nx r=>exact(show U5 (g r o) N C T from h).out
  |ct r=>exact h
  |rt v=>exact h
  |bk r=>exact h.elim
theorem xI (h:c ρ Z= .ok b Z1) (a:b=QG->U5 (f ρ Z1) N C T) (e:b=QN->U5 (g ρ Z1) N C T):U5 (ck c f g ρ Z) N C T:=by
 unfold ck;rw[h,RS.bind_ok];cases b with
 |true=>exact a rfl
 |false=>exact e rfl
theorem sr (b:c ρ Z= .ok QG Z1) (a:U5 (f ρ Z1) N C T):U5 (ck c f g ρ Z) N C T:=xI b (fun _=>a) fun h=>by cases h
theorem dQ (b:c ρ Z= .ok QN Z1) (a:U5 (g ρ Z1) N C T):U5 (ck c f g ρ Z) N C T:=xI b (fun h=>by cases h) fun _=>a
theorem MQ (b:fe ρ Z= .ok x Z1) (a:gt x ρ Z1= .ok ρ1 Z2) (h:N ρ1 Z2):U5 (dJ fe gt ρ Z) N C T:=by refine⟨?_⟩;unfold dJ;rw[b,RS.bind_ok,a,RS.bind_ok];exact h
theorem mq (a:f ρ Z= .ok (.nx ρ1) Z1) (h:N ρ1 Z1):U5 (f ρ Z) N C T:=⟨by rw[a];exact h⟩
theorem Oo (a:f ρ Z= .ok (.rt x) Z1) (h:T x Z1):U5 (f ρ Z) N C T:=⟨by rw[a];exact h⟩
theorem ir (a:fe ρ Z= .ok x Z1) (h:N ρ Z1):U5 (bK fe ρ Z) N C T:=mq (fX a) h
theorem M0 (a:fe ρ Z= .ok x Z1) (h:T x Z1):U5 (gn fe ρ Z) N C T:=Oo (gW a) h
theorem JG (h:T (.fz .none) Z):U5 (uD ρ Z) N C T:=⟨h⟩
theorem kE (h:N ρ Z):U5 (cI ρ Z) N C T:=⟨h⟩
theorem jc {gt:yU} (b:fe ρ Z= .ok x Z1) (a:gt x ρ Z1= .ok ρ1 Z2) (h:U5 (g ρ1 Z2) N C T):U5 (aL (dJ fe gt) g ρ Z) N C T:=qu (MQ b a h)
theorem AH (a:f ρ Z= .ok (.nx ρ1) Z1) (h:U5 (g ρ1 Z1) N C T):U5 (aL f g ρ Z) N C T:=qu (mq a h)
theorem kW (a:fe ρ Z= .ok x Z1) (h:U5 (g ρ Z1) N C T):U5 (aL (bK fe) g ρ Z) N C T:=qu (ir a h)
theorem xL {f a:eS} (j:c ρ Z= .ok b Z1) (h:b=QG->U5 (aL f g ρ Z1) N C T) (i:b=QN->U5 (aL a g ρ Z1) N C T):U5 (aL (ck c f a) g ρ Z) N C T:=by
 have e:aL (ck c f a) g ρ Z=if b=QG then aL f g ρ Z1 else aL a g ρ Z1:=by unfold aL ck;rw[j,RS.bind_ok];cases b<;>rfl
 refine .eq e ?_;cases b with
 |true=>exact h rfl
 |false=>exact i rfl
theorem wm {a f:eS} (e:c ρ Z= .ok QG Z1) (b:U5 (aL a g ρ Z1) N C T):U5 (aL (ck c a f) g ρ Z) N C T:=xL e (fun _=>b) fun h=>by cases h
theorem qj {f a:eS} (e:c ρ Z= .ok QN Z1) (b:U5 (aL a g ρ Z1) N C T):U5 (aL (ck c f a) g ρ Z) N C T:=xL e (fun h=>by cases h) fun _=>b
theorem uH (h:T (.fz .none) Z):U5 (aL uD g ρ Z) N C T:=qu (JG h)
theorem mG (h:U5 (g ρ Z) N C T):U5 (aL cI g ρ Z) N C T:=qu (kE h)
theorem M6 {a b:eS} (h:U5 (aL a (aL b g) ρ Z) N C T):U5 (aL (aL a b) g ρ Z) N C T:=by
 refine .eq ?_ h;unfold aL;cases a ρ Z with
 |bad=>rfl
 |er x o=>rfl
 |ok fl o=>cases fl<;>rfl
theorem Mp (a:xs.map QB++QP (n - xs.length) QF=ρ) (h:U5 (g ρ Z) (fun _ Z'=>T (.fz .none) Z') (fun _ _=>False) T):∃x Z',cY n g xs Z= .ok x Z'/\T x Z':=by
 have h:=h.out;unfold cY;rw[a];cases q:g ρ Z with
 |bad=>rw[q] at h;exact h.elim
 |er x o=>rw[q] at h;exact h.elim
 |ok fl o=>
  rw[q] at h;cases fl with
  |nx r=>exact⟨_,_,rfl,h⟩
  |ct r=>exact h.elim
  |rt v=>exact⟨_,_,rfl,h⟩
  |bk r=>exact h.elim
theorem iz {W:aX->Prop} (a:xs.map QB++QP (n - xs.length) QF=ρ) (h:U5 (g ρ Z) (fun _ Z'=>SV.fz .none=v/\W Z') (fun _ _=>False) (fun r Z'=>r=v/\W Z')):∃Z',cY n g xs Z= .ok v Z'/\W Z':=by obtain⟨x,Z',h1,h2,b⟩:=Mp (T:=fun r Z'=>r=v/\W Z') a h;exact⟨Z',by rw[h1,h2],b⟩
end
end L10
namespace L10
open PySem PySem.SeqAt PySem.Spec PySem.W PyProof.Rows L2 L3
end L10
namespace L10
open PySem PyProof.Rows L2 L3
section
variable {B O O':ce} {K:QC} {E:XK} {H H' H1 H2:Hp} {α α' α1 α2:List QI} {Z Z' Z1 Z2:aX} {σ:L2.St} {ρ:bu} {v:V}
theorem Ak {fa fb:dh} {y z:SV} {i:Nat} {n:Int} {xs:List SV} (ha:fa ρ Z= .ok (.rf i) Z1) (e:fb ρ Z1= .ok y Z2) (hn:Cu y=QB n) (a:Z2[i]? =QB (.lst xs)) (b:kZ xs n=QB z):g9 fa fb ρ Z= .ok z Z2:=by unfold g9;rw[ha,RS.bind_ok,e,RS.bind_ok];unfold Ht;simp only[a,hn];show RS.RO Z2 (kZ xs n)=_;rw[b];rfl
end
end L10
namespace L10
open PySem PySem.Spec PyProof.Rows L2 L3
end L10
namespace L10
open PySem PyProof.Rows L2 L3
section
variable {O O':ce} {K:QC} {H H':Hp} {a b:QI} {xs:List V} {φ:Heap->Prop}
def Pq (a:QI) (O:ce) (H:Hp) (O':ce) (H':Hp):Prop:=∀b o,b≠a->H b=QB o->¬O b->H' b=QB o/\¬O' b
theorem Xu.evx (f:H a=QB (.ext φ)) (h:Xu O K H b xs) (e:Pq a O H O' H'):Xu O' K H' b xs:=by
 obtain⟨h,k⟩:=h;by_cases z:O b
 ·exact⟨U8.same (kM H') (k z),fun _=>k z⟩
 ·rcases h with(h|⟨o,h⟩)|h
  ·obtain⟨h1,h2⟩:=e b _ (fun y=>by rw[y,f] at h;cases h) h z;exact⟨.inl (.inl h1),fun y=>absurd y h2⟩
  ·obtain⟨h1,h2⟩:=e b _ (fun y=>by rw[y,f] at h;cases h) h z;exact⟨.inl (.inr ⟨o,h1⟩),fun y=>absurd y h2⟩
  ·exact⟨.inr h,fun _=> .inr h⟩
theorem V3.evx (f:H a=QB (.ext φ)) (h:V3 O K H b xs) (e:Pq a O H O' H'):V3 O' K H' b xs:=by
 obtain⟨h,k⟩:=h;by_cases z:O b
 ·exact⟨(kM H').tup (k z),fun _=>k z⟩
 ·rcases h with(h|⟨o,h⟩)|h
  ·obtain⟨h1,h2⟩:=e b _ (fun y=>by rw[y,f] at h;cases h) h z;exact⟨.inl (.inl h1),fun y=>absurd y h2⟩
  ·obtain⟨h1,h2⟩:=e b _ (fun y=>by rw[y,f] at h;cases h) h z;exact⟨.inl (.inr ⟨o,h1⟩),fun y=>absurd y h2⟩
  ·exact⟨.inr h,fun _=> .inr h⟩
mutual
theorem DV.evx (f:H a=QB (.ext φ)) (e:Pq a O H O' H'):∀{v:V} {d:D},L3.DV O K H v d->L3.DV O' K H' v d
 |_,_,.Te=> .Te
 |_,_,.bl b=> .bl b
 |_,_,.int i=> .int i
 |_,_,.str x=> .str x
 |_,_,.tup h hs=> .tup (V3.evx f h e) (SY.evx f e hs)
 |_,_,.lst h hs=> .lst (Xu.evx f h e) (SY.evx f e hs)
theorem SY.evx (b:H a=QB (.ext φ)) (e:Pq a O H O' H'):∀{vs:List V} {ds:List D},L3.SY O K H vs ds->L3.SY O' K H' vs ds
 |_,_,.nil=> .nil
 |_,_,.cons h hs=> .cons (DV.evx b e h) (SY.evx b e hs)
end
end
end L10
namespace PySem
open Sem (wp)
open PyProof.Rows
end PySem
namespace L10
open PySem PySem.Spec PyProof.Rows L2 L3
end L10
namespace L10
open PySem PyProof.Rows L2 L3
section
variable {B O O':ce} {K:QC} {E:XK} {H H' H1 H2:Hp} {α α' α1 α2:List QI} {Z Z' Z1 Z2:aX} {σ:L2.St} {ρ:bu} {v:V}
noncomputable def zh (n:String) (fa:dh):dh:=fun ρ Z=>(fa ρ Z).bind fun x Z1=>(RS.RO Z1 (uT 6 Z1 x)).bind fun d Z1=>(RS.RO Z1 (xT d)).bind fun t Z1=> .ok (.fz (.bool (zd n t))) Z1
theorem Be (hn:n= "int"\/n= "bool"\/n= "str"\/n= "list"\/n= "tuple") (ha:cJ K E ta fa):cJ K E (Ec (Fe K) (iq ta (iq (tC (.ty n)) mO))) (zh n fa):=by intro B σ H α Z ρ Q s sl w;refine ha B σ H α Z ρ _ s sl (w.bind.imp fun x α1 Z1 H1 e s1 w1 v b=> ?_);obtain⟨d,q,w1⟩:=WS.RO w1;obtain⟨t,a,w1⟩:=WS.RO w1;exact⟨v,n,t,zd n t,rfl,Ln (DV.x (jw s1 6 b q)) a,pE hn a,WS.now s1 w1 (.bl _) (.bl _)⟩
theorem GS (h:fa ρ Z= .ok x Z1) (hd:uT 6 Z1 x=QB d) (a:xT d=QB t):zh n fa ρ Z= .ok (.fz (.bool (zd n t))) Z1:=by unfold zh;rw[h,RS.bind_ok,hd];show((RS.RO Z1 (xT d)).bind _)=_;rw[a];rfl
theorem Rq.ac8 (s:Rq (b5 B p) K H α Z) (g:c≠ .dead) (f:H p≠QF) (e:COk (ow (b5 B p) α Z) K H α p c) (l:¬B p):Rq B K H (α++[p]) (Z++[c]):=by
 have m:ow (b5 B p) α Z=ow B (α++[p]) (Z++[c]):=wU s.len g;have hn:=s.ba p (.inr rfl);have ev:Ev (ow (b5 B p) α Z) H (ow B (α++[p]) (Z++[c])) H:=by rw[m];exact fun b o h n=>⟨h,n⟩
 refine⟨by rw[QM,QM,s.len];rfl,fun i j a h1 h2=> ?_,fun a h=>s.bn a (.inl h),fun a h i z=> ?_,fun i a h=> ?_,fun i a r h1 h2=> ?_⟩
 ·rcases bx h1 with g1|⟨e1,e2⟩<;>rcases bx h2 with g2|⟨e3,e4⟩
  ·exact s.nd i j a g1 g2
  ·rw[e4] at g1;exact absurd g1 (hn i)
  ·rw[e2] at g2;exact absurd g2 (hn j)
  ·omega
 ·rcases bx z with z|⟨_,rfl⟩
  ·exact s.ba a (.inl h) i z
  ·exact l h
 ·rcases bx h with h|⟨_,rfl⟩
  ·exact s.al i a h
  ·exact f
 ·rcases bx h2 with h2|⟨e2,rfl⟩
  ·rcases bx h1 with h1|⟨e1,rfl⟩
   ·exact(s.X3 i a r h1 h2).ev ev (fun _ _ h=>d6 h) fun _ q=>q
   ·have:=(QK.mp h2).1;rw[<-s.len] at this;omega
  ·rcases bx h1 with h1|⟨e1,rfl⟩
   ·have:=(QK.mp h1).1;rw[s.len] at this;omega
   ·exact e.ev ev (fun _ _ h=>d6 h) fun _ q=>q
end
end L10
namespace L3
open PySem PySem.Spec PyProof.Rows L2
end L3
namespace L3
open PySem L2
structure NI (K:QC) (f:QI) (n:Str) (t:Tg):Prop where
 a:QZ K QW n=QB (QB (.ref f))
 F:∃fd,Up K n n t f fd
structure MI (K:QC) (C f:QI) (m q:Str) (t:Tg):Prop where
 a:Rr K (.ref C) m=QB (QB (.ref f))
 i:TY K (.ref f)=QG
 F:∃fd,Up K m q t f fd
structure CI (K:QC) (C:QI) (n:Str) (fs:List Str):Prop where
 a:QZ K QW n=QB (QB (.ref C))
 pg:Ux K C Str.empty=QG
 hd:TH K C=QG
 po:WE K C=QG
 sa:Rr K (.ref C) "__setattr__"=QB (QB (.builtin "object.__setattr__"))
 mm:Xp K C=QG
 kc:SI K (.ref C)=QG
 fl:∀x∈fs,Vh K C x
def BA (n q:Str) (t:Tg) (ps:List Str):Prop:=∀(kV doc pm:QD) (an:Option QI) (Sl ct:QD) (us:List QD),us.length=ps.length->bindArgs (So n q (fC t) (b6 t) (ay t) .none kV doc pm an Sl ct) ⟨us,[]⟩=pure (ps.zip us)
section
variable {P:Q7} {w:Rv} {K:QC} {mg:Str->Option QD} {base h:Heap} {f C:QI} {n m q:Str} {t:Tg} {ps fs:List Str} {lv k:Nat} {sp sp':Sp}
theorem CI.cls (c:CI K C n fs):ZE K C:=⟨c.pg,c.hd,c.po,c.sa⟩
theorem CI.cf (c:CI K C n fs):L10.gu K n fs:=⟨C,c.a,c.cls,c.fl⟩
theorem NI.cal (i:NI K f n t) (X:K.In h) (G:h.Ns QW mg) (b:BA n n t ps) (ok:∀fd,Up K n n t f fd->FnOk P w K mg base di lv f fd ps sp):rS P w K mg base lv n ps sp:=
 let⟨fd,z⟩:=i.F;⟨f,fd,ok fd z,z.binds b,z.kp,Sf X G i.a⟩
theorem NI.law (i:NI K f "law" t) (X:K.In h) (G:h.Ns QW mg) (b:mg "law"=QB (.ref fa)) (g:BA "law" "law" t [x]) (ok:∀base fd,Up K "law" "law" t f fd->FnOk P w K mg base di lv f fd [x] sp):∃fd:RQ,(∀(s:QL) (v:QD),Wr s fd ⟨[v],[]⟩ [(x,v)])/\∀base:Heap,K.In base->base.Ns QW mg->FnOk P w K mg base di lv fa fd [x] sp:=by have e:=b.symm.trans (Sf X G i.a);cases e;obtain⟨fd,z⟩:=i.F;obtain⟨oc,od,kV,doc,pm,an,Sl,ct,Y0,rfl,j,l⟩:=z.ex;exact⟨_,fun s v=> .of_eq (g kV doc pm an Sl ct [v] rfl),fun base _ _=>ok base _ z⟩
theorem Bc (a:S9 k A):A.units+65<cLine:=by have:=a.un;omega
theorem GH (p:SO K E u g) (h:Xg X b u):∃t,Xg X b t/\SO K E t g:=⟨_,h,p⟩
theorem Dk (p:L10.mX K E u g) (h:Xg X b u):∃t,Xg X b t/\L10.mX K E t g:=⟨_,h,p⟩
theorem oh {x qual:Str} {st:Tg} {fd:RQ} {N:List Str} {n m:Nat} {g:FS} {FF:FN} (F:Up K x qual st f fd) (S:Tz N ps (ay st)) (hn:ps.length=n) (hm:N.length=m) (b:FF=gC m g)
  (e:∀(Sl:QD) (A:Rp) (outer:List Env) (s:QL) (H:Hp) (E:XK),N.Nodup->S9 k (A.deeper (Rb qual (ay st) s.heap.objs.size f Sl))->(A.deeper (Rb qual (ay st) s.heap.objs.size f Sl)).units+64<cLine->(A.deeper (Rb qual (ay st) s.heap.objs.size f Sl)).units+1<cLine->(A.deeper (Rb qual (ay st) s.heap.objs.size f Sl)).units+65<cLine->
   ∃t,Xg (eT di P w K mg base N qual (ay st) f Sl A outer s H E).nox (b6 st) t/\SO K E t g):FnOk P w K mg base di (k+1) f fd ps (oP K n FF):=
 Qo F S hn hm b fun Sl A outer s H E a=>e Sl A outer s H E S.nd a a.units (BT a) (Bc a)
theorem kq {n m:Nat} (F:Up K x qual st f fd) (S:Tz N ps (ay st)) (hn:ps.length=n) (hm:N.length=m) (b:FF=L10.cY m g)
  (e:∀(Sl:QD) (A:Rp) (outer:List Env) (s:QL) (H:Hp) (E:XK),N.Nodup->S9 k (A.deeper (Rb qual (ay st) s.heap.objs.size f Sl))->(A.deeper (Rb qual (ay st) s.heap.objs.size f Sl)).units+64<cLine->(A.deeper (Rb qual (ay st) s.heap.objs.size f Sl)).units+1<cLine->(A.deeper (Rb qual (ay st) s.heap.objs.size f Sl)).units+65<cLine->
   ∃t,Xg (eT di P w K mg base N qual (ay st) f Sl A outer s H E).nox (b6 st) t/\L10.mX K E t g):FnOk P w K mg base di (k+1) f fd ps (L10.dn K n FF):=
 L10.Qq F S hn hm b fun Sl A outer s H E a=>e Sl A outer s H E S.nd a a.units (BT a) (Bc a)
theorem Iv {W:QI} {RE:Array QD} {e:Nat} {ss:Array (Option QD)} {xs:List V} {ds:List D} (l:K.lookup W=QB ⟨.type "tuple",QF,.seq RE e,ss⟩) (b:RE.size<=QU) (a:Vals xs RE.toList) (hd:∀O H,SY O K H xs ds):∀O H,DV O K H (.ref W) (.tuple ds):=fun O H=>
 .tup (xs:=xs) ⟨.inr ⟨_,_,_,l,⟨rfl,rfl⟩,rfl,b,a⟩,fun _=> .inr ⟨_,_,_,l,⟨rfl,rfl⟩,rfl,b,a⟩⟩ (hd O H)
end
end L3
namespace L2
open PySem PySem.Spec PyProof.Rows
end L2
namespace L3
open PySem PySem.Spec PyProof.Rows L2
end L3
namespace L10R
open PySem PySem.Calls PyProof.Rows
end L10R
namespace L2
open PySem PySem.Spec PyProof.Rows
end L2
namespace L10
open PySem PySem.Spec PyProof.Rows L2 L3
end L10
namespace L9
open PySem PySem.Spec PyProof.Rows L2 L3 L4
end L9
namespace L2
open PySem PySem.Spec PyProof.Rows
end L2
namespace L3
open PySem L2
end L3
namespace L10
open PySem PySem.Spec PyProof.Rows L2 L3
end L10
namespace L4
open PySem PySem.Spec PyProof.Rows L2 L3
def OG (X:Cx) (st:List Tg) (σ:L2.St) (t:TS):Prop:=∀(pins:List (QI×Obj)) (s:QL) (H:Hp) (D:Ends),L2.Inv X pins σ H s->t D σ H->wpAny (model X.prog X.w) X.A (execs st X.env) (SP X pins D) X.xe s
def pN (X:Cx) (σ:L2.St) (E2:XK):QD->QL->Prop:=fun x s1=>∃H1 e c dx a0 T,x= .ref e/\L2.Inv X [] σ H1 s1/\CF s1.heap e c dx a0 (QB T)/\Apart X e/\Apart X T/\H1 e=QF/\H1 T=QF/\E2 c dx H1
def Lf (E2:XK) (i:Nat) (tb b:TS):TS:=fun D σ H=>tb D σ H/\∀c dx H1,E2 c dx H1->∀(e:QI) (ob:Obj),H1 e=QF->ob.cls=c->ob.dict=dx->VY ob=QG->
 b {nx:=fun a H2=>D.nx (a.set i QF) H2,rt:=fun _ _=>False} (σ.set i (QB (.ref e))) (bv H1 e (.frz ob (.own e)))
theorem Jc
  (hex:X.ex=[]) (hN:X.N.Nodup) (dg:X.stack=X.env::X.outer) (YX:X.env.frame=QB X.env.locals) (hg:Gl X x) (hm:X.mg x=QB (.ref U)) (hU:sG X.K U mU) (hbU:mU.contains (.type "BaseException")=QG)
  (hi:X.N[i]? =QB n) (hlo:X.env.kindOf n=QB .local) (hb:∀l σ,OG ((Cx.pinned X l).VF (pN (Cx.pinned X l) σ E2)) body σ tb) (hs:∀l e,Xg (Cx.marked (Cx.pinned X l) e) (b0::ad8) ts)
  (hE:∀c dx H,E2 c dx H->∃C m,c= .ref C/\sG X.K C m/\(QD.ref C::m).contains (.ref U)=QG) (Ya:(x==("__debug__":Str))=QN:=by decide):
  PS X (.Try body [.ExceptHandler (QB (.Name x np)) (QB n) (b0::ad8) ajq] [] [] pos) (Lf E2 i tb ts):=by
 intro pins s σ H D I ⟨h,hc⟩;have IY:=J5 I;have acE:=hex;refine wpAny_Try_except (wpAny_mono (hb (X.pn++pins) σ [] s H D (IY.VF _) h) (fun f s1 hf=> ?_) (fun v s1 hx=> ?_))
 ·have hf:=SP.UP hf
  cases f with
  |next=>obtain⟨σ1,H1,I1,q1⟩:=hf;exact Us ⟨σ1,H1,iY I.ok I1,q1⟩
  |brk=>obtain⟨σ1,H1,I1,q1⟩:=hf;exact⟨σ1,H1,iY I.ok I1,q1⟩
  |cont=>obtain⟨σ1,H1,I1,q1⟩:=hf;exact⟨σ1,H1,iY I.ok I1,q1⟩
  |ret u=>obtain⟨v,σ1,H1,I1,r,q1⟩:=hf;exact⟨v,σ1,H1,iY I.ok I1,r,q1⟩
 ·obtain⟨H1,e,c,dx,a0,T,rfl,I1,F,aE,aT,ne,nT,q⟩:=hx
  obtain⟨C,mC,hcC,⟨n1,q1,N1,b1,d1,t1,u1,a1,l1,x1,i0,i1,i2,i3,i5,id1,kC⟩,hup⟩:=hE c dx H1 q;obtain⟨n2,q2,N2,b2,d2,t2,u2,a2,l2,x2,j0,j1,j2,j3,j5,id2,kU⟩:=hU;have fr:X.A.frames=QB (X.env::X.outer):=by rw[<-dg];exact I.ok.frames
  have ff:s1.heap.FunFrames X.base (X.env::X.outer):=by rw[<-dg];exact I1.stack
  refine IP fr ff YX F fun h2 T2 z2 F2 L2'=> ?_
  have I2:=p7 I1 (fun b=>b=e\/b=T) acE (fun p hp y=>y.elim (aE.nP p hp) (aT.nP p hp))
   (fun b o z nS nf=>L2'.keep b o z (fun y=>nS (.inl y)) (fun y=>nS (.inr (QX y).symm)) (by rw[<-dg];exact nf))
   (fun b o z nS=>L2'.slot b o z (fun y=>nS (.inl y)) (fun y=>nS (.inr (QX y).symm))) L2'.here
   (fun b y=>y.elim (fun y=>by rw[y];exact aE.n0) (fun y=>by rw[y];exact aT.n0)) (fun y=>y.elim (fun y=>aE.nL y.symm) (fun y=>aT.nL y.symm))
   (fun y k z w=>w.elim (aE.nC y k z) (aT.nC y k z)) (fun b y=>y.elim (fun y=>by rw[y];exact ne) (fun y=>by rw[y];exact nT))
  have aT2:=qE I1 acE (Heap.get?_none_of_le z2);have nT2:=I1.Sa.fresh z2;refine wpAny_handleBy_cons (codeAny_handlers_test (jb (rQ I2 e) hg hm ?_ Ya)) (by intro y;cases y);have F2':=F2;obtain⟨ob,fs,qe,cE,dE,dF,_⟩:=F2';refine D9 (I2.UT _ _ kC) (I2.UT _ _ kU) qe (cE.trans hcC) hbU hup ?_;refine codeAny_handlers_suite_as (LJ F2 fun h3 F3 Ve hT3=> ?_);have neT:e≠T2:=fun y=>by obtain⟨_,_,_,_,_,_,_,_,w,_⟩:=F2;exact w y.symm
  have I3:=p7 I2 (fun b=>b=T2) acE (fun p hp y=>aT2.nP p hp y)
   (fun b o z nS _=>(Ve b nS).trans z) (fun b o z nS=>⟨o.slots,(Ve b nS).trans z⟩)
   (fun b o z=>(Classical.em (b=T2)).elim (fun y=>by rw[y];exact hT3) (fun y=>⟨o,(Ve b y).trans z⟩)) (fun b y=>by rw[y];exact aT2.n0) (fun y=>aT2.nL y.symm) (fun y k z w=>aT2.nC y k z w) (fun b y=>by rw[y];exact nT2)
  have I4:=CN I3 aE.nP ((Ve e neT).trans qe) ne aE.n0 aE.nL aE.nC;refine qV (X:=Cx.marked (Cx.pinned X (X.pn++pins)) e) (rQ I4 e) hN hi (.inl hlo) (v:= .ref e) rfl (fun s4 I5=> ?_) (.inr hlo);have w:=hc c dx H1 q e ob ne cE dE (by unfold VY;rw[dF]);refine wpAny_mono (hs (X.pn++pins) e [] s4 _ _ _ I5 w) (fun f s5 hf=> ?_) (fun y s5 z=>z.elim);cases f with
  |next=>obtain⟨σ2,H2,I6,q6⟩:=hf;exact C2 (yD IY.ok I6) hN hi hlo fun s6 I7=>⟨_,_,iY I.ok I7,q6⟩
  |brk=>obtain⟨σ2,H2,I6,q6⟩:=hf;exact q6.elim
  |cont=>obtain⟨σ2,H2,I6,q6⟩:=hf;exact q6.elim
  |ret u=>obtain⟨v,σ2,H2,I6,r,q6⟩:=hf;exact q6.elim
end L4
namespace L3
open PySem L2
end L3
namespace LD
open PySem PyProof.Rows L2 L3
noncomputable def ra (xs:List (KD×QI×V)) (k:KD):Option V:=(xs.find? fun x=>decide (x.1=k)).map (·.2.2)
noncomputable def lG (xs:List (KD×QI×V)) (k:KD) (b:QI) (v:V):List (KD×QI×V):=
 if(xs.find? fun x=>decide (x.1=k)).isSome=QG then xs.map (fun x=>if x.1=k then(x.1,x.2.1,v) else x) else xs++[(k,b,v)]
noncomputable abbrev RX:List (KD×QI×V)->List (KD×QI×QD)->Prop:=Paired fun x y=>x.1=y.1/\x.2.1=y.2.1/\RelV x.2.2 y.2.2
theorem wq:∀{xs:List (KD×QI×V)} {ys:List (KD×QI×QD)},RX xs ys->xs.map (·.1)=ys.map (·.1)
 |_,_,.nil=>rfl
 |_,_,.cons h t=>by rw[QY,QY,h.1,wq t]
theorem zD:∀{xs:List (KD×QI×V)} {ys:List (KD×QI×QD)},RX xs ys->Vf (ra xs k) ((atKey ys k).map (·.2))
 |_,_,.nil=>by unfold ra atKey;exact trivial
 |x::xs,y::ys,.cons h t=>by
  unfold ra atKey;rw[RB,RB,h.1];by_cases e:y.1=k
  ·rw[decide_eq_true e];exact h.2.2
  ·rw[decide_eq_false e];exact zD t
theorem Ax:∀{xs:List (KD×QI×V)} {ys:List (KD×QI×QD)},RX xs ys->(xs.find? fun x=>decide (x.1=k)).isSome=(atKey ys k).isSome
 |_,_,.nil=>rfl
 |x::xs,y::ys,.cons h t=>by
  unfold atKey;rw[RB,RB,h.1];by_cases e:y.1=k
  ·rw[decide_eq_true e];rfl
  ·rw[decide_eq_false e];exact Ax t
theorem G7 (r:RelV v u):∀{xs:List (KD×QI×V)} {ys:List (KD×QI×QD)},RX xs ys->RX (xs.map fun x=>if x.1=k then(x.1,x.2.1,v) else x) (ys.map (putAt k u))
 |_,_,.nil=> .nil
 |x::xs,y::ys,.cons h t=>by
  rw[QY,QY];refine .cons ?_ (G7 r t);unfold putAt;by_cases e:y.1=k
  ·rw[if_pos (h.1.trans e),if_pos e];exact⟨h.1,h.2.1,r⟩
  ·rw[if_neg (by rw[h.1];exact e),if_neg e];exact h
theorem A7 (h:x.1=y.1/\x.2.1=y.2.1/\RelV x.2.2 y.2.2):∀{xs:List (KD×QI×V)} {ys:List (KD×QI×QD)},RX xs ys->RX (xs++[x]) (ys++[y])
 |_,_,.nil=> .cons h .nil
 |_,_,.cons g t=> .cons g (A7 h t)
theorem DN (r:RelV v u) (h:RX xs ys):RX (lG xs k b v) (storedH ys k b u):=by
 unfold lG storedH;rw[Ax h];split
 ·exact G7 r h
 ·exact A7 ⟨rfl,rfl,r⟩ h
theorem on (xs:List (KD×QI×V)) (k:KD) (b:QI) (v:V):(lG xs k b v).length<=xs.length+1:=by
 unfold lG;split
 ·rw[QH];omega
 ·rw[QM];exact QS _
def xP (K:QC) (H:Hp) (xs:List (KD×QI×V)):Prop:=∀x∈xs,L2.DV K H (.ref x.2.1) x.1.1
section
variable {X:Cx} {pins:List (QI×Obj)} {σ:L2.St} {H:Hp} {s:QL} {a b:QI} {xs:List (KD×QI×V)} {k:KD} {v:V} {u r:QD} {A:Rp} {E:QD->QL->Prop}
theorem KF:∀{xs:List (KD×QI×V)} {es:List UB},Paired (fun(x:KD×QI×V) (e:UB)=>e.hash=qS w x.1.1/\e.key= .ref x.2.1/\RelV x.2.2 e.val) xs es->∃ys,RX xs ys/\es=ys.map (entryOfKey (gY P w))
 |_,_,.nil=>⟨[],.nil,rfl⟩
 |x::_,e::_,.cons ⟨h1,h2,h3⟩ t=>by obtain⟨ys,b,a⟩:=KF t;refine⟨(x.1,x.2.1,e.val)::ys,.cons ⟨rfl,rfl,h3⟩ b,?_⟩;rw[QY,<-a];obtain⟨g,f,ev⟩:=e;dsimp only at h1 h2;subst h1 h2;rfl
theorem KR:∀{xs:List (KD×QI×V)} {ys:List (KD×QI×QD)},RX xs ys->Paired (fun(x:KD×QI×V) (e:UB)=>e.hash=qS w x.1.1/\e.key= .ref x.2.1/\RelV x.2.2 e.val) xs (ys.map (entryOfKey (gY P w)))
 |_,_,.nil=> .nil
 |_,_,.cons h t=> .cons ⟨by rw[h.1];rfl,by rw[h.2.1];rfl,h.2.2⟩ (KR t)
theorem rq (I:L2.Inv X pins σ H s) (h:L2.DV X.K H (.ref b) k.1):(gY X.prog X.w).is s.heap k b:=L2.DV.reads I h rfl
theorem AD (I:L2.Inv X pins σ H s) (e:H a=QB (DkO a xs)) (i:xP X.K H xs):xs.length<=QU/\(a==S8)=QN/\∃ys,RX xs ys/\s.heap.DictOfH (gY X.prog X.w) a ys:=by
 obtain⟨⟨⟨z,hd,nd⟩,o,es,u,h1,h2,n,j⟩,_⟩:=(show ObjOk X.prog X.w H s.heap a (DkO a xs) from I.Sa a _ e);obtain⟨ys,f,r⟩:=KF j;refine⟨z,hd,ys,f,o,es,u,h1,h2,n,r,?_,by rw[<-wq f];exact nd⟩;have all:∀{l:List (KD×QI×V)} {m:List (KD×QI×QD)},RX l m->(∀x∈l,L2.DV X.K H (.ref x.2.1) x.1.1)->∀y∈m,(gY X.prog X.w).is s.heap y.1 y.2.1:=by
  intro l m q
  induction q with
  |nil=>intro _ y b;exact nomatch b
  | @cons p q ps qs hq t ih=>
   intro g y b;rcases Rk.mp b with e|b
   ·subst e;have:=rq I (g p (Q8 ..));rw[hq.1,hq.2.1] at this;exact this
   ·exact ih (fun x h=>g x (Q4 _ h)) y b
 exact all f i
theorem vL (z:xs.length<=QU) (hd:(a==S8)=QN) (rel:RX xs ys) (dd:h'.DictOfH (gY P w) a ys):ObjOk P w H' h' a (DkO a xs):=by obtain⟨o,es,b,h1,h2,g,f,j,e⟩:=dd;refine⟨⟨⟨z,hd,by rw[wq rel];exact e⟩,o,es,b,h1,h2,g,by rw[f];exact KR rel⟩,⟨o,h1⟩,?_⟩;rintro m l ⟨q,o,es,b,i,h⟩ st;exact⟨q,o,es,b,st o i,h⟩
theorem vp (a:A.units+64<cLine):(gY X.prog X.w).room A.in1:=by show A.in1.units+8<cLine;rw[Rp.in1_units];omega
theorem Nc (j:A.units+64<cLine) (I:L2.Inv X pins σ H s) (e:H a=QB (DkO a xs)) (l:xP X.K H xs) (m:L2.DV X.K H (.ref b) k.1) (g:ra xs k=QB v) (h:∀w' s',L2.Inv X pins σ H s'->RelV v w'->Q w' s'):
  wpAny (model X.prog X.w) A (getItem (.ref a) (.ref b)) Q E s:=by
 obtain⟨z,hd,ys,rel,dd⟩:=AD I e l;obtain⟨w',i,n⟩:=Vf.some_of (by rw[<-g];exact zD rel);obtain⟨p,hp,f⟩:=YE.mp i;refine acv (vp j) (rq I m) dd hp ?_;rw[f];exact h w' _ (I.tok _) n
theorem Ni (f:A.units+64<cLine) (I:L2.Inv X pins σ H s) (e:H a=QB (DkO a xs)) (g:xP X.K H xs) (i:L2.DV X.K H (.ref b) k.1) (h:∀s',L2.Inv X pins σ H s'->Q (.bool (!(ra xs k).isSome)) s'):
  wpAny (model X.prog X.w) A (S3 .NotIn (.ref b) (.ref a)) Q E s:=by
 obtain⟨z,hd,ys,rel,dd⟩:=AD I e g;refine wpAny_notIn_heap (vp f) (rq I i) hd dd ?_;have q:=(zD (k:=k) rel).Wa;rw[S7] at q;rw[<-q];exact h _ (I.tok _)
theorem MO (j:A.units+64<cLine) (I:L2.Inv X pins σ H s) (e:H a=QB (DkO a xs)) (m:xP X.K H xs) (o:L2.DV X.K H (.ref b) k.1) (rv:RelV v r) (p:xs.length<QU) (h:∀s',L2.Inv X pins σ (bv H a (DkO a (lG xs k b v))) s'->Q () s'):
  wpAny (model X.prog X.w) A (setItem (.ref a) (.ref b) r) Q E s:=by
 obtain⟨z,hd,ys,rel,dd⟩:=AD I e m;have i:ys.length<=QU:=by rw[<-Paired.length rel];exact z
 have g:(lG xs k b v).length<=QU:=by have:=on xs k b v;omega
 refine acw (hsz:=i) (vp j) (rq I o) dd fun h' f l=>h _ ?_;have n:∃q,h'.get? a=QB q:=let⟨q,_,_,hq,_⟩:=f;⟨q,hq⟩
 exact mV I (by rw[e];exact True.intro) l n (vL g hd (DN rv rel) f)
theorem Iz (I:L2.Inv X pins σ H s) (e:H a=QB (DkO a xs)):s.TypeIs (.ref a) "dict"/\(∀b,QD.ref a= .ref b->∃ob,s.heap.get? b=QB ob/\ob.dict=QF)/\(a==S8)=QN:=by obtain⟨⟨⟨z,hd,nd⟩,o,es,h,h1,h2,g,f⟩,_⟩:=(show ObjOk X.prog X.w H s.heap a (DkO a xs) from I.Sa a _ e);refine⟨⟨o,h1,h2.1⟩,fun b q=> ?_,hd⟩;cases q;exact⟨o,h1,h2.2.1⟩
end
section
variable (K:QC)
def Li (neg:Bool) (ty td:TE):TE:=fun σ H Q=>ty σ H fun y H1=>td σ H1 fun x H2=>∃a b xs k,x= .ref a/\y= .ref b/\H2 a=QB (DkO a xs)/\xP K H2 xs/\L2.DV K H2 (.ref b) k.1/\Q (.bl ((ra xs k).isSome !=neg)) H2
def Hh (td ty:TE):TE:=fun σ H Q=>td σ H fun x H1=>ty σ H1 fun y H2=>∃a b xs k v,x= .ref a/\y= .ref b/\H2 a=QB (DkO a xs)/\xP K H2 xs/\L2.DV K H2 (.ref b) k.1/\ra xs k=QB v/\Q v H2
def D1 (td ty tv:TE):TS:=fun D σ H=>tv σ H fun v H1=>td σ H1 fun x H2=>ty σ H2 fun y e=>∃a b xs k,x= .ref a/\y= .ref b/\e a=QB (DkO a xs)/\xP K e xs/\L2.DV K e (.ref b) k.1/\xs.length<QU/\D.nx σ (bv e a (DkO a (lG xs k b v)))
def GW:TE:=fun _ H Q=>∀p,H p=QF->Q (.ref p) (bv H p (DkO p []))
end
section
variable {X:Cx} {o i e f value:RN} {td ty tx tv:TE} {pos pos' apos Uo:Pos}
theorem YS (m:X.A.units+64<cLine) (hi:PE X i ty) (n:PE X o td):PC X .NotIn i o (Li X.K QG ty td):=by intro pins s σ H Q I h;refine cG (hi pins s σ H _ I h) fun w s1 ⟨y,H1,t,g,q1⟩=>cG (n pins s1 σ H1 _ t q1) fun u s2 ⟨x,H2,r,j,a,b,xs,k,ex,p,e,ks,l,f⟩=> ?_;subst ex p;obtain rfl:=j;obtain rfl:=g;rw[Bool.bne_true] at f;exact Ni m r e ks l fun v q=>⟨.bl _,H2,q,rfl,f⟩
theorem abd (p:X.A.units+64<cLine) (r:PE X o td) (hi:PE X i ty) (q:Nj i):PE X (.Subscript o i pos) (Hh X.K td ty):=by intro pins s σ H Q I h;refine BG X0.lookup q (cG (r pins s σ H _ I h) fun u s1 ⟨x,H1,B,l,q1⟩=>cG (hi pins s1 σ H1 _ B q1) fun F s2 ⟨y,H2,f,j,a,b,xs,k,v,ex,t,e,ks,n,g,m⟩=> ?_);subst ex t;obtain rfl:=l;obtain rfl:=j;exact⟨(Iz f e).1,Nc p f e ks n g fun C E z w=>⟨v,H2,z,w,m⟩⟩
theorem YY (p:X.A.units+64<cLine) (t:PE X o td) (hi:PE X i ty) (n:PE X value tv) (q:Ss value (QB (.Subscript o i pos')) pos.line X.env=pure QN):
  PS X (.Assign [.Subscript o i pos'] value pos) (D1 X.K td ty tv):=by
 intro pins s σ H D I h;refine aaC (cG (n pins s σ H _ I h) fun r s1 ⟨v,H1,F,rv,q1⟩=>cG (t pins s1 σ H1 _ F q1) fun u s2 ⟨x,H2,E,g,l⟩=>cG (hi pins s2 σ H2 _ E l) fun L J ⟨y,M,C,f,a,b,xs,k,ex,z,e,ks,m,w,j⟩=> ?_) q;subst ex z;obtain rfl:=g;obtain rfl:=f;exact MO p C e ks m rv w fun G B=>⟨σ,_,B,j⟩
theorem aaY:PE X (.Dict [] [] pos) GW:=fun pins s σ H Q I h=>
 wpAny_Dict_empty ⟨.ref s.heap.objs.size,_,I.laid (fun _ _ q=>Heap.get?_push_of_some _ q) (QS _) (vL (RF _) (beq_eq_false_iff_ne.mpr (Ne.symm (Ra I.big))) .nil (Heap.DictOfH.new s.heap)),rfl,h _ (I.Sa.fresh (QS _))⟩
end
mutual
noncomputable def N0:QJ->QJ->Option Bool
 | .int i,.int j=>QB (decide (i<j))
 | .str x,.str y=>QB (decide (x.cps.toList<y.cps.toList))
 | .tuple xs,.tuple ys=>OJ xs ys
 |_,_=>QF
noncomputable def OJ:List QJ->List QJ->Option Bool
 |[],[]=>QB QN
 |[],_::_=>QB QG
 |_::_,[]=>QB QN
 |x::xs,y::ys=>if QJ.eqv x y=QG then OJ xs ys else N0 x y
end
end LD
namespace LD
open PySem PyProof.Rows
structure VE (es:List UB) (Rc:List (Unit×QD)):Prop where
 vals:es.map (·.val)=Rc.map (·.2)
end LD
namespace LD
open PySem PyProof.Rows L2 L3 L10
end LD
namespace L10
open PySem PyProof.Rows L2 L3 LD
noncomputable def jE:SV->Option D
 | .fz d=>if keyD d=QG then QB d else QF
 |_=>QF
noncomputable def N4:SV->Option D
 | .fz d=>QB d
 |_=>QF
noncomputable def ti (Z:aX):SV->Option (Nat×List (D×D))
 | .rf i=>match Z[i]? with
  |some (.dd Rc)=>QB (i,Rc)
  |_=>QF
 |_=>QF
noncomputable def gx (Rc:List (D×D)) (k:D):Option D:=(Rc.find? fun a=>QJ.eqv a.1 k).map (·.2)
noncomputable def iV (Rc:List (D×D)) (k v:D):List (D×D):=if(Rc.find? fun a=>QJ.eqv a.1 k).isSome=QG then Rc.map (fun a=>if QJ.eqv a.1 k=QG then(a.1,v) else a) else Rc++[(k,v)]
section
variable {B O O':ce} {K:QC} {E:XK} {H H' H1 H2:Hp} {α α' α1 α2:List QI} {Z Z' Z1 Z2:aX} {σ:L2.St} {ρ:bu} {v:V} {k:KD}
theorem l7 (e:jE x=QB d) (h:Ur O K H α v x):∃(k:KD) (b:QI),k.1=d/\v= .ref b/\L3.DV O K H (.ref b) d:=by
 cases x with
 |fz z=>
  have e:(if keyD z=QG then QB z else QF)=QB d:=e;by_cases hk:keyD z=QG
  ·rw[if_pos hk] at e
   cases e;have h:=h;cases d with
   |tuple xs=>cases h with
    |tup h1 h2=>exact⟨⟨_,hk⟩,_,rfl,rfl,.tup h1 h2⟩
   |_=>simp[keyD] at hk
  ·rw[if_neg hk] at e;cases e
 |rf i=>cases e
 |tp l=>cases e
theorem Fo (s:Rq B K H α Z) (b:Ur (ow B α Z) K H α v x) (h:ti Z x=QB (i,Rc)):Z[i]? =QB (.dd Rc)/\∃a xs,α[i]? =QB a/\v= .ref a/\H a=QB (DkO a xs)/\PrD (ow B α Z) K H xs Rc:=by
 cases x with
 |fz d=>cases h
 |tp l=>cases h
 |rf j=>
  obtain⟨a,ha,rfl⟩:=b;unfold ti at h;dsimp only at h;cases q:Z[j]? with
  |none=>rw[q] at h;cases h
  |some c=>
   rw[q] at h;cases c with
   |dd ys=>have e:=QX h;cases e;obtain⟨ws,h1,h2⟩:=s.X3 i a _ ha q;exact⟨q,a,ws,ha,rfl,h1,h2⟩
   |_=>cases h
theorem Bl:∀{xs:List (KD×QI×V)} {Rc:List (D×D)},PrD O K H xs Rc->xP K H xs
 |_,_,.nil=>fun _ h=>nomatch h
 |x::xs,kv::Rc,.cons h t=>fun y a=>by
  rcases Rk.mp a with e|a
  ·subst e;rw[h.1];exact h.2.1.plain
  ·exact Bl t y a
theorem uO {x:KD×QI×V} {a:D×D} (h:x.1.1=a.1):decide (x.1=k)=QJ.eqv a.1 k.1:=by
 rw[<-h]
 haveI:Decidable (x.1.1=k.1):=Classical.propDecidable _
 rw[DW (eA x.1.2).1 (eA k.2).1];by_cases e:x.1=k
 ·rw[decide_eq_true e,decide_eq_true (congrArg Subtype.val e)]
 ·rw[decide_eq_false e,decide_eq_false fun z=>e (Subtype.ext z)]
theorem qD:∀{xs:List (KD×QI×V)} {Rc:List (D×D)},PrD O K H xs Rc->(∀d,gx Rc k.1=QB d->∃v,ra xs k=QB v/\L3.DV O K H v d)/\(gx Rc k.1=QF->ra xs k=QF)
 |_,_,.nil=>⟨fun x e=>(by cases e),fun _=>rfl⟩
 |x::xs,kv::Rc,.cons h t=>by
  unfold gx ra;rw[RB,RB,uO h.1];cases QJ.eqv kv.1 k.1 with
  |true=>exact⟨fun d e=>⟨x.2.2,rfl,by cases e;exact h.2.2⟩,fun e=>by cases e⟩
  |false=>exact qD t
theorem Af (h:PrD O K H xs Rc):(ra xs k).isSome=(gx Rc k.1).isSome:=by
 obtain⟨h1,h2⟩:=qD h;cases q:gx Rc k.1 with
 |none=>rw[h2 q];rfl
 |some x=>obtain⟨u,e,_⟩:=h1 x q;rw[e];rfl
theorem EW:∀{xs:List (KD×QI×V)} {Rc:List (D×D)},PrD O K H xs Rc->(xs.find? fun x=>decide (x.1=k)).isSome=(Rc.find? fun kv=>QJ.eqv kv.1 k.1).isSome
 |_,_,.nil=>rfl
 |x::xs,kv::Rc,.cons h t=>by
  rw[RB,RB,uO h.1];cases QJ.eqv kv.1 k.1 with
  |true=>rfl
  |false=>exact EW t
theorem Lb (a:L3.DV O K H v d):∀{xs:List (KD×QI×V)} {Rc:List (D×D)},PrD O K H xs Rc->PrD O K H (xs.map fun x=>if x.1=k then(x.1,x.2.1,v) else x) (Rc.map fun kv=>if QJ.eqv kv.1 k.1=QG then(kv.1,d) else kv)
 |_,_,.nil=> .nil
 |x::xs,kv::Rc,.cons h t=>by
  rw[QY,QY];refine .cons ?_ (Lb a t);have e:=uO (k:=k) h.1;by_cases z:x.1=k
  ·rw[if_pos z,if_pos (by rw[<-e];exact decide_eq_true z)];exact⟨h.1,h.2.1,a⟩
  ·rw[if_neg z,if_neg (by rw[<-e,decide_eq_false z];simp)];exact h
theorem wM (r:x.1.1=kv.1/\L3.DV O K H (.ref x.2.1) kv.1/\L3.DV O K H x.2.2 kv.2):∀{xs:List (KD×QI×V)} {Rc:List (D×D)},PrD O K H xs Rc->PrD O K H (xs++[x]) (Rc++[kv])
 |_,_,.nil=> .cons r .nil
 |_,_,.cons g t=> .cons g (wM r t)
theorem xu (e:L3.DV O K H (.ref b) k.1) (a:L3.DV O K H v d) (h:PrD O K H xs Rc):PrD O K H (lG xs k b v) (iV Rc k.1 d):=by
 unfold lG iV;rw[EW h];split
 ·exact Lb a h
 ·exact wM ⟨rfl,e,a⟩ h
theorem Nm (e:Ev O H O' H') (h:PrD O K H xs Rc):PrD O' K H' xs Rc:=Paired.Vg h fun _ _ q=>⟨q.1,q.2.1.ev e,q.2.2.ev e⟩
noncomputable def yn (neg:Bool) (fk fd:dh):dh:=fun ρ Z=>(fk ρ Z).bind fun x Z1=>(fd ρ Z1).bind fun o Z2=>(RS.RO Z2 (jE x)).bind fun k Z2=>(RS.RO Z2 (ti Z2 o)).bind fun p Z2=> .ok (.fz (.bool ((gx p.2 k).isSome !=neg))) Z2
theorem wQ (l:cJ K E tk fk) (hd:cJ K E td fd):cJ K E (Li K neg tk td) (yn neg fk fd):=by intro B σ H α Z ρ Q s sl w;refine l B σ H α Z ρ _ s sl (w.bind.imp fun x α1 Z1 H1 q s1 w1 v h=> ?_);refine hd B σ H1 α1 Z1 ρ _ s1 (sl.TC q) (w1.bind.imp fun o α2 Z2 H2 p s2 e u j=> ?_);obtain⟨d,q1,e⟩:=WS.RO e;obtain⟨⟨i,Rc⟩,g,e⟩:=WS.RO e;obtain⟨_,a,xs,ha,rfl,n,f⟩:=Fo s2 j g;obtain⟨k,b,rfl,rfl,m⟩:=l7 q1 (h.TC p);refine⟨a,b,xs,k,rfl,rfl,n,Bl f,m.plain,?_⟩;rw[Af f];exact WS.now s2 e _ (.bl _)
noncomputable def qL (fd fk:dh):dh:=fun ρ Z=>(fd ρ Z).bind fun o Z1=>(fk ρ Z1).bind fun x Z2=>(RS.RO Z2 (jE x)).bind fun k Z2=>(RS.RO Z2 (ti Z2 o)).bind fun p Z2=>(RS.RO Z2 (gx p.2 k)).bind fun d Z2=> .ok (.fz d) Z2
theorem C9 (hd:cJ K E td fd) (p:cJ K E tk fk):cJ K E (Hh K td tk) (qL fd fk):=by intro B σ H α Z ρ Q s sl w;refine hd B σ H α Z ρ _ s sl (w.bind.imp fun o α1 Z1 H1 A s1 w1 u n=> ?_);refine p B σ H1 α1 Z1 ρ _ s1 (sl.TC A) (w1.bind.imp fun x α2 Z2 H2 t s2 e v m=> ?_);obtain⟨d,q1,e⟩:=WS.RO e;obtain⟨⟨i,Rc⟩,j,e⟩:=WS.RO e;obtain⟨_,a,xs,ha,rfl,r,f⟩:=Fo s2 (n.TC t) j;obtain⟨k,b,rfl,rfl,q⟩:=l7 q1 m;obtain⟨y,h,e⟩:=WS.RO e;obtain⟨z,l,g⟩:=(qD f).1 y h;exact⟨a,b,xs,k,z,rfl,rfl,r,Bl f,q.plain,l,WS.now s2 e z g⟩
noncomputable def sd (fd fk fv:dh):eS:=fun ρ Z=>(fv ρ Z).bind fun y Z1=>(fd ρ Z1).bind fun o Z2=>(fk ρ Z2).bind fun x Z3=>(RS.RO Z3 (jE x)).bind fun k Z3=>(RS.RO Z3 (ti Z3 o)).bind fun p Z3=>(RS.RO Z3 (N4 y)).bind fun d Z3=>if p.2.length<1000000 then .ok (.nx ρ) (Z3.set p.1 (.dd (iV p.2 k d))) else .bad
theorem Eh (e:N4 x=QB d) (h:Ur O K H α v x):L3.DV O K H v d:=by
 cases x with
 |fz z=>cases e;exact h
 |rf i=>cases e
 |tp l=>cases e
theorem uh (hd:cJ K E td fd) (M:cJ K E tk fk) (J:cJ K E tv fv):mX K E (D1 K td tk tv) (sd fd fk fv):=by
 intro B σ H α Z ρ D s sl w;refine J B σ H α Z ρ _ s sl (WS.imp (WS.bind w) fun y α1 Z1 H1 p s1 w1 q j=> ?_);refine hd B σ H1 α1 Z1 ρ _ s1 (sl.TC p) (WS.imp (WS.bind w1) fun o α2 Z2 H2 n s2 A u L=> ?_);refine M B σ H2 α2 Z2 ρ _ s2 (sl.TC (p.trans n)) (WS.imp (WS.bind A) fun x e Z3 g m r f z G=> ?_);obtain⟨kd,q1,f⟩:=WS.RO f;obtain⟨⟨i,Rc⟩,F,f⟩:=WS.RO f;obtain⟨d,C,f⟩:=WS.RO f;obtain⟨h,a,xs,ha,rfl,N,l⟩:=Fo r (L.TC m) F;obtain⟨k,b,rfl,rfl,t⟩:=l7 q1 G;have I:=Eh C (j.TC (n.trans m));dsimp only at f;by_cases hn:Rc.length<1000000
 ·rw[if_pos hn] at f;have ev:Ev (ow B e Z3) g (ow B e Z3) (bv g a (DkO a (lG xs k b q))):=n9 ha h (by intro z;cases z);have v:SR e Z3 g e (Z3.set i (.dd (iV Rc k.1 d))) (bv g a (DkO a (lG xs k b q))):=SR.put ha h (by intro z;cases z) (by intro z;cases z);have O:=Paired.length l;refine⟨a,b,xs,k,rfl,rfl,N,Bl l,t.plain,tP (by omega),?_⟩;exact f e _ v (r.put ha h (by intro z;cases z) (by intro z;cases z) ⟨_,aC,xu (t.ev ev) (I.ev ev) (Nm ev l)⟩) σ ((sl.TC (p.trans (n.trans m))).TC v)
 ·rw[if_neg hn] at f;exact f.elim
noncomputable def yX:dh:=fun _ Z=> .ok (.rf Z.length) (Z++[.dd []])
theorem CM:cJ K E GW yX:=by intro B σ H α Z ρ Q s sl w;exact fun p hp=>mv s hp w fun _=>⟨[],aC,.nil⟩
end
end L10
namespace PySem
open Sem (wp)
namespace F
end F
end PySem
namespace PySem
open Sem (wp)
open PyProof.Rows
end PySem
namespace L10
open PySem PySem.Spec PyProof.Rows L2 L3
end L10
namespace PySem
open Sem (wp)
open PyProof.Rows
end PySem
namespace L10
open PySem PySem.Spec PyProof.Rows L2 L3 LD
end L10
namespace L10
open PySem PyProof.Rows L2 L3 LD
end L10
namespace L10
open PySem PyProof.Rows L2 L3
end L10
namespace L3
open PySem PyProof.Rows L2
structure Yq (K:QC) (x qual:Str) (st:Tg) (f:QI) (fd:RQ) (T:QI) (RE:Array QD):Prop where
 ex:∃(oc:QD) (od:Option QI) (kV doc pm:QD) (an:Option QI) (Sl ct:QD) (Y0:Array (Option QD)),
  fd=So x qual (fC st) (b6 st) (ay st) (.ref T) kV doc pm an Sl ct/\K.lookup f=QB ⟨oc,od,.func fd,Y0⟩/\UZ K Sl qual=QG
 kp:SI K (.ref f)=QG
 tp:∃o n,K.lookup T=QB o/\o.data= .seq RE n
section
variable {P:Q7} {w:Rv} {K:QC} {mg:Str->Option QD} {base:Heap} {x qual:Str} {st:Tg} {f:QI} {fd:RQ} {T:QI} {RE:Array QD} {N ps:List Str} {k n m:Nat} {sp:Sp} {ds:List QD}
theorem Yq.binds (F:Yq K x qual st f fd T RE)
  (h:∀(kV doc pm:QD) (an:Option QI) (Sl ct:QD) (us:List QD),(us++ds).length=ps.length->∃k:Option (Array QD)->Sem (List (Str×QD)),bindArgs (So x qual (fC st) (b6 st) (ay st) (.ref T) kV doc pm an Sl ct) ⟨us,[]⟩=seqItems? (.ref T)>>=k/\k (QB RE)=pure (ps.zip (us++ds))):Binds K fd ps ds:=by
 obtain⟨oc,od,kV,doc,pm,an,Sl,ct,Y0,rfl,g,i⟩:=F.ex;obtain⟨o,n,h1,h2⟩:=F.tp;intro s us X a;obtain⟨k,e,b⟩:=h kV doc pm an Sl ct us a;exact Wr.of_defaults (fd:=So x qual (fC st) (b6 st) (ay st) (.ref T) kV doc pm an Sl ct) rfl (X _ _ h1) h2 e b
def pd (P:Q7) (w:Rv) (K:QC) (mg:Str->Option QD) (base:Heap) (CX:wA) (k:Nat) (x:Str) (ps:List Str) (dvs:List V) (sp:Sp):Prop:=
 ∃(f:QI) (fd:RQ) (ds:List QD),FnOk P w K mg base CX k f fd ps sp/\Binds K fd ps ds/\Vals dvs ds/\SI K (.ref f)=QG/\mg x=QB (.ref f)
theorem vk (C:pd X.prog X.w X.K X.mg X.base CX k x ps dvs sp) (h:S9 j X.A) (g:fE CX X E) (ha:PA X (e::es) t) (a:k<=j:=by decide) (i:Gl X x:=by rfl)
  (n:(x==("__debug__":Str))=QN:=by decide) (l:Q9 (e::es) X.env=(QN,eval e X.env)::Q9 es X.env:=by rfl) (o:(backTo pos (Q9 es X.env)).any (·.1)=QN:=by rfl):
  PE X (.Call (.Name x p) (e::es) [] pos) (jQ sp dvs E t):=by
 obtain⟨f,fd,ds,F,b,v,kp,m⟩:=C;exact A0 F (h.mono a) i m kp b v g ha n l o
end
end L3
namespace L10
open PySem PyProof.Rows L2 L3
section
variable {P:Q7} {w:Rv} {K:QC} {mg:Str->Option QD} {base:Heap} {x qual:Str} {st:Tg} {f:QI} {fd:RQ} {T:QI} {RE:Array QD} {N ps:List Str} {k n m:Nat} {g:eS} {FF:iU}
theorem Oi (F:Yq K x qual st f fd T RE) (S:Tz N ps (ay st)) (hn:ps.length=n) (hm:N.length=m) (l:FF=cY m g)
  (p:∀(Sl:QD) (A:Rp) (outer:List Env) (s:QL) (H:Hp) (E:XK),S9 k (A.deeper (Rb qual (ay st) s.heap.objs.size f Sl))->
   ∃t,Xg (eT (L4.i8 P w) P w K mg base N qual (ay st) f Sl A outer s H E) (b6 st) t/\mX K E t g):FnOk P w K mg base (L4.i8 P w) (k+1) f fd ps (dn K n FF):=by
 subst l hm;obtain⟨oc,od,kV,doc,pm,an,Sl,ct,Y0,rfl,b,o⟩:=F.ex;refine Fy b o S (fun vs H Q E h=>h.1.trans hn.symm) fun A outer s H vs Q E j a=> ?_;obtain⟨t,e,i⟩:=p Sl A outer s H E j;exact⟨t,e,zL (xs:=[]) i a⟩
end
section
variable {K:QC} {E:XK}
noncomputable def Ba (F:iU) (n:Nat) (es:List D) (fa:yy):dh:=fun ρ Z=>(fa ρ Z).bind fun xs Z1=>if(xs++es.map SV.fz).length=n then F (xs++es.map SV.fz) Z1 else .bad
theorem zv:∀{vs ws:List V} {xs ys:List SV},T5 O K H α vs xs->T5 O K H α ws ys->T5 O K H α (vs++ws) (xs++ys)
 |_,_,_,_,.nil,h=>h
 |_,_,_,_,.cons a t,h=> .cons a (zv t h)
theorem Dc (hd:∀O H,L3.SY O K H dvs es) (ha:wC K E ta fa):cJ K E (jQ (dn K n F) dvs E ta) (Ba F n es fa):=by
 intro B σ H α Z ρ Q s sl w;refine ha B σ H α Z ρ _ s sl (w.bind.imp fun xs α1 Z1 H1 e s1 w1 vs b=> ?_);by_cases hn:(xs++es.map SV.fz).length=n
 ·rw[if_pos hn] at w1;have a:=zv b (i9 (ow B α1 Z1) α1 (hd (ow B α1 Z1) H1));exact⟨a.length.trans hn,B,α1,Z1,_,s1,a,w1⟩
 ·rw[if_neg hn] at w1;exact w1.elim
end
end L10
namespace L4
open PySem PyProof.Rows L2 L3
def XX (h:Heap) (e:QI) (c:QD) (dx:Option QI) (a:QD) (T:QI) (v:QD):Prop:=
 ∃ob fs,h.get? e=QB ob/\ob.cls=c/\ob.dict=dx/\ob.data= .fields fs/\fs[0]? =QB a/\fs[1]? =QB (.ref T)/\T≠e/\∃oT ts,h.get? T=QB oT/\oT.data= .fields ts/\ts[3]? =QB v
section
variable {M:YC} {A:Rp} {E:QD->QL->Prop} {s:QL}
theorem qU
  (w:A.frames=QB (env::outer)) (l:s.heap.FunFrames base (env::outer)) (v:env.frame=QB L) (m:s.heap.get? e=QB ob) (f:ob.data= .fields fs) (j:1<fs.size) (y:fs[0]? =QB a0)
  (k:∀h' T,s.heap.objs.size<=T->XX h' e ob.cls ob.dict a0 T (rawInt L)->Lft (env::outer) e QF s.heap h'->Q () {s with heap:=h'}):
  wpAny M A (frameOf env>>=fun fr=>entryPlaceOf L nx>>=fun pl=>EntryCells.newEntry hv fr .none (rawInt L) .none pl>>=fun b=>setField (.ref e) 1 b) Q E s:=by
 have a:e∉(env::outer).filterMap (·.frame):=fun z=>by obtain⟨_,o,q,n⟩:=l.mem z;rw[m] at q;cases q;exact n fs f
 refine QE (adf w l v fun h1 S=> ?_);refine QE (acx fun pl P=> ?_);unfold EntryCells.newEntry newFields;refine QE (SS ?_ (P.sizeOk5 _ _ _ _ _));have q1:=(S.2.1 e a).trans m;generalize hN:({cls:= .type "traceback",dict:=QF,data:= .fields ([hv,.ref L,.none,rawInt L,.none]++(if pl.isEmpty then QP 6 QD.none else pl)).toArray}:Obj)=N;have p:N.data= .fields ([hv,.ref L,.none,rawInt L,.none]++(if pl.isEmpty then QP 6 QD.none else pl)).toArray:=by rw[<-hN]
 have B:=Obj.isFreed_of_fields p;have h:=Heap.get?_push_of_some N q1;refine Si h f j ?_;have i:=Se (Heap.lt_size q1);have r:=Obj.data_mapFields f (·.setIfInBounds 1 (QD.ref h1.objs.size));have g:=Heap.get?_update_self (Obj.mapFields (·.setIfInBounds 1 (QD.ref h1.objs.size))) h (Obj.isFreed_of_fields r)
 have t:=
  (Heap.get?_update_other (h1.push N) (Obj.mapFields (·.setIfInBounds 1 (QD.ref h1.objs.size))) i.symm).trans (Heap.get?_push_size h1 B)
 have U9:∀b o,b≠e->h1.get? b=QB o->((h1.push N).update e (Obj.mapFields (·.setIfInBounds 1 (QD.ref h1.objs.size)))).get? b=QB o:=fun b o ne q=>by rw[Heap.get?_update_other _ _ ne.symm];exact Heap.get?_push_of_some N q
 refine k _ h1.objs.size (by rw[S.1];exact QS _) ⟨_,_,g,Obj.cls_mapFields _ _,?_,r,?_,?_,i,_,_,t,p,?_⟩ ⟨fun b o q ne _ u=>U9 b o ne ((S.2.1 b u).trans q),fun b o q ne _=> ?_,fun b o q=> ?_⟩
 ·cases ob with
  |mk c d dt sl=>cases dt<;>rfl
 ·rw[Uz (by decide)];exact y
 ·simp[j]
 ·rfl
 ·obtain⟨sl,z⟩:=S.2.2 b o q;exact⟨sl,U9 b _ ne z⟩
 ·by_cases ne:b=e
  ·subst ne;exact⟨_,g⟩
  ·obtain⟨sl,z⟩:=S.2.2 b o q;exact⟨_,U9 b _ ne z⟩
theorem MP {base:Heap} {env:Env} {outer:List Env} {L e:QI} {c u:QD} {dx hd:Option QI} {Q:Unit->QL->Prop}
  (p:A.frames=QB (env::outer)) (m:s.heap.FunFrames base (env::outer)) (g:env.frame=QB L) (F:CF s.heap e c dx u hd)
  (k:∀h' T,s.heap.objs.size<=T->XX h' e c dx u T (rawInt L)->Lft (env::outer) e hd s.heap h'->Q () {s with heap:=h'}):wpAny M A (noteFrame (.ref e) env) Q E s:=by
 obtain⟨ob,fs,q,G,C,d,t,r⟩:=F;subst G C;cases hd with
 |none=>have r:fs[1]? =QB .none:=r;unfold noteFrame;simp only[g];refine QE (Ry q d r ?_);rw[if_neg (by decide)];exact qU p m g q d (Rh.mp r).1 t k
 |some T=>
  obtain⟨r,w,J,v,f,dT,j⟩:=r;unfold noteFrame;simp only[g];refine QE (Ry q d r ?_);rw[if_pos (show(QD.ref T !=QD.none)=QG from by simp)];refine QE (Ry f dT j ?_);rw[if_neg (show¬((QD.none==rawInt L)=QG) from by simp[rawInt])];refine QE (Si f dT (Rh.mp j).1 ?_);have a:∀b,b≠T->(s.heap.update T (Obj.mapFields (·.setIfInBounds 3 QD.none))).get? b=s.heap.get? b:=fun b ne=>Heap.get?_update_other _ _ ne.symm;have self:=Heap.get?_update_self (Obj.mapFields (·.setIfInBounds 3 QD.none)) f (Obj.isFreed_of_fields (Obj.data_mapFields dT _));have H:∀b o,s.heap.get? b=QB o->(∀vs,o.data≠ .fields vs)->b≠T:=fun b o z n y=>by rw[y,f] at z;cases z;exact n v dT
  refine qU p (m.of_keeps fun b o z n=>⟨o,(a b (H b o z n)).trans z,rfl⟩) g ((a e w.symm).trans q) d (Rh.mp r).1 t fun h' T' l I h=>k h' T' (by rw[Heap.size_after_update] at l;exact l) I ⟨fun b o z n1 i B=> ?_,fun b o z n1 i=> ?_,fun b o z=> ?_⟩
  ·exact h.keep b o ((a b fun y=>i (by rw[y])).trans z) n1 (by simp) B
  ·exact h.slot b o ((a b fun y=>i (by rw[y])).trans z) n1 (by simp)
  ·by_cases y:b=T
   ·subst y;exact h.here b _ self
   ·exact h.here b o ((a b y).trans z)
theorem CS {base:Heap} {env:Env} {outer:List Env} {L e T:QI} {c u v:QD} {dx:Option QI} {Q:Unit->QL->Prop}
  (I:A.frames=QB (env::outer)) (H:s.heap.FunFrames base (env::outer)) (p:env.frame=QB L) (F:XX s.heap e c dx u T v)
  (k:∀h' T',(T'=T\/s.heap.objs.size<=T')->CF h' e c dx u (QB T')->Lft (env::outer) e (QB T) s.heap h'->Q () {s with heap:=h'}):wpAny M A (leaving env (.ref e)) Q E s:=by
 obtain⟨ob,fs,q,G,C,d,t,r,j,N,w,g,dT,l⟩:=F;subst G C;have a:∀b,b≠T->(s.heap.update T (Obj.mapFields (·.setIfInBounds 3 QD.none))).get? b=s.heap.get? b:=fun b ne=>Heap.get?_update_other _ _ ne.symm;have self:=Heap.get?_update_self (Obj.mapFields (·.setIfInBounds 3 QD.none)) g (Obj.isFreed_of_fields (Obj.data_mapFields dT _));have i:=(Rh.mp l).1;unfold leaving noteFrame;simp only[p];refine QE (QE (Ry q d r ?_));rw[if_pos (show(QD.ref T !=QD.none)=QG from by simp)];refine QE (Ry g dT l ?_);by_cases hv:(v==rawInt L)=QG
 ·rw[if_pos hv]
  refine QQ ?_;unfold setFlight;refine QE (Ry q d r ?_);rw[if_pos (show(QD.ref T !=QD.none)=QG from by simp)];refine Si g dT i ?_;refine k _ T (.inl rfl) ⟨ob,fs,(a e j.symm).trans q,rfl,rfl,d,t,r,j,_,_,self,Obj.data_mapFields dT _,?_⟩ ⟨fun b o z n1 f _=> ?_,fun b o z n1 f=>⟨o.slots,?_⟩,fun b o z=> ?_⟩
  ·rw[SH i]
  ·exact(a b fun y=>f (by rw[y])).trans z
  ·exact(a b fun y=>f (by rw[y])).trans z
  ·by_cases y:b=T
   ·subst y;exact⟨_,self⟩
   ·exact⟨o,(a b y).trans z⟩
 ·rw[if_neg hv]
  refine QE (Si g dT i ?_);have J:∀b o,s.heap.get? b=QB o->(∀vs,o.data≠ .fields vs)->b≠T:=fun b o z n y=>by rw[y,g] at z;cases z;exact n w dT
  refine g8 I (H.of_keeps fun b o z n=>⟨o,(a b (J b o z n)).trans z,rfl⟩) p ((a e j.symm).trans q) d (Rh.mp r).1 t fun h' T' m K h=>k h' T' (.inr (by rw[Heap.size_after_update] at m;exact m)) K ⟨fun b o z n1 f B=> ?_,fun b o z n1 f=> ?_,fun b o z=> ?_⟩
  ·exact h.keep b o ((a b fun y=>f (by rw[y])).trans z) n1 (by simp) B
  ·exact h.slot b o ((a b fun y=>f (by rw[y])).trans z) n1 (by simp)
  ·by_cases y:b=T
   ·subst y;exact h.here b _ self
   ·exact h.here b o ((a b y).trans z)
theorem Gk {g:Env} {a:String} {e T:QI} {c l v:QD} {dx:Option QI} {Q:QD->QL->Prop} (F:XX s.heap e c dx l T v)
  (k:∀h' v',XX h' e c dx l T v'->(∀b o,b≠T->s.heap.get? b=QB o->h'.get? b=QB o)->(∃o,h'.get? T=QB o)->E (.ref e) {s with heap:=h'}):wpAny M A (acy a (.ref e) g:Sem QD) Q E s:=by
 obtain⟨ob,fs,q,t,p,d,u,r,j,y,w,i,dT,n⟩:=F;subst t p;have h:=(Rh.mp n).1;unfold acy;refine QE (Ry q d r ?_);rw[if_neg (show¬((QD.ref T==QD.none)=QG) from by simp)];unfold setFlight;refine QE (QE (Ry q d r ?_));rw[if_pos (show(QD.ref T !=QD.none)=QG from by simp)];refine Si i dT h (wpAny_throw ?_);have m:∀b,b≠T->(s.heap.update T (Obj.mapFields (·.setIfInBounds 3 (g.frame.elim QD.none fun f=>rawInt f)))).get? b=s.heap.get? b:=fun b ne=>Heap.get?_update_other _ _ ne.symm;have self:=Heap.get?_update_self (Obj.mapFields (·.setIfInBounds 3 (g.frame.elim QD.none fun f=>rawInt f))) i (Obj.isFreed_of_fields (Obj.data_mapFields dT _));exact k _ _ ⟨ob,fs,(m e j.symm).trans q,rfl,rfl,d,u,r,j,_,_,self,Obj.data_mapFields dT _,SH h⟩ (fun b o ne z=>(m b ne).trans z) ⟨_,self⟩
end
end L4
namespace L2
open PySem PySem.Spec PyProof.Rows
def Qf (Y:Cx) (E:XK):QD->QL->Prop:=fun x s1=>∃pins σ1 H1 e c dx a0 hd,x= .ref e/\Inv Y pins σ1 H1 s1/\L4.CF s1.heap e c dx a0 hd/\(Y.s₀.heap.get? e=QF\/e∈Y.ex)/\(∀T,hd=QB T->Y.s₀.heap.get? T=QF\/T∈Y.ex)/\H1 e=QF/\(∀T,hd=QB T->H1 T=QF)/\E c dx H1
end L2
namespace L4
open PySem PyProof.Rows L2 L3
theorem LW {P:Q7} {w:Rv} {K:QC} {mg:Str->Option QD} {base:Heap} {N:List Str} {qual:Str} {scope:Uc} {f:QI} {cd:QD} {A:Rp} {outer:List Env} {s0:QL} {H0:Hp} {E:XK}
  {pins:List (QI×Obj)} {σ:L2.St} {H:Hp} {s:QL} {e T:QI} {c t v:QD} {dx:Option QI} (I:L2.Inv (eT (i8 P w) P w K mg base N qual scope f cd A outer s0 H0 E) pins σ H s)
  (F:XX s.heap e c dx t T v) (r:s0.heap.get? e=QF) (p:s0.heap.get? T=QF) (ne:H e=QF) (l:H T=QF) (q:E c dx H):
  (eT (i8 P w) P w K mg base N qual scope f cd A outer s0 H0 E).xe (.ref e) s:=by
 have O:=I.ok.frames;have M:=I.stack;refine CS (L:=s0.heap.objs.size) O M rfl F fun h' T' g Q L=> ?_;have C:=L.Sa I.Sa ne (fun R z=>by cases z;exact l) I.WQ;have sz:=I.sz;have J:H T'=QF:=by
  rcases g with e|g
  ·rw[e];exact l
  ·exact I.Sa.fresh g
 have gT:s0.heap.get? T'=QF:=by
  rcases g with e|g
  ·rw[e];exact p
  ·exact Heap.get?_none_of_le (Rx sz g)
 have j:∀b o,s0.heap.get? b=QB o->b<s0.heap.objs.size:=fun b o z=>Heap.lt_size z;have a:∀b o,s0.heap.get? b=QB o->b≠e/\QB T≠QB b:=fun b o z=>⟨(fun y=>by rw[y,r] at z;cases z),(fun y=>by cases y;rw[p] at z;cases z)⟩;refine⟨e,c,dx,t,T',H,rfl,r,gT,Q,ne,J,I.os,I.bare,?_,C,q⟩;have B:=I.base;refine⟨fun b o z n m _=> ?_,fun b o z n G _=> ?_,fun b o z n _=> ?_,fun b o z _=> ?_,B.W6,B.WO,B.Xe⟩
 ·have h:=B.keep b o z n m (fun y=>nomatch y)
  refine L.keep b o h (a b o z).1 (a b o z).2 fun y=> ?_;rcases Rk.mp (I.Wz b y) with y|y
  ·have y:b=s0.heap.objs.size:=y;exact absurd (j b o z) (by rw[y];exact Sg _)
  ·exact m y
 ·obtain⟨sl,h⟩:=B.slot b o z n G (fun y=>nomatch y);obtain⟨i,u⟩:=L.slot b _ h (a b o z).1 (a b o z).2;exact⟨i,u⟩
 ·exact B.free b o z n (fun y=>nomatch y)
 ·obtain⟨o',h⟩:=B.there b o z (fun y=>nomatch y);exact L.here b o' h
def Ls (X:Cx) (E:XK):Prop:=∀(σ:L2.St) (H:Hp) (s:QL) (e T:QI) (c a v:QD) (dx:Option QI),L2.Inv X [] σ H s->XX s.heap e c dx a T v->X.s₀.heap.get? e=QF->X.s₀.heap.get? T=QF->H e=QF->H T=QF->E c dx H->X.xe (.ref e) s
theorem HJ {P:Q7} {w:Rv} {K:QC} {mg:Str->Option QD} {base:Heap} {N:List Str} {qual:Str} {scope:Uc} {f:QI} {cd:QD} {A:Rp} {outer:List Env} {s0:QL} {H0:Hp} {E:XK}:
  Ls (eT (i8 P w) P w K mg base N qual scope f cd A outer s0 H0 E) E:=fun σ H s e T c g v dx I F h1 h2 b a q=>LW I F h1 h2 b a q
theorem FJ {X:Cx} {s0:QL} {H0:Hp} {scope:Uc} {C:QI} {N:List Str} {fp:List QI} {E:XK}:
  fE (i8 X.prog X.w) ((cw X s0 H0 scope C N fp).VF (Qf (cw X s0 H0 scope C N fp) E)) E:=by
 rintro pins σ H s x s' I ⟨e,c,dx,g,T,H',rfl,le,lT,F,ne,nT,os,bare,un,Sa,q⟩;have h:=I.YV (ch:=[]) os un Sa bare (fun b z=>nomatch z);have a:∀b,s.heap.get? b=QF->s0.heap.get? b=QF\/b∈fp:=fun b z=>by
  by_cases hb:b∈fp
  ·exact .inr hb
  ·refine .inl ?_
   cases y:s0.heap.get? b with
   |none=>rfl
   |some o=>obtain⟨o',f⟩:=I.base.there b o y hb;rw[z] at f;cases f
 exact⟨pins,σ,H',e,c,dx,g,QB T,rfl,h.UP,F,a e le,(fun T' z=>by cases z;exact a T lT),ne,(fun T' z=>by cases z;exact nT),q⟩
theorem XX.at {h h':Heap} {e T:QI} {c a v:QD} {dx:Option QI} (F:XX h e c dx a T v) (k:∀b o,b=e\/b=T->h.get? b=QB o->h'.get? b=QB o):XX h' e c dx a T v:=by obtain⟨ob,fs,q,n,m,d,p,r,l,j,f,i,dT,g⟩:=F;exact⟨ob,fs,k _ _ (.inl rfl) q,n,m,d,p,r,l,j,f,k _ _ (.inr rfl) i,dT,g⟩
end L4
namespace L2
open PySem PySem.Spec PyProof.Rows
theorem Inv.aey {X:Cx} {pins:List (QI×Obj)} {σ:St} {H:Hp} {s:QL} (I:Inv X pins σ H s):Inv X [] σ H s:=
 ⟨I.ok,I.os,I.bare,I.base,I.loc,I.cell,I.free,I.Uw,fun p hp=>I.pin p (by rw[Rf] at hp;exact UQ _ hp),I.Sa,I.len⟩
theorem F9 {X:Cx} {elt tg iter:RN} {ifs:List RN} {scope:Uc} {pos:Pos} (own:List Str) (fv:List (Str×Nat)) {wi:TI} {g:TG} {tc:TT} {te:TE} {EK:XK} (dg:X.stack=X.env::X.outer/\X.env.frame=QB X.env.locals) (hex:X.ex=[]) (hpn:X.pn=[]) (PX:L4.Ls X EK) (hc:X.calm=QG) (hi:PI X tg iter wi)
  (hg:∀s H C fp,PG (cw X s H scope C (dY own fv) fp) tg g) (ht:∀s H C fp,CC (cw X s H scope C (dY own fv) fp) ifs tc) (he:∀s H C fp,PE ((cw X s H scope C (dY own fv) fp).VF (Qf (cw X s H scope C (dY own fv) fp) EK)) elt te) (hfv:Y1 X scope fv)
  (abh:(scope.names.all fun y=> !(y.2==Ro.free)||(X.env.scope.names.lookup y.1==QB Ro.cell)||(X.env.scope.names.lookup y.1==QB Ro.free))=QG)
  (UI:scope.kind= .function:=by rfl) (ZL:(scope.names.map (·.1)).Nodup:=by decide+kernel)
  (XQ:∀y∈scope.names,y.2= .local->scope.names.lookup y.1=QB .local:=by decide+kernel) (hs:∀x,foldedSetIterable iter X.env x=pure x:=by intro _;rfl):
  PE X (.ListComp elt [⟨tg,iter,ifs,0⟩] scope pos) (p5 own fv wi g tc te):=by
 intro pins s σ H Q I h;have YX:=Er abh;rw[ahS];refine VV (use:=QF) rfl hs (lM (kQ I.ok YX)) UI XQ (cG (hi pins s σ H _ I h) fun xv s1 h1=>cG h1 fun itv s2 h2=> ?_);obtain⟨it,fp,tn,J,H2,e,I2,T,st2,f2,R⟩:=h2;subst e;refine lH I2 hc UI ZL (kQ I.ok YX) hfv T st2 f2 (fun C=>hg _ _ C _) (fun C=>ht _ _ C _) (fun C=>he _ _ C _) ?_ (Fin:=fun D H'=>Q (.ref D) H') R ?_
 ·rintro D C x s3 hC ⟨aip,σ3,H3,e,c,dx,a0,hd,rfl,I3,F,fe,fT,ne,nT,q⟩
  have hsz:s2.heap.objs.size<=s3.heap.objs.size:=I3.sz;show wpAny (model X.prog X.w) X.A (noteFrame (.ref e) X.env) _ _ s3;refine L4.MP (env:=X.env) (outer:=X.outer) (base:=X.base) (L:=X.env.locals) (by rw[<-dg.1];exact I3.ok.frames) (by rw[<-dg.1];exact I3.stack) dg.2 F fun h' T' hT F' L=> ?_;rw[<-dg.1] at L;obtain⟨m,hm,_⟩:=I3.loc;have hm:s3.heap.Ns C m:=hm;have hn3:H3 C=QF:=I3.free;have fo:∀b,b=e\/hd=QB b->s2.heap.get? b=QF\/b∈fp:=fun b z=>by
   rcases z with z|z
   ·rw[z];exact fe
   ·exact fT b z
  have agy:∀b,b=e\/hd=QB b->∃o vs,s3.heap.get? b=QB o/\o.data= .fields vs:=fun b z=>by
   obtain⟨ob,fs,q1,_,_,d,_,r⟩:=F;rcases z with z|z
   ·rw[z];exact⟨ob,fs,q1,d⟩
   ·subst z;obtain⟨_,_,oT,ts,qT,dT,_⟩:=r;exact⟨oT,ts,qT,dT⟩
  have nC:¬(C=e\/hd=QB C):=fun z=>by obtain⟨o,vs,q1,d⟩:=agy C z;obtain⟨o',es,ep,q2,d2,_⟩:=hm;rw[q1] at q2;cases q2;rw[d] at d2;cases d2
  have nfr:C∉wB X.stack:=fun z=>by obtain⟨_,o,qo,_⟩:=I2.stack.mem z;exact absurd (Q6 (Heap.lt_size qo) hC) (Sg _)
  have IX:Inv X [] σ H3 s3:=(I2.YV (ch:=fp) I3.os I3.base I3.Sa I3.bare fun b hb=>⟨(f2 b hb).2.2.2.1,(f2 b hb).2.1,(f2 b hb).2.2.2.2.1,(f2 b hb).2.2.2.2.2⟩).aey;have n0:∀b,b=e\/hd=QB b->X.s₀.heap.get? b=QF:=fun b z=>by
   rcases fo b z with y|y
   ·cases z0:X.s₀.heap.get? b with
    |none=>rfl
    |some o=>obtain⟨o',z1⟩:=I2.base.there b o z0 (by rw[hex];exact fun y=>nomatch y);rw[y] at z1;cases z1
   ·rcases(f2 b y).2.2.2.1 with w|w
    ·rw[hex] at w;cases w
    ·exact Heap.get?_none_of_le w
  have Ia:Inv X [] σ H3 {s3 with heap:=h'}:=by
   refine L4.p7 IX (fun b=>b=e\/hd=QB b) hex (by rw[hpn];exact fun p hp=>nomatch hp) (fun b o z n nf=>L.keep b o z (fun y=>n (.inl y)) (fun y=>n (.inr y)) nf) (fun b o z n=>L.slot b o z (fun y=>n (.inl y)) (fun y=>n (.inr y))) L.here n0 (fun z=> ?_) (fun x cc z y=> ?_) (fun b z=> ?_)
   ·rcases fo _ z with y|y
    ·obtain⟨mm,hn,_⟩:=I2.loc;obtain⟨o,_,_,qo,_⟩:=hn;rw[y] at qo;cases qo
    ·exact(f2 _ y).2.1 rfl
   ·rcases fo _ y with w|w
    ·obtain⟨v,o,qo,_⟩:=I2.cell x cc z;rw[w] at qo;cases qo
    ·exact(f2 _ w).2.2.2.2.1 x cc z rfl
   ·rcases z with z|z
    ·rw[z];exact ne
    ·exact nT b z
  have nT3:H3 T'=QF:=I3.Sa.fresh hT;refine⟨m,hm.at' fun o z=>L.keep C o z (fun y=>nC (.inl y)) (fun y=>nC (.inr y)) nfr,fun h4 sb ZG _=> ?_⟩;have CT:C<s3.heap.objs.size:=hm.lt;have F4:L4.XX h4 e c dx a0 T' (rawInt X.env.locals):=F'.at fun b o z y=>by
   refine(sb.2 b fun w=> ?_).trans y;rcases z with z|z
   ·exact nC (.inl (w.symm.trans z))
   ·have this:T'=C:=z.symm.trans w;rw[this] at hT;exact absurd (Q6 CT hT) (Sg _)
  refine L4.Gk F4 fun h5 v' F5 k5 t5=> ?_;obtain⟨f0,f1,_,f3,f4,f5⟩:=I2.Yn (H':=H3) hC hn3;have Ib:Inv X [] σ H3 {s3 with heap:=h4}:=Ia.turned (t':=s3.toks) (fun b o hb z=>(sb.2 b hb).trans z) f0 f1 f3 f4 (by rw[hpn];exact fun p hp=>nomatch hp);obtain⟨g0,g1,_,g3,g4,g5⟩:=I2.Yn (H':=H3) (Rx hsz hT) nT3;have Ic:Inv X [] σ H3 {s3 with heap:=h5}:=Ib.turned (t':=s3.toks) (fun b o hb z=>k5 b o hb z) g0 g1 g3 g4 (by rw[hpn];exact fun p hp=>nomatch hp);refine PX σ H3 _ e T' c a0 v' dx Ic F5 (n0 e (.inl rfl)) ?_ ne nT3 q;rcases g3 with w|w
  ·rw[hex] at w;cases w
  ·exact Heap.get?_none_of_le w
 ·intro D C H' s' I' fin hm hC hn;obtain⟨m,hm⟩:=hm;refine⟨m,hm,fun h' hs'=>⟨.ref D,H',?_,rfl,fin⟩⟩;obtain⟨f0,f1,_,f3,f4,f5⟩:=I2.Yn hC hn;exact I'.turned (t':=s'.toks) (fun b o hb q=>(hs'.2 b hb).trans q) f0 f1 f3 f4 f5
end L2
namespace L10
open PySem PyProof.Rows L2 L3
section
variable {B O O':ce} {K:QC} {E:XK} {H H' H1 H2:Hp} {α α' α1 α2:List QI} {Z Z' Z1 Z2:aX} {σ:L2.St} {ρ:bu} {v:V}
theorem Mo {g:TG} {gt:yU} (h:Ho K E0 g gt):Ho K E g (fun x ρ Z=>fF (gt x ρ Z)):=fun B σ H α Z ρ v x Q s sl r w=>h B σ H α Z ρ v x Q s sl r (WS.e0 w)
theorem NP {t:TT} {ft:sU} (h:tU K E0 t ft):tU K E t (fun ρ Z=>fF (ft ρ Z)):=fun B σ H α Z ρ Q s sl w=>h B σ H α Z ρ Q s sl (WS.e0 w)
noncomputable def sH (n:Nat) (a:List Nat) (b:KO) (gt:yU) (ft:sU) (fe:dh):dh:=fun ρ Z=>(b ρ Z).bind fun ds Z1=>(cL (fun x ρ Z=>fF (gt x ρ Z)) (fun ρ Z=>fF (ft ρ Z)) fe ds (gz n a ρ) Z1 []).bind fun xs Z2=> .ok (.rf Z2.length) (Z2++[.lst xs])
theorem Cy {own:List Str} {fv:List (Str×Nat)} {a:TI} {g:TG} {tc:TT} {te:TE} {e:KO} {gt:yU} {ft:sU} {fe:dh} {n:Nat} {b:List Nat} (hn:own.length=n) (i:fv.map (·.2)=b)
  (hi:Ob K E a e) (h:Ho K E0 g gt) (f:tU K E0 tc ft) (j:cJ K E te fe):cJ K E (p5 own fv a g tc te) (sH n b e gt ft fe):=by
 intro B σ H α Z ρ Q s sl w;refine hi B σ H α Z ρ _ s sl (WS.imp (WS.bind w) fun ds α1 Z1 H1 l s1 w1 J it=> ?_);exact rp hn i (Mo h) (NP f) j s1 (sl.TC l) it w1
end
end L10
namespace L3
open PySem L2
section
variable {P:Q7} {w:Rv} {K:QC} {mg:Str->Option QD} {base h:Heap} {f C:QI} {n m q:Str} {t:Tg} {ps fs:List Str} {lv k:Nat} {sp sp':Sp} {CX:wA}
theorem MI.aew (i:MI K C f m q t) (c:CI K C n fs) (b:BA m q t ps) (ok:∀fd,Up K m q t f fd->FnOk P w K mg base CX lv f fd ps sp):L10.bX P w K mg base CX lv n m ps sp:=
 let⟨fd,z⟩:=i.F;⟨C,f,fd,c.a,c.cls,⟨i.a,i.i,z.kp⟩,ok fd z,z.binds b⟩
theorem MI.agm (i:MI K C f "__init__" q t) (c:CI K C n fs) (X:K.In h) (G:h.Ns QW mg) (b:BA "__init__" q t ps) (ok:∀fd,Up K "__init__" q t f fd->FnOk P w K mg base CX lv f fd ps sp):L10.ym P w K mg base CX lv n ps sp:=
 let⟨fd,z⟩:=i.F;⟨C,f,fd,c.a,Sf X G c.a,⟨c.mm,i.a,i.i,c.kc⟩,ok fd z,z.binds b⟩
end
end L3
namespace L10
open PySem PySem.Spec PyProof.Rows L2 L3
section
variable {B O O':ce} {K:QC} {E:XK} {H H' H1 H2:Hp} {α α' α1 α2:List QI} {Z Z' Z1 Z2:aX} {σ:L2.St} {ρ:bu} {v:V}
noncomputable def pQ (c f:Str) (fe:dh):eS:=fun ρ Z=>(fe ρ Z).bind fun x Z1=>match x with
 | .fz d=>if L9.OQ d=QG then .er ⟨c,[(f,d)]⟩ Z1 else .bad
 |_=> .bad
theorem zx (A:QZ K QW c=QB (QB (.ref C))) (u:cJ K E te fe):mX K E (L9.AY C (L9.wj C f) E (iq te mO)) (pQ c f fe):=by
 intro B σ H α Z ρ D s sl w;refine u B σ H α Z ρ _ s sl (WS.imp (WS.bind w) fun x α1 Z1 H1 I s1 w1 v g=> ?_)
 match x,g,w1 with
 | .fz d,g,w1=>
  have g:=g;dsimp only at w1;by_cases hy:L9.OQ d=QG
  ·rw[if_pos hy] at w1
   have h:L9.Po v/\∀(O':ce) (H':Hp),L3.DV O' K H' v d:=by
    cases d with
    |none=>cases g;exact⟨.inl rfl,fun _ _=> .Te⟩
    |int i=>cases g;exact⟨.inr ⟨i,rfl,of_decide_eq_true hy⟩,fun _ _=> .int i⟩
    |_=>cases hy
   refine⟨by show 1<=QU;decide,fun e hn=>⟨e,v,rfl,h.1,aC,fun p hp a=>⟨rfl,p,?_,?_⟩⟩⟩
   ·rw[aA (Ne.symm a),aC]
   ·have n:H1 p=QF:=by rw[aA a] at hp;exact hp
    have r:SD H1 (L9.N8 (bv (bv (bv H1 e (.ext (L9.Jy C e))) e (.ext (L9.Op C e p))) p (.xd [(f,v)])) e):=fun b o z=>by
     have n1:b≠e:=fun y=>by rw[y,hn] at z;cases z
     have t:b≠p:=fun y=>by rw[y,n] at z;cases z
     rw[L9.ja n1,aA t,aA n1,aA n1];exact z
    refine w1 (.ref C) (QB p) α1 _ (SR.same r) (s1.grow r) ⟨⟨C,rfl,A⟩,[(f,v)],fun G q=> ?_,fun j F l=>⟨(fun z=>nomatch z),?_⟩⟩
    ·cases q;rw[L9.ja a,aC]
    ·have m:(match j==f with|true=>QB d|false=>TB j [])=QB F:=l
     cases hb:j==f with
     |true=>rw[hb] at m;cases m;refine⟨v,?_,h.2 _ _⟩;show(match j==f with|true=>QB v|false=>TB j [])=QB v;rw[hb]
     |false=>rw[hb] at m;cases m
  ·rw[if_neg hy] at w1;exact w1.elim
 | .rf _,_,w1=>exact w1.elim
 | .tp _,_,w1=>exact w1.elim
end
end L10
namespace L10
open PySem L2 L3
section
variable {P:Q7} {w:Rv} {K:QC} {mg:Str->Option QD} {base:Heap} {x qual:Str} {st:Tg} {f:QI} {fd:RQ} {T:QI} {RE:Array QD} {N ps:List Str} {k n m:Nat} {g:eS} {FF:iU}
theorem DT (F:Up K x qual st f fd) (S:Tz N ps (ay st)) (hn:ps.length=n) (hm:N.length=m) (b:FF=cY m g)
  (e:∀(Sl:QD) (A:Rp) (outer:List Env) (s:QL) (H:Hp) (E:XK),N.Nodup->S9 k (A.deeper (Rb qual (ay st) s.heap.objs.size f Sl))->(A.deeper (Rb qual (ay st) s.heap.objs.size f Sl)).units+64<cLine->(A.deeper (Rb qual (ay st) s.heap.objs.size f Sl)).units+1<cLine->(A.deeper (Rb qual (ay st) s.heap.objs.size f Sl)).units+65<cLine->
   ∃t,Xg (eT (L4.i8 P w) P w K mg base N qual (ay st) f Sl A outer s H E) (b6 st) t/\mX K E t g):FnOk P w K mg base (L4.i8 P w) (k+1) f fd ps (dn K n FF):=
 PF F S hn hm b fun Sl A outer s H E a=>e Sl A outer s H E S.nd a a.units (BT a) (Bc a)
theorem MC (F:Yq K x qual st f fd T RE) (S:Tz N ps (ay st)) (hn:ps.length=n) (hm:N.length=m) (b:FF=cY m g)
  (e:∀(Sl:QD) (A:Rp) (outer:List Env) (s:QL) (H:Hp) (E:XK),N.Nodup->S9 k (A.deeper (Rb qual (ay st) s.heap.objs.size f Sl))->(A.deeper (Rb qual (ay st) s.heap.objs.size f Sl)).units+64<cLine->(A.deeper (Rb qual (ay st) s.heap.objs.size f Sl)).units+1<cLine->(A.deeper (Rb qual (ay st) s.heap.objs.size f Sl)).units+65<cLine->
   ∃t,Xg (eT (L4.i8 P w) P w K mg base N qual (ay st) f Sl A outer s H E) (b6 st) t/\mX K E t g):FnOk P w K mg base (L4.i8 P w) (k+1) f fd ps (dn K n FF):=
 Oi F S hn hm b fun Sl A outer s H E a=>e Sl A outer s H E S.nd a a.units (BT a) (Bc a)
end
end L10
namespace LD
open PySem PySem.Spec PyProof.Rows L2
def Ow (K:QC) (tk tv:TE):TE:=fun σ H Q=>∀p,H p=QF->tk σ (bv H p (DkO p [])) fun y H1=>tv σ H1 fun v H2=>∃b k,y= .ref b/\H2 p=QB (DkO p [])/\L2.DV K H2 (.ref b) k.1/\Q (.ref p) (bv H2 p (DkO p (lG [] k b v)))
theorem acR (F:X.A.units+64<cLine) (t:PE X k tk) (p:PE X v tv):PE X (.Dict [QB k] [v] pos) (Ow X.K tk tv):=by
 intro pins s σ H Q I q;have hn:=I.Sa.fresh (QS s.heap.objs.size);have B:=I.laid (t':=s.toks) (fun _ _ q=>Heap.get?_push_of_some _ q) (QS _) (vL (RF _) (beq_eq_false_iff_ne.mpr (Ne.symm (Ra I.big))) .nil (Heap.DictOfH.new s.heap));refine wpAny_Dict_any rfl rfl (List.cons_ne_nil _ _) (show 1<=15 by decide) (pairTrees_cons_walk (cG (t pins _ σ _ _ B (q _ hn)) fun u s1 ⟨x,H1,i,m,q1⟩=>cG (p pins s1 σ H1 _ i q1) fun C s2 ⟨y,H2,g,l,b,j,ex,e,o,n⟩=>pairTrees_nil_walk ?_));subst ex;obtain rfl:=m;obtain⟨z,hd,ys,rel,dd⟩:=AD g e (fun _ h=>nomatch h);have E:ys.length<=QU:=by rw[<-Paired.length rel];exact z
 have f:(lG [] j b y).length<=QU:=by have:=on [] j b y;rw[Tn];simp only[SM] at this;omega
 unfold storeAll;simp only[UW,Wh];refine QE (QE (wpAny_dictSet_heap (show X.A.units+8<cLine by omega) (rq g o) dd fun h' a r=>QQ (QQ ?_)));have w:∃q,h'.get? s.heap.objs.size=QB q:=let⟨q,_,_,hq,_⟩:=a;⟨q,hq⟩
 exact⟨.ref s.heap.objs.size,_,mV g (by rw[e];exact True.intro) r w (vL f hd (DN l rel) a),rfl,n⟩
end LD
namespace L10
open PySem PyProof.Rows L2 L3 LD
section
variable {B O O':ce} {K:QC} {E:XK} {H H' H1 H2:Hp} {α α' α1 α2:List QI} {Z Z' Z1 Z2:aX} {σ:L2.St} {ρ:bu} {v:V}
noncomputable def Ga (fk fv:dh):dh:=fun ρ Z=>(fF (fk ρ Z)).bind fun x Z1=>(fF (fv ρ Z1)).bind fun y Z2=>match jE x,N4 y with
 |some k,QB d=> .ok (.rf Z2.length) (Z2++[.dd (iV [] k d)])
 |_,_=> .bad
theorem Jo (S:cJ K E tk fk) (R:cJ K E tv fv):cJ K E (Ow K tk tv) (Ga fk fv):=by
 intro B σ H α Z ρ Q s sl w p hp;have T:=fun z=>s.bn p z hp;have s1:Rq (b5 B p) K (bv H p (DkO p [])) α Z:=s.hide hp;have f:Ud (ow (b5 B p) α Z) K (bv H p (DkO p [])) α σ ρ:=by
  have ev:Ev (ow B α Z) H (ow (b5 B p) α Z) (bv H p (DkO p [])):=fun b o h n=>by
   have l:b≠p:=fun z=>by rw[z,hp] at h;cases h
   refine⟨by rw[aA l];exact h,fun z=> ?_⟩;rcases z with(z|z)|z
   ·exact n (.inl z)
   ·exact l z
   ·exact n (.inr z)
  exact⟨sl.1,fun j x P=>let⟨v,h1,h2⟩:=sl.2 j x P;⟨v,h1,h2.ev ev fun _ _ h=>h⟩⟩
 unfold Ga at w;refine S (b5 B p) σ _ α Z ρ _ s1 f ?_;cases qk:fk ρ Z with
 |er x Zf=>rw[qk] at w;exact w.elim
 |bad=>rw[qk] at w;exact w.elim
 |ok x Zk=>
  rw[qk] at w;intro m U C M X A;refine R (b5 B p) σ U m Zk ρ _ M (f.TC C) ?_;have w:WS K E B H α Z (PQ B K Q) ((fF (fv ρ Zk)).bind fun y Z2=>match jE x,N4 y with|some k,QB d=> .ok (.rf Z2.length) (Z2++[.dd (iV [] k d)])|_,_=> .bad):=w;cases qv:fv ρ Zk with
  |er x Zf=>rw[qv] at w;exact w.elim
  |bad=>rw[qv] at w;exact w.elim
  |ok y Zf=>
   rw[qv] at w;intro e I F r J u;have w:WS K E B H α Z (PQ B K Q) (match jE x,N4 y with|some k,QB d=> .ok (.rf Zf.length) (Zf++[.dd (iV [] k d)])|_,_=> .bad):=w;cases q1:jE x with
   |none=>rw[q1] at w;exact w.elim
   |some kd=>
    cases q3:N4 y with
    |none=>rw[q1,q3] at w;exact w.elim
    |some d=>rw[q1,q3] at w;obtain⟨k,b,rfl,rfl,l⟩:=l7 q1 (A.TC F);have O:=Eh q3 u;have g:=(C.trans F).kp p _ aC fun⟨i,c,q,_⟩=>s1.ba p (.inr rfl) i q;refine⟨b,k,rfl,g,l.plain,?_⟩;have L:Ev (ow (b5 B p) e Zf) I (ow (b5 B p) e Zf) (bv I p (DkO p (lG [] k b J))):=Ev.mut (.inl (.inr rfl)) _;have t:=xu (l.ev L) (O.ev L) .nil;have N:=(r.aej g).ac8 (c:= .dd (iV [] k.1 d)) (by intro z;cases z) (by rw[aC];simp) ⟨_,aC,t⟩ T;have G:SR α Z H e Zf (bv I p (DkO p (lG [] k b J))):=((SR.same (bM hp _)).trans (C.trans F)).dd hp;exact w (e++[p]) _ ⟨fun i a h=>d6 (G.pre i a h),G.kp,fun b z=>(qN r.len z).elim (G.lv b) fun z=> .inr (by rw[z];exact hp)⟩ N (.ref p) ⟨p,by rw[<-r.len];exact bh,rfl⟩
end
end L10
namespace L3
open PySem L2
theorem E1 {X:Cx} {P:Q7} {w:Rv}:fE (L4.i8 P w) X E0:=fun _ _ _ _ _ _ _ ⟨_,_,_,_,_,_,_,_,_,_,_,_,_,_,_,_,h⟩=>h.elim
end L3
namespace L10
open PySem PyProof.Rows L2 L3
section
variable {B O O':ce} {K:QC} {E:XK} {H H' H1 H2:Hp} {α α' α1 α2:List QI} {Z Z' Z1 Z2:aX} {σ:L2.St} {ρ:bu} {v:V}
noncomputable def rH (F:iU) (n:Nat) (es:List D) (fa:yy):dh:=fun ρ Z=>(fa ρ Z).bind fun xs Z1=>if(xs++es.map SV.fz).length=n then fF (F (xs++es.map SV.fz) Z1) else .bad
theorem re (hd:∀O H,L3.SY O K H dvs es) (ha:wC K E ta fa):cJ K E (jQ (dn K n F) dvs E0 ta) (rH F n es fa):=by
 intro B σ H α Z ρ Q s sl w;refine ha B σ H α Z ρ _ s sl (w.bind.imp fun xs α1 Z1 H1 e s1 w1 vs b=> ?_);by_cases hn:(xs++es.map SV.fz).length=n
 ·rw[if_pos hn] at w1;have a:=zv b (i9 (ow B α1 Z1) α1 (hd (ow B α1 Z1) H1));exact⟨a.length.trans hn,B,α1,Z1,_,s1,a,WS.e0 w1⟩
 ·rw[if_neg hn] at w1;exact w1.elim
theorem BH:∀{vs:List V} {xs:List β} {x:β},Paired R vs xs->xs.getLast? =QB x->∃y,vs.getLast? =QB y/\R y x
 |_,_,_,.nil,h=>by cases h
 |[v],[z],x,.cons r .nil,h=>by cases h;exact⟨v,rfl,r⟩
 |v::v2::vs,z::z2::xs,x,.cons r (.cons r2 t),h=>by rw[YO] at h;obtain⟨y,h1,h2⟩:=BH (Paired.cons r2 t) h;exact⟨y,by rw[YO];exact h1,h2⟩
theorem oH:∀{vs:List V} {xs:List β},Paired R vs xs->Paired R vs.dropLast xs.dropLast
 |_,_,.nil=> .nil
 |[v],[z],.cons r .nil=> .nil
 |v::v2::vs,z::z2::xs,.cons r (.cons r2 t)=> .cons r (oH (Paired.cons r2 t))
noncomputable def Bs (fo:dh):dh:=fun ρ Z=>(fo ρ Z).bind fun o Z1=>(RS.RO Z1 (fq Z1 o)).bind fun p Z1=>(RS.RO Z1 p.2.getLast?).bind fun x Z1=> .ok x (Z1.set p.1 (.lst p.2.dropLast))
theorem D5 (p:cJ K E to fo):cJ K E (Mg K "list" OB to) (Bs fo):=by intro B σ H α Z ρ Q s sl w;refine p B σ H α Z ρ _ s sl (w.bind.imp fun o α1 Z1 H1 t s1 w1 v n=> ?_);obtain⟨⟨i,xs⟩,q,w1⟩:=WS.RO w1;obtain⟨x,l,w1⟩:=WS.RO w1;obtain⟨b,a,vs,ha,rfl,f,e⟩:=uS s1 n q;obtain⟨y,m,j⟩:=BH e l;refine⟨.inl ⟨rfl,vs,VD.of f⟩,a,vs,y,rfl,rfl,f,by rw[<-List.getLast?_eq_getElem?];exact m,?_⟩;have ev:Ev (ow B α1 Z1) H1 (ow B α1 Z1) (bv H1 a (.lst vs.dropLast)):=n9 ha b (by intro z;cases z);have g:SR α1 Z1 H1 α1 (Z1.set i (.lst xs.dropLast)) (bv H1 a (.lst vs.dropLast)):=SR.put ha b (by intro z;cases z) (by intro z;cases z);exact w1 α1 _ g (s1.put ha b (by intro z;cases z) (by intro z;cases z) ⟨_,aC,Paired.Vg (oH e) fun _ _ r=>r.ev ev fun _ _ h=>h⟩) _ (j.TC g)
theorem Ig (h:fo ρ Z= .ok (.rf i) Z1) (b:Z1[i]? =QB (.lst xs)) (a:xs.getLast? =QB x):Bs fo ρ Z= .ok x (Z1.set i (.lst xs.dropLast)):=by
 have e:fq Z1 (.rf i)=QB (i,xs):=by unfold fq;dsimp only;rw[b]
 unfold Bs;rw[h,RS.bind_ok,e];show(RS.RO Z1 xs.getLast?).bind _=_;rw[a];rfl
end
section
variable {B O O':ce} {K:QC} {E:XK} {H H' H1 H2:Hp} {α α' α1 α2:List QI} {Z Z' Z1 Z2:aX} {σ:L2.St} {ρ:bu} {v:V}
noncomputable def wZ (Z:aX) (ρ:bu) (j:Nat):Option (Nat×List D):=match ρ[j]? with
 |some (QB (.rf c))=>(match sh Z (.rf c) with
  |some (.list ds)=>QB (c,ds)
  |_=>QF)
 |_=>QF
noncomputable def qZ (j:Nat) (f:FE):dh:=fun ρ Z=>match wZ Z ρ j with
 |some (c,ds)=>(match f ((bF ρ).set j (QB (.ow ds))) with
  | .ok (.fz d,ρ')=>(match ρ'[j]? with
   |some (QB (.ow es))=> .ok (.fz d) (Z.set c (.lst (es.map .fz)))
   |_=> .bad)
  |_=> .bad)
 |none=> .bad
theorem CG (h:EO K E t f):cJ K E t (qZ j f):=by
 intro B σ H α Z ρ Q s sl w;unfold qZ at w;cases ql:wZ Z ρ j with
 |none=>rw[ql] at w;exact w.elim
 |some p=>
  obtain⟨c,ds⟩:=p;rw[ql] at w;dsimp only at w;obtain⟨G,I⟩:ρ[j]? =QB (QB (.rf c))/\sh Z (.rf c)=QB (.list ds):=by
   unfold wZ at ql;split at ql
   ·rename_i c' e1
    split at ql
    ·rename_i ds' e2;cases ql;exact⟨e1,e2⟩
    ·cases ql
   ·cases ql
  obtain⟨a,vs,ha,hH,hd,agr⟩:=jr s I;obtain⟨xs,hc,_⟩:=pP I;obtain⟨v0,F,T⟩:=sl.2 j _ G;obtain⟨l,J,rfl⟩:=T;obtain rfl:l=a:=by rw[ha] at J;exact(QX J).symm
  have m:(Cell.lst xs)≠ .dead:=by intro z;cases z
  have U:Lv α Z l:=⟨c,_,ha,hc,m⟩;have ka:=s.abg ha;have acB:∀b,ow B α Z b->ow B α (Z.set c .dead) b\/b=l:=by
   rintro b (z|⟨i,d,h1,h2,h3⟩)
   ·exact .inl (.inl z)
   ·by_cases e:i=c
    ·subst e;rw[ha] at h1;exact .inr (QX h1).symm
    ·exact .inl (.inr ⟨i,d,h1,by rw[RA (fun z=>e z.symm)];exact h2,h3⟩)
  have L:∀b,b≠l->(fun b=>if b=l then QF else H b:Hp) b=H b:=fun b g=>if_neg g;have X:=(QK.mp G).1;have R:Rl K (ow B α (Z.set c .dead)) (fun b=>if b=l then QF else H b) (ow B α Z) σ H ((bF ρ).set j (QB (.ow ds))):=by
   refine⟨fun b o g=> ?_,fun b z=>z.imp id vH,fun b z=> ?_,s.Y2,by rw[R8];unfold bF;rw[QH];exact sl.1,fun i x N=> ?_,fun i k es fs u h1 h2 g1 g2=> ?_⟩
   ·by_cases e:b=l
    ·have g:=g;rw[if_pos e] at g;cases g
    ·exact(L b e).symm.trans g
   ·have e:b≠l:=fun y=>ka (by rw[<-y];exact z);rw[if_neg e];exact s.owd b (z.imp id vH)
   ·by_cases e:i=j
    ·subst e;rw[Sh (by unfold bF;rw[QH];exact X)] at N;cases QX (QX N);exact⟨_,F,l,vs,rfl,agr,if_pos rfl,hH,hd⟩
    ·rw[RA (fun z=>e z.symm)] at N;obtain⟨d,rfl,Y⟩:=kL N;obtain⟨v,h1,h2⟩:=sl.2 i _ Y;exact⟨v,h1,h2⟩
   ·have C:∀(i:Nat) (es:List D),((bF ρ).set j (QB (.ow ds)))[i]? =QB (QB (PV.ow es))->i=j:=fun i es h=>by
     by_cases e:i=j
     ·exact e
     ·rw[RA (fun z=>e z.symm)] at h;obtain⟨d,e,_⟩:=kL h;cases e
    rw[C i es h1,C k fs h2]
  refine h _ _ _ σ H _ Q R ?_;cases q:f ((bF ρ).set j (QB (.ow ds))) with
  |bad=>rw[q] at w;exact w.elim
  |er x=>rw[q] at w;exact w.elim
  |ok r=>
   obtain⟨pv,ρ'⟩:=r;rw[q] at w;cases pv with
   |ow _=>exact w.elim
   |pl _=>exact w.elim
   |fz d=>
    dsimp only at w;cases q2:ρ'[j]? with
    |none=>rw[q2] at w;exact w.elim
    |some o=>
     rw[q2] at w;cases o with
     |none=>exact w.elim
     |some y=>
      cases y with
      |fz _=>exact w.elim
      |pl _=>exact w.elim
      |ow es=>
       intro O' v H' e R' p;obtain⟨u,hu,O,P,rfl,g1,g2,g3,g4⟩:=R'.slot j _ q2;obtain rfl:O=l:=by rw[F] at hu;cases hu;rfl
       have A:(Cell.lst (es.map SV.fz))≠ .dead:=by intro z;cases z
       have kp:∀b o,b≠O->H b=QB o->H' b=QB o:=fun b o g h=>R'.same b o (by rw[<-h];exact L b g);have TC:SR α Z H α (Z.set c (.lst (es.map .fz))) H':=⟨fun _ _ h=>h,fun b o g n=>kp b o (fun y=>n (by rw[y];exact U)) g,fun b z=> .inl ((uJ hc m A).mp z)⟩;have sub:∀b,ow B α (Z.set c (.lst (es.map .fz))) b->O' b:=fun b z=>by
        rw[DJ hc m A] at z;rcases acB b z with z|z
        ·exact R'.bo b z
        ·rw[z];exact g1
       have M:∀b,H b≠QF->H' b≠QF:=fun b g z=>by
        by_cases y:b=O
        ·rw[y,g3] at z;cases z
        ·cases k:H b with
         |none=>exact g k
         |some o=>rw[kp b o y k] at z;cases z
       have S:Rq B K H' α (Z.set c (.lst (es.map .fz))):=by
        refine⟨by rw[R8];exact s.len,s.nd,fun b h=>M b (s.bn b h),s.ba,fun i b h=>M b (s.al i b h),fun i b d' h1 h2=> ?_⟩;rcases b8 h2 with⟨rfl,rfl⟩|⟨WW,h2⟩
        ·rw[ha] at h1;cases h1;exact⟨P,g3,i9 _ _ (g4.ev (Ev.sub sub))⟩
        ·exact(s.X3 i b d' h1 h2).ev TC.ev TC.pre fun o q=>kp b o (fun y=>WW (s.nd i c O (by rw[<-y];exact h1) ha)) q
       exact w α H' TC S v (DV.ev (Ev.sub sub) p)
theorem G2 (h1:ρ[j]? =QB (QB (.rf c))) (h2:Z[c]? =QB (.lst (ds.map .fz))) (b:f ((bF ρ).set j (QB (.ow ds)))= .ok (.fz d,ρ')) (a:ρ'[j]? =QB (QB (.ow es))):qZ j f ρ Z= .ok (.fz d) (Z.set c (.lst (es.map .fz))):=by
 have e:wZ Z ρ j=QB (c,ds):=by unfold wZ;rw[h1];dsimp only;rw[cS h2]
 unfold qZ;rw[e];dsimp only;rw[b];dsimp only;rw[a]
end
end L10
namespace L4
open PySem PySem.Spec PySem.W PyProof.Rows L2 L3
theorem yK {X:Cx} {σ:L2.St} {E2:XK} {K:QC} {P:Q7} {w:Rv} {mg:Str->Option QD} {base:Heap} {k j:Nat} {x:Str} {ps:List Str} {sp:Sp} {e:RN} {es:List RN} {t:TA} {p pos i:Pos} (g:X.ex=[]) (C:pd P w K mg base (L4.i8 P w) k x ps [] sp) (Y:X.prog=P) (M:X.w=w) (Z:X.K=K) (hm:X.mg=mg) (y:X.base=base) (O:S9 j X.A) (ha:PA (X.VF (pN X σ E2)) (e::es) t) (n:k<=j:=by decide) (S:Gl X x:=by rfl)
  (Ya:(x==("__debug__":Str))=QN:=by decide) (U:Q9 (e::es) X.env=(QN,eval e X.env)::Q9 es X.env:=by rfl) (Xl:(backTo pos (Q9 es X.env)).any (·.1)=QN:=by rfl) (N:Ss (.Call (.Name x p) (e::es) [] pos) QF i.line X.env=pure QN:=by rfl):
  OG (X.VF (pN X σ E2)) [.Expr (.Call (.Name x p) (e::es) [] pos) i] σ (x5 (jQ sp [] E2 t)):=by
 subst Y M Z hm y;obtain⟨f,fd,dsv,FF,b,o,kp,m⟩:=C;cases o;intro pins s H D I h;refine Yf (cG (afV (Q:=SP (X.VF (pN X σ E2)) pins D) ?_ I.quiet N) fun fl s1 q=> ?_)
 ·refine TQ (jb I S m ?_ Ya)
  refine UY (h₀:=X.base) I.ok.mod.kin kp (cG (ha pos pins s σ H _ I h) fun us s1 ⟨vs,H1,l,r,q⟩=>⟨l.UT,?_⟩) U Xl;have E:Vals (vs++[]) (us++[]):=r.append .nil;have R:(us++[]).length=ps.length:=by rw[<-E.length];exact FF.len _ _ _ _ q
  refine Vt (Vj (FF.run X.A X.stack s1 H1 ⟨us,[]⟩ (us++[]) (vs++[]) _ E2 (O.mono n) l.abM (b s1 us l.UT R) E q) fun r s' a=> ?_);cases r with
  |error ex=>obtain⟨e,c,dx,a0,T,H',rfl,le,L,F,ne,J,os,bare,un,Sa,q⟩:=a;have B:=l.UP;have I':=B.YV (ch:=[]) os un Sa bare (fun b z=>nomatch z);exact⟨H',e,c,dx,a0,T,rfl,I'.Ym (fun p z=>nomatch z),F,qE B g le,qE B g L,ne,J,q⟩
  |ok fl=>
   cases fl with
   |ret u=>obtain⟨v,H2,I2,rv,G⟩:=l.after a;exact⟨σ,H2,I2,G⟩
   |next=>exact False.elim a
   |brk=>exact False.elim a
   |cont=>exact False.elim a
 ·cases fl with
  |next=>exact Us q
  |ret v=>exact q
  |brk=>exact q
  |cont=>exact q
theorem xb:∀{cs:List QI} {RE:List QD},Vals (cs.map V.ref) RE->RE=cs.map QD.ref
 |[],_,.nil=>rfl
 |c::r,_,.cons h t=>by have h:_=QD.ref c:=h;rw[h,xb t];rfl
def Pc (K:QC):List V->Hp->VK->Prop:=fun xs H Q=>∃(e tp:QI) (cs:List QI) (ob:Obj) (C:QI) (m:List QD) (b:Bool),xs=[.ref e,.ref tp]/\H tp=QB (.tup (cs.map V.ref))/\H e=QB (.frz ob (.own e))/\ob.cls= .ref C/\(∀p,ob.dict=QB p->∃fs,H p=QB (.xd fs))/\notCls ob=QG/\V4 K C m/\kitAny K (.ref C) (cs.map QD.ref)=QB b/\Q (.bl b) H
theorem C3:T4 X (.builtin "isinstance") (Pc X.K):=by
 rintro pins s σ H xs us Q I r ⟨e,tp,cs,ob,C,m,b,rfl,ht,he,hc,hd,hn,L,hk,q⟩;obtain⟨u,l,rfl,g,h⟩:=oB r;obtain rfl:=g;obtain rfl:=h;obtain⟨_,RE,rv,o,h1,⟨h2,n,a⟩,t⟩:=(show ObjOk X.prog X.w H s.heap tp (.tup (cs.map V.ref)) from I.Sa tp _ ht);obtain rfl:=xb rv;obtain⟨oc,od,j,Y0⟩:=o;have h2:=h2;have a:=a;subst h2 a;have z:=(I.Sa e _ he).1;cases e1:ob.dict with
 |none=>exact kia_tup (mP (od:=QF) L) I.UT ⟨z,hc,hn,by rw[e1];trivial⟩ h1 hk (fun y=>nomatch y) fun tk=>⟨.bl b,H,I.tok tk,rfl,q⟩
 |some p=>obtain⟨fs,hp⟩:=hd p e1;obtain⟨i,f⟩:=yT (I.Sa p _ hp);exact kia_tup (mP (od:=QB i) L) I.UT ⟨z,hc,hn,by rw[e1];exact f⟩ h1 hk (fun y=>nomatch y) fun tk=>⟨.bl b,H,I.tok tk,rfl,q⟩
end L4
namespace L10
open PySem L2 L3
def PY (T:A->aX->Prop) (X:Xc->Prop):RS A->Prop
 | .ok a Z=>T a Z
 | .er x _=>X x
 | .bad=>False
structure Out {A:Type} (r:RS A) (T:A->aX->Prop) (X:Xc->Prop):Prop where
 out:PY T X r
section
variable {A B:Type} {r r':RS A} {T T':A->aX->Prop} {U:B->aX->Prop} {X:Xc->Prop} {Z:aX}
theorem Out.eq (e:r=r') (h:Out r' T X):Out r T X:=by rw[e];exact h
theorem Out.imp (h:Out r T X) (k:∀a Z,T a Z->T' a Z):Out r T' X:=by
 refine⟨?_⟩;have h:=h.out;cases r with
 |bad=>exact h
 |er x o=>exact h
 |ok a o=>exact k a o h
theorem Out.bind (h:Out r (fun a o=>Out (f a o) U X) X):Out (r.bind f) U X:=by
 refine⟨?_⟩;have h:=h.out;cases r with
 |bad=>exact h
 |er x o=>exact h
 |ok a o=>exact(show Out (f a o) U X from h).out
theorem Out.all (h:Out r T fun _=>False):∃a o,r= .ok a o/\T a o:=by
 have h:=h.out;cases r with
 |bad=>exact h.elim
 |er x o=>exact h.elim
 |ok a o=>exact⟨a,o,rfl,h⟩
theorem Out.er (h:Out r (fun _ _=>False) X):∃x o,r= .er x o/\X x:=by
 have h:=h.out;cases r with
 |bad=>exact h.elim
 |er x o=>exact⟨x,o,rfl,h⟩
 |ok a o=>exact h.elim
end
section
variable {ρ ρ1 ρ2:bu} {Z Z1 Z2 Z3:aX} {x y z:SV} {i n:Nat} {d:D} {ds:List D} {b:Bool} {f g:eS} {fe:dh} {N:bu->aX->Prop} {T:SV->aX->Prop} {X:Xc->Prop}
def Qt (N:bu->aX->Prop) (T:SV->aX->Prop):FlS->aX->Prop
 | .nx ρ,Z=>N ρ Z
 | .rt v,Z=>T v Z
 |_,_=>False
noncomputable abbrev k8 (r:RS FlS) (N:bu->aX->Prop) (T:SV->aX->Prop) (X:Xc->Prop):Prop:=Out r (Qt N T) X
theorem jZ (h:k8 (f ρ Z) (fun r o=>k8 (g r o) N T X) T X):k8 (aL f g ρ Z) N T X:=by
 refine Out.bind (h.imp fun fl o k=> ?_);cases fl with
 |nx r=>exact k
 |rt v=>exact⟨k⟩
 |ct r=>exact k.elim
 |bk r=>exact k.elim
theorem Gn (a:f ρ Z= .ok (.nx ρ1) Z1) (h:k8 (g ρ1 Z1) N T X):k8 (aL f g ρ Z) N T X:=jZ (.eq a ⟨h⟩)
theorem Nq (a:f ρ Z= .ok (.nx ρ1) Z1) (h:N ρ1 Z1):k8 (f ρ Z) N T X:= .eq a ⟨h⟩
theorem eD (b:fe ρ Z= .ok x Z1) (a:gt x ρ Z1= .ok ρ1 Z2) (h:k8 (g ρ1 Z2) N T X):k8 (aL (dJ fe gt) g ρ Z) N T X:=Gn (by unfold dJ;rw[b,RS.bind_ok,a,RS.bind_ok]) h
theorem Kd (a:Out (fe ρ Z) (fun x Z1=>k8 (g (ρ.set i (QB x)) Z1) N T X) X):k8 (aL (dJ fe (gA i)) g ρ Z) N T X:=jZ (Out.bind (a.imp fun _ _ k=>⟨k⟩))
theorem D8 (a:Out (fe ρ Z) (fun _ Z1=>k8 (g ρ Z1) N T X) X):k8 (aL (bK fe) g ρ Z) N T X:=jZ (Out.bind (a.imp fun _ _ k=>⟨k⟩))
theorem NX {a e:eS} (b:c ρ Z= .ok QG Z1) (h:k8 (aL a g ρ Z1) N T X):k8 (aL (ck c a e) g ρ Z) N T X:=by refine .eq ?_ h;unfold aL ck;rw[b,RS.bind_ok,if_pos rfl]
theorem uX {e a:eS} (b:c ρ Z= .ok QN Z1) (h:k8 (aL a g ρ Z1) N T X):k8 (aL (ck c e a) g ρ Z) N T X:=by refine .eq ?_ h;unfold aL ck;rw[b,RS.bind_ok,if_neg QV]
theorem pw (h:k8 (g ρ Z) N T X):k8 (aL cI g ρ Z) N T X:=jZ ⟨h⟩
theorem uY (a:fe ρ Z= .ok x Z1) (h:T x Z1):k8 (gn fe ρ Z) N T X:= .eq (gW a) ⟨h⟩
theorem JW (a:fe ρ Z= .ok x Z1) (h:T x Z1):k8 (aL (gn fe) g ρ Z) N T X:=jZ (uY a h)
theorem Hq (a:Out (fe ρ Z) T X):k8 (gn fe ρ Z) N T X:=Out.bind (a.imp fun _ _ k=>⟨k⟩)
theorem uQ (a:xs.map QB++QP (n - xs.length) QF=ρ) (h:k8 (g ρ Z) (fun _ Z'=>T (.fz .none) Z') T X):Out (cY n g xs Z) T X:=by
 unfold cY;rw[a];refine Out.bind (h.imp fun fl o k=> ?_);cases fl with
 |nx r=>exact⟨k⟩
 |rt v=>exact⟨k⟩
 |ct r=>exact k.elim
 |bk r=>exact k.elim
theorem El {b:eS} (I:Nat->bu->aX->Prop) (M:Nat) (a:∀n ρ Z,I n ρ Z->(∃Z1,c ρ Z= .ok QN Z1/\N ρ Z1)\/(n<M/\∃Z1,c ρ Z= .ok QG Z1/\k8 (b ρ Z1) (I (n+1)) T X)):∀(m n:Nat) (ρ:bu) (Z:aX),M - n<m->I n ρ Z->k8 (tE c b m ρ Z) N T X
 |0,n,_,_,h,_=>by omega
 |m+1,n,ρ,Z,h,h0=>by
  rcases a n ρ Z h0 with⟨Z1,hc,hN⟩|⟨hn,Z1,hc,hb⟩
  ·refine .eq (show tE c b (m+1) ρ Z= .ok (.nx ρ) Z1 from ?_) ⟨hN⟩;show((c ρ Z).bind _)=_;rw[hc,RS.bind_ok,if_neg QV]
  ·refine .eq (show tE c b (m+1) ρ Z=(b ρ Z1).bind fun fl Z2=>match fl with
    | .nx ρ2=>tE c b m ρ2 Z2
    | .ct ρ2=>tE c b m ρ2 Z2
    | .bk ρ2=> .ok (.nx ρ2) Z2
    | .rt x=> .ok (.rt x) Z2 from ?_) (Out.bind (hb.imp fun fl o k=> ?_))
   ·show((c ρ Z).bind _)=_
    rw[hc,RS.bind_ok,if_pos rfl]
    all_goals (cases b ρ Z1 with
     |bad=>rfl
     |er x o=>rfl
     |ok fl o=>cases fl<;>rfl)
   ·cases fl with
    |nx r=>exact El I M a m (n+1) r o (by omega) k
    |rt v=>exact⟨k⟩
    |ct r=>exact k.elim
    |bk r=>exact k.elim
theorem xa {b:eS} (I:Nat->bu->aX->Prop) (M:Nat) (f:M<1000000) (e:I 0 ρ Z) (a:∀n ρ Z,I n ρ Z->(∃Z1,c ρ Z= .ok QN Z1/\N ρ Z1)\/(n<M/\∃Z1,c ρ Z= .ok QG Z1/\k8 (b ρ Z1) (I (n+1)) T X)):k8 (uW c b ρ Z) N T X:=El I M a 1000000 0 ρ Z (by omega) e
theorem BL {b:eS} (I:Nat->bu->aX->Prop):∀(ds:List D) (k:Nat) (ρ:bu) (Z:aX),I k ρ Z->(∀i d ρ Z,ds[i]? =QB d->I (k+i) ρ Z->∃ρ1 Z1,gt (.fz d) ρ Z= .ok ρ1 Z1/\k8 (b ρ1 Z1) (I (k+i+1)) T X)->k8 (kg gt b ds ρ Z) (I (k+ds.length)) T X
 |[],k,ρ,Z,h0,_=>⟨h0⟩
 |d::r,k,ρ,Z,h0,hs=>by
  obtain⟨ρ1,Z1,h1,h2⟩:=hs 0 d ρ Z rfl h0;have rest:∀ρ' Z',I (k+1) ρ' Z'->k8 (kg gt b r ρ' Z') (I (k+(r.length+1))) T X:=fun ρ' Z' h=>by
   have e:k+(r.length+1)=k+1+r.length:=by omega
   rw[e];refine BL I r (k+1) ρ' Z' h fun i j a f hi g=> ?_;have e:k+1+i=k+(i+1):=by omega
   rw[e] at g⊢;exact hs (i+1) j a f (by simpa using hi) g
  refine .eq (show kg gt b (d::r) ρ Z=(b ρ1 Z1).bind fun fl Z2=>match fl with
   | .nx ρ2=>kg gt b r ρ2 Z2
   | .ct ρ2=>kg gt b r ρ2 Z2
   | .bk ρ2=> .ok (.nx ρ2) Z2
   | .rt x=> .ok (.rt x) Z2 from ?_) (Out.bind (h2.imp fun fl o k=> ?_))
  ·show((gt (.fz d) ρ Z).bind _)=_
   rw[h1,RS.bind_ok]
   all_goals (cases b ρ1 Z1 with
    |bad=>rfl
    |er x o=>rfl
    |ok fl o=>cases fl<;>rfl)
  ·cases fl with
   |nx r=>exact rest _ _ k
   |rt v=>exact⟨k⟩
   |ct r=>exact k.elim
   |bk r=>exact k.elim
theorem NV {b:eS} (I:Nat->bu->aX->Prop) (hi:fi ρ Z= .ok ds Z1) (f:I 0 ρ Z1) (a:∀i d ρ Z,ds[i]? =QB d->I i ρ Z->∃ρ1 Z1,gt (.fz d) ρ Z= .ok ρ1 Z1/\k8 (b ρ1 Z1) (I (i+1)) T X) (e:∀ρ' Z',I ds.length ρ' Z'->N ρ' Z'):k8 (zY fi gt b ρ Z) N T X:=by
 have:=BL I ds 0 ρ Z1 f (by simpa using a);rw[Td] at this;refine .eq ?_ (this.imp fun fl o k=> ?_)
 ·unfold zY;rw[hi,RS.bind_ok]
 ·cases fl with
  |nx r=>exact e _ _ k
  |rt v=>exact k
  |ct r=>exact k.elim
  |bk r=>exact k.elim
theorem ng (I:Nat->bu->aX->List SV->Prop):∀(ds:List D) (k:Nat) (ρ:bu) (Z:aX) (a:List SV),I k ρ Z a->(∀i d ρ Z a,ds[i]? =QB d->I (k+i) ρ Z a->a.length<1000000/\∃ρ1,gt (.fz d) ρ Z= .ok ρ1 Z/\ft ρ1 Z= .ok QG Z/\Out (fe ρ1 Z) (fun x Z2=>I (k+i+1) ρ1 Z2 (a++[x])) X)->Out (cL gt ft fe ds ρ Z a) (fun xs Z'=>∃ρ',I (k+ds.length) ρ' Z' xs) X
 |[],k,ρ,Z,a,h0,_=>⟨ρ,h0⟩
 |d::r,k,ρ,Z,a,h0,hs=>by
  obtain⟨l,ρ1,h1,h2,m⟩:=hs 0 d ρ Z a rfl h0;refine .eq (show cL gt ft fe (d::r) ρ Z a=(fe ρ1 Z).bind fun x Z3=>cL gt ft fe r ρ1 Z3 (a++[x]) from ?_) (Out.bind (m.imp fun x o j=> ?_))
  ·show((gt (.fz d) ρ Z).bind _)=_
   rw[h1,RS.bind_ok,h2,RS.bind_ok,if_pos rfl];cases fe ρ1 Z with
   |bad=>rfl
   |er x o=>rfl
   |ok x o=>show(if a.length<1000000 then _ else _)=_;rw[if_pos l];rfl
  ·have e:k+(d::r).length=k+1+r.length:=by rw[Q0];omega
   rw[e];refine ng I r (k+1) ρ1 o _ j fun i n b g f hi h=> ?_;have e:k+1+i=k+(i+1):=by omega
   rw[e] at h⊢;exact hs (i+1) n b g f (by simpa using hi) h
theorem z6 (hi:fi ρ Z= .ok ds Z1) (a:Out (cL (fun x ρ Z=>fF (gt x ρ Z)) (fun ρ Z=>fF (ft ρ Z)) fe ds (gz n fj ρ) Z1 []) (fun xs Z2=>T (.rf Z2.length) (Z2++[.lst xs])) X):Out (sH n fj fi gt ft fe ρ Z) T X:=by unfold sH;rw[hi,RS.bind_ok];exact Out.bind (a.imp fun _ _ k=>⟨k⟩)
theorem BF (a:fo ρ Z= .ok (.rf i) Z1) (b:Z1[i]? =QB (.obj C fs)) (hm:fs.lookup m=QF) (ha:fa ρ Z1= .ok xs Z2) (hn:(SV.rf i::xs).length=n):ox C m F n fo fa ρ Z=F (.rf i::xs) Z2:=by
 have e:lc Z1 C m (.rf i)=QG:=by unfold lc;dsimp only;rw[b];dsimp only;rw[hm];simp
 unfold ox;rw[a,RS.bind_ok,if_pos e,ha,RS.bind_ok,if_pos hn]
theorem Nt (ha:fa ρ Z= .ok xs Z1) (hn:(SV.rf Z1.length::xs).length=n):FX C F n fa ρ Z=(F (.rf Z1.length::xs) (Z1++[.obj C []])).bind fun r Z2=>(if Cm r=QG then .ok (.rf Z1.length) Z2 else .bad):=by unfold FX;rw[ha,RS.bind_ok];unfold tJ;rw[if_pos hn]
theorem GQ (ha:fa ρ Z= .ok xs Z1) (hn:(xs++es.map SV.fz).length=n):Ba F n es fa ρ Z=F (xs++es.map SV.fz) Z1:=by unfold Ba;rw[ha,RS.bind_ok,if_pos hn]
theorem tL (ha:fa ρ Z= .ok xs Z1) (hn:(xs++es.map SV.fz).length=n) (a:F (xs++es.map SV.fz) Z1= .ok x Z2):rH F n es fa ρ Z= .ok x Z2:=by unfold rH;rw[ha,RS.bind_ok,if_pos hn,a];rfl
theorem C6 {c f:Str} (h:fe ρ Z= .ok (.fz d) Z1) (hd:L9.OQ d=QG):pQ c f fe ρ Z= .er ⟨c,[(f,d)]⟩ Z1:=by unfold pQ;rw[h,RS.bind_ok];dsimp only;rw[if_pos hd]
end
end L10
namespace L3
open PySem PyProof.Rows L2
section
variable {P:Q7} {w:Rv} {K:QC} {mg:Str->Option QD} {base h:Heap} {f T:QI} {n:Str} {t:Tg} {ps:List Str} {lv:Nat} {sp:Sp} {CX:wA} {RE:Array QD}
theorem NI.agv (i:NI K f n t) (X:K.In h) (G:h.Ns QW mg) (b:BA n n t ps) (ok:∀fd,Up K n n t f fd->FnOk P w K mg base CX lv f fd ps sp):pd P w K mg base CX lv n ps [] sp:=
 let⟨fd,z⟩:=i.F;⟨f,fd,[],ok fd z,z.binds b,.nil,z.kp,Sf X G i.a⟩
structure DI (K:QC) (f T:QI) (n:Str) (t:Tg) (RE:Array QD):Prop where
 a:QZ K QW n=QB (QB (.ref f))
 F:∃fd,Yq K n n t f fd T RE
theorem IS {x qual:Str} {st:Tg} {oc:QD} {od:Option QI} {kV doc pm:QD} {an:Option QI} {Sl ct:QD} {Y0:Array (Option QD)} {tc:QD} {td:Option QI} {k:Nat} {a:Array (Option QD)}
  (b:K.lookup f=QB ⟨oc,od,.func (So x qual (fC st) (b6 st) (ay st) (.ref T) kV doc pm an Sl ct),Y0⟩) (e:UZ K Sl qual=QG) (kp:SI K (.ref f)=QG) (lt:K.lookup T=QB ⟨tc,td,.seq RE k,a⟩):Yq K x qual st f (So x qual (fC st) (b6 st) (ay st) (.ref T) kV doc pm an Sl ct) T RE:=
 ⟨⟨_,_,_,_,_,_,_,_,_,rfl,b,e⟩,kp,_,_,lt,rfl⟩
def BD (n:Str) (t:Tg) (T:QI) (RE:Array QD) (ps:List Str) (ds:List QD):Prop:=∀(kV doc pm:QD) (an:Option QI) (Sl ct:QD) (us:List QD),(us++ds).length=ps.length->∃k:Option (Array QD)->Sem (List (Str×QD)),bindArgs (So n n (fC t) (b6 t) (ay t) (.ref T) kV doc pm an Sl ct) ⟨us,[]⟩=seqItems? (.ref T)>>=k/\k (QB RE)=pure (ps.zip (us++ds))
theorem DI.cal {ds:List QD} {dvs:List V} (i:DI K f T n t RE) (X:K.In h) (G:h.Ns QW mg) (e:BD n t T RE ps ds) (b:Vals dvs ds) (ok:∀fd,Yq K n n t f fd T RE->FnOk P w K mg base CX lv f fd ps sp):pd P w K mg base CX lv n ps dvs sp:=
 let⟨fd,z⟩:=i.F;⟨f,fd,ds,ok fd z,z.binds e,b,z.kp,Sf X G i.a⟩
end
structure Tp (P:Q7) (w:Rv) (K:QC) (mg:Str->Option QD) (base h:Heap):Prop where
 X:K.In h
 G:h.Ns QW mg
section
variable {P:Q7} {w:Rv} {K:QC} {mg:Str->Option QD} {base h:Heap} {f C T:QI} {n m q:Str} {t:Tg} {ps fs:List Str} {lv:Nat} {sp:Sp} {CX:wA} {RE:Array QD}
theorem NI.c (i:NI K f n t) (W:Tp P w K mg base h) (ok:∀fd,Up K n n t f fd->FnOk P w K mg base di lv f fd ps sp) (a:BA n n t ps:=by walk_at "ba"):rS P w K mg base lv n ps sp:=i.cal W.X W.G a ok
theorem NI.d (i:NI K f n t) (W:Tp P w K mg base h) (ok:∀fd,Up K n n t f fd->FnOk P w K mg base CX lv f fd ps sp) (a:BA n n t ps:=by walk_at "ba"):pd P w K mg base CX lv n ps [] sp:=i.agv W.X W.G a ok
theorem MI.mt (i:MI K C f m q t) (c:CI K C n fs) (W:Tp P w K mg base h) (ok:∀fd,Up K m q t f fd->FnOk P w K mg base CX lv f fd ps sp) (a:BA m q t ps:=by walk_at "ba"):L10.bX P w K mg base CX lv n m ps sp:=i.aew c a ok
theorem MI.k (i:MI K C f "__init__" q t) (c:CI K C n fs) (W:Tp P w K mg base h) (ok:∀fd,Up K "__init__" q t f fd->FnOk P w K mg base CX lv f fd ps sp) (a:BA "__init__" q t ps:=by walk_at "ba"):L10.ym P w K mg base CX lv n ps sp:=i.agm c W.X W.G a ok
theorem DI.c {ds:List QD} {dvs:List V} (i:DI K f T n t RE) (W:Tp P w K mg base h) (a:Vals dvs ds) (ok:∀fd,Yq K n n t f fd T RE->FnOk P w K mg base CX lv f fd ps sp) (b:BD n t T RE ps ds:=by walk_at "bd"):pd P w K mg base CX lv n ps dvs sp:=i.cal W.X W.G b a ok
end
end L3
namespace M02
inductive Con (E:List (Nat×Nat)) (r0:Nat):Bool->Nat->Prop
 |base:Con E r0 QG r0
 |col {r c:Nat}:Con E r0 QG r->(r,c)∈E->Con E r0 QN c
 |row {r c:Nat}:Con E r0 QN c->(r,c)∈E->Con E r0 QG r
def has (n c:Nat):Prop:=n.testBit c=QG
structure Nums (E:List (Nat×Nat)) (R C:Nat) (ns:List Nat):Prop where
 len:ns.length=R
 lt:∀n∈ns,n<2^C
 own:∀r c,(r,c)∈E->has (ns.getD r 0) c
 snd:∀r,r<R->∀c,has (ns.getD r 0) c->Con E r QN c
abbrev NF:=List Nat×List Nat
structure akN (E:List (Nat×Nat)) (r0:Nat) (s:NF):Prop where
 a:r0∈s.1
 n:∀x∈s.1,Con E r0 QG x
 f:∀x∈s.2,Con E r0 QN x
 d:s.2.Nodup
 d1:s.1.Nodup
structure amF (R C:Nat) (ss:List (Nat×Nat)):Prop where
 r1:1<=R
 r6:R<=6
 c1:1<=C
 c6:C<=6
 l1:1<=ss.length
 l12:ss.length<=12
 nd:ss.Nodup
 inn:∀s∈ss,s.1<R/\s.2<C
end M02
namespace STP
open PySem L2 L3
noncomputable def lQ:FS:=(bV (mM (aU (aR ri (aR bA (ad 0) (pC (.int 2))) (pC .none))) (dW (aR bA (ad 0) (pC (.int 2)))) eO)
 (dW (gy (L10.Dv 0) (aa (dZ 2 [] (ib (aR bA (ad 0) (pC (.int 0)))) (gT 2 (N7 (gN 0) (N7 (gN 1) Pp))) (aU (aR dA (aR bA (ad 1) (pC (.int 0))) (pC (.str "layer")))) (aR bA (ad 1) (pC (.int 1)))) au))))
noncomputable def dk:FN:=gC 1 lQ
noncomputable def ke:FS:=(bV (gX (aR bA (aR bA (aR bA (ad 0) (pC (.int 1))) (ad 1)) (ad 2)) (gN 3))
 (bV (mM (aU (aR dA (aR bA (ad 3) (pC (.int 0))) (pC (.str "below")))) (dW (aR bA (aR bA (aR bA (ad 0) (pC (.int 1))) (pC (.int 0))) (ad 2))) eO)
 (dW (ad 3))))
noncomputable def ic:FN:=gC 4 ke
noncomputable def iJ:FS:=(dW (dZ 1 [1] (ib (aR bA (ad 0) (pC (.int 2)))) (gN 0) (aU (gy qY (aa (dZ 1 [0] (ib (ad 1)) (gN 0) dr (aR JP (ad 0) (aR bA (ad 1) (pC (.int 0))))) au))) (ad 0)))
noncomputable def bE:FN:=gC 2 iJ
noncomputable def je:FS:=(bV (oM (ib (aR bA (ad 0) (pC (.int 2)))) (gN 2) (mM (aU (aR dA (gy vx (aa (aR bA (ad 2) (pC (.int 0))) au)) (gy L9.gK (aa (ad 1) au)))) (dW (aR dB (cZ (aa (b7 (aa (pC (.str "letter")) (aa (aR bA (ad 2) (pC (.int 1))) au))) au)) (aR gU (cZ (aa (pC (.tuple [(.str "none")])) au)) (aR sD (gy dS (aa (ad 1) au)) (pC (.int 1)))))) eO))
 (dW (dZ 1 [0] (ib (ad 1)) (gN 0) dr (aR bA (aR bA (aR bA (ad 1) (pC (.int 1))) (pC (.int 0))) (ad 0)))))
noncomputable def eV:FN:=gC 3 je
open L10
noncomputable def jA:eS:=(aL (fu "Hand" "bed" (aq 0) (ae (ad 1)))
 (aL (fu "Hand" "acts" (aq 0) (xN (ae (aR bA (ad 2) (pC (.int 0))))))
 (aL (fu "Hand" "waiting" (aq 0) (ae (aR bA (ad 2) (pC (.int 1)))))
 (aL (fu "Hand" "once" (aq 0) (ae (aR bA (ad 2) (pC (.int 2)))))
 (fu "Hand" "sent" (aq 0) (ae (cZ au)))))))
noncomputable def dw:iU:=cY 3 jA
noncomputable def ld:eS:=(gn (mi (aj (sO hV (aj (l9 1 [0] (l8 (ud (bj "Hand" "acts" (aq 0)))) (gA 0) jC (mi (aj (ae (ad 0)) (aj (uv (bj "Hand" "acts" (aq 1)) (ae (ad 0))) aN)))) aN)) (aj (bj "Hand" "waiting" (aq 0)) (aj (bj "Hand" "once" (aq 0)) aN)))))
noncomputable def bC:iU:=cY 1 ld
noncomputable def ie:eS:=(gn (Al (jJ ri (bj "Hand" "waiting" (aq 0)) (ae (pC .none))) (jJ JP (ae (ad 1)) (g9 (bj "Hand" "waiting" (aq 0)) (ae (pC (.int 0)))))))
noncomputable def bS:iU:=cY 2 ie
noncomputable def ko:eS:=(gn (jJ JP (ae (ad 1)) (Bx (bj "Hand" "acts" (aq 0)))))
noncomputable def bH:iU:=cY 2 ko
noncomputable def kr:eS:=(aL (ck (mW (ci (aU (aR dA (aR bA (ad 2) (pC (.int 0))) (pC (.str "letter"))))) (mx (bq (aY "Hand" "has_act" bH 2 (aq 0) (aj (ae (ad 2)) aN))))) (bK (k6 (bj "Hand" "sent" (aq 0)) (ae (b7 (aa (aR bA (ad 2) (pC (.int 1))) (aa (pC (.str "down")) au)))))) cI)
 (wE (bj "Hand" "acts" (aq 0)) (ae (ad 1)) (ae (ad 2))))
noncomputable def bw:iU:=cY 3 kr
noncomputable def nX:eS:=(aL (dJ (x9 (bj "Hand" "acts" (aq 0)) (ae (ad 1))) (gA 2))
 (ck (mW (ci (aU (aR dA (aR bA (ad 2) (pC (.int 0))) (pC (.str "letter"))))) (mx (bq (aY "Hand" "has_act" bH 2 (aq 0) (aj (ae (ad 2)) aN))))) (bK (k6 (bj "Hand" "sent" (aq 0)) (ae (b7 (aa (aR bA (ad 2) (pC (.int 1))) (aa (pC (.str "up")) au)))))) cI))
noncomputable def iL:iU:=cY 3 nX
noncomputable def lg:eS:=(aL (dJ (g9 (bj "Hand" "waiting" (aq 0)) (ae (pC (.int 0)))) (gA 1))
 (aL (dJ (g9 (bj "Hand" "waiting" (aq 0)) (ae (pC (.int 2)))) (gA 2))
 (aL (fu "Hand" "waiting" (aq 0) (ae (pC .none)))
 (aL (dJ (sA (Nh (ci (aU (aR dA (ad 2) (pC (.tuple [(.str "chord")]))))) (iR eV 2 (aj (bj "Hand" "bed" (aq 0)) (aj (ae (ad 1)) aN))) (ae (cZ (aa (b7 (aa (pC (.str "layer")) (aa (aR bA (ad 2) (pC (.int 2))) au))) au))))) (gA 3))
 (zY (im (xo (aa (ad 1) (aa (ad 3) au)))) (N5 2 (sg (gA 4) (sg (gA 5) Dj))) (bK (aY "Hand" "come" bw 3 (aq 0) (aj (ae (ad 4)) (aj (ae (ad 5)) aN)))))))))
noncomputable def bR:iU:=cY 6 lg
noncomputable def eG:eS:=(aL (ck (xi (bq (jJ sZ (bj "Hand" "waiting" (aq 0)) (ae (pC .none)))) (xi (bq (jJ sL (g9 (bj "Hand" "waiting" (aq 0)) (ae (pC (.int 2)))) (ae (pC (.tuple [(.str "chord")]))))) (bq (jJ sL (iR dk 1 (aj (aY "Hand" "stands" bC 1 (aq 0) aN) aN)) (ae (pC (.int 0))))))) (gn (ae (pC (.bool QN)))) cI)
 (gn (jJ sL (iR bE 2 (aj (bj "Hand" "bed" (aq 0)) (aj (jJ dB (g9 (bj "Hand" "waiting" (aq 0)) (ae (pC (.int 0)))) (ae (b7 (aa (ad 1) au)))) aN))) (ae (cZ au)))))
noncomputable def dj:iU:=cY 2 eG
noncomputable def gw:eS:=(aL (dJ (jJ dB (g9 (bj "Hand" "waiting" (aq 0)) (ae (pC (.int 0)))) (ae (b7 (aa (ad 1) au)))) (gA 2))
 (aL (fu "Hand" "waiting" (aq 0) (mi (aj (ae (ad 2)) (aj (g9 (bj "Hand" "waiting" (aq 0)) (ae (pC (.int 1)))) (aj (ae (pC (.tuple [(.str "chord")]))) aN)))))
 (ck (bq (jJ dA (l9 1 [] (l8 (iR bE 2 (aj (bj "Hand" "bed" (aq 0)) (aj (ae (ad 2)) aN)))) (gA 0) jC (ae (gy dS (aa (aR bA (ad 0) (pC (.int 0))) au)))) (ae (cZ (aa (gy dS (aa (ad 2) au)) au))))) (bK (aY "Hand" "decide" bR 1 (aq 0) aN)) cI)))
noncomputable def cW:iU:=cY 3 gw
noncomputable def jp:eS:=(aL (dJ (iR dk 1 (aj (aY "Hand" "stands" bC 1 (aq 0) aN) aN)) (gA 2))
 (aL (dJ (iR ic 3 (aj (bj "Hand" "bed" (aq 0)) (aj (ae (ad 2)) (aj (ae (ad 1)) aN)))) (gA 3))
 (aL (dJ (ae (aR bA (ad 3) (pC (.int 0)))) (gA 4))
 (aL (ck (ci (aU (aR ze (ad 4) (b7 (aa (pC (.str "layer")) (aa (pC (.str "once")) au)))))) (fu "Hand" "once" (aq 0) (ae (pC .none))) cI)
 (ck (ci (aU (aR dA (ad 4) (pC (.str "tap"))))) (fu "Hand" "waiting" (aq 0) (ae (b7 (aa (b7 (aa (ad 1) au)) (aa (pC (.int 0)) (aa (ad 3) au)))))) (ck (mW (ci (aU (aR dA (ad 4) (pC (.str "letter"))))) (mW (ci (aU (aR dA (ad 2) (pC (.int 0))))) (bq (jJ sL (iR bE 2 (aj (bj "Hand" "bed" (aq 0)) (aj (ae (b7 (aa (ad 1) au))) aN))) (ae (cZ au)))))) (fu "Hand" "waiting" (aq 0) (ae (b7 (aa (b7 (aa (ad 1) au)) (aa (pC (.int 0)) (aa (pC (.tuple [(.str "chord")])) au)))))) (ck (ci (aU (aR dA (ad 4) (pC (.str "once"))))) (aL (bK (aY "Hand" "come" bw 3 (aq 0) (aj (ae (ad 1)) (aj (ae (pC (.tuple [(.str "none")]))) aN))))
 (fu "Hand" "once" (aq 0) (ae (aR bA (ad 3) (pC (.int 1)))))) (bK (aY "Hand" "come" bw 3 (aq 0) (aj (ae (ad 1)) (aj (ae (ad 3)) aN)))))))))))
noncomputable def fD:iU:=cY 5 jp
noncomputable def jg:eS:=(aL (ck (xi (bq (yr QN (ae (ad 1)) (bj "Hand" "acts" (aq 0)))) (bq (aY "Hand" "is_waiting" bS 2 (aq 0) (aj (ae (ad 1)) aN)))) uD cI)
 (aL (ck (bq (aY "Hand" "makes_chord" dj 2 (aq 0) (aj (ae (ad 1)) aN))) (aL (bK (aY "Hand" "put_to_chord" cW 2 (aq 0) (aj (ae (ad 1)) aN)))
 uD) cI)
 (aL (ck (bq (jJ ri (bj "Hand" "waiting" (aq 0)) (ae (pC .none)))) (bK (aY "Hand" "decide" bR 1 (aq 0) aN)) cI)
 (bK (aY "Hand" "begin" fD 2 (aq 0) (aj (ae (ad 1)) aN))))))
noncomputable def gL:iU:=cY 2 jg
noncomputable def iy:eS:=(aL (dJ (g9 (bj "Hand" "waiting" (aq 0)) (ae (pC (.int 2)))) (gA 2))
 (ck (ci (aU (aR dA (ad 2) (pC (.tuple [(.str "chord")]))))) (bK (aY "Hand" "decide" bR 1 (aq 0) aN)) (aL (fu "Hand" "waiting" (aq 0) (ae (pC .none)))
 (bK (aY "Hand" "come" bw 3 (aq 0) (aj (ae (ad 1)) (aj (ae (b7 (aa (pC (.str "letter")) (aa (aR bA (ad 2) (pC (.int 1))) au)))) aN)))))))
noncomputable def fZ:iU:=cY 3 iy
noncomputable def jM:eS:=(aL (ck (bq (aY "Hand" "is_waiting" bS 2 (aq 0) (aj (ae (ad 1)) aN))) (bK (aY "Hand" "settle" fZ 2 (aq 0) (aj (ae (ad 1)) aN))) cI)
 (ck (bq (yr QN (ae (ad 1)) (bj "Hand" "acts" (aq 0)))) (bK (aY "Hand" "go" iL 2 (aq 0) (aj (ae (ad 1)) aN))) cI))
noncomputable def ip:iU:=cY 2 jM
noncomputable def gZ:eS:=(aL (ck (bq (jJ sZ (bj "Hand" "waiting" (aq 0)) (ae (pC .none)))) uD cI)
 (aL (dJ (jJ dB (g9 (bj "Hand" "waiting" (aq 0)) (ae (pC (.int 1)))) (ae (pC (.int 1)))) (gA 1))
 (aL (fu "Hand" "waiting" (aq 0) (mi (aj (g9 (bj "Hand" "waiting" (aq 0)) (ae (pC (.int 0)))) (aj (ae (ad 1)) (aj (g9 (bj "Hand" "waiting" (aq 0)) (ae (pC (.int 2)))) aN)))))
 (ck (bq (jJ dA (ae (ad 1)) (g9 (bj "Hand" "bed" (aq 0)) (ae (pC (.int 3)))))) (bK (aY "Hand" "decide" bR 1 (aq 0) aN)) cI))))
noncomputable def fA:iU:=cY 2 gZ
noncomputable def yR:eS:=(aL (dJ (tO "Hand" dw 3 (aj (ae (ad 0)) (aj (ae (ad 1)) aN))) (gA 3))
 (aL (ck (ci (aU (aR dA (aR bA (ad 2) (pC (.int 0))) (pC (.str "turn"))))) (bK (aY "Hand" "wait_on" fA 1 (aq 3) aN)) (ck (ci (aU (aR dA (aR bA (ad 2) (pC (.int 0))) (pC (.str "down"))))) (bK (aY "Hand" "press" gL 2 (aq 3) (aj (ae (aR bA (ad 2) (pC (.int 1)))) aN))) (bK (aY "Hand" "lift" ip 2 (aq 3) (aj (ae (aR bA (ad 2) (pC (.int 1)))) aN)))))
 (gn (mi (aj (bj "Hand" "sent" (aq 3)) (aj (aY "Hand" "stands" bC 1 (aq 3) aN) aN))))))
noncomputable def g6:iU:=cY 4 yR
end STP
local macro_rules| `(tactic|walk_at "px")=> `(tactic|simp only[L3.gC,L3.bV,L3.mM,L3.gX,L3.dW,L3.aif,L3.oy,L3.eO,L3.oM,L3.agp,L3.aiP,L3.agV,L3.agZ,L3.af4,L3.afT,L3.afD,L3.aR,L3.pUn,L3.zM,L3.Fv,L3.GN,L3.pC,L3.gy,L3.dI,L3.b7,L3.cZ,L3.aU,L3.DM,L3.pOr,L3.aj4,L3.pIf,L3.pSl,L3.air,L3.aiY,
 L3.zb,L3.My,L3.alH,L3.dr,L3.au,L3.aa,L3.oX,L3.ib,L3.ai3,L3.GL,L3.aiO,L3.aie,L3.gT,L3.Pp,L3.N7,L3.gIx,L3.zC,L3.alu,L3.dZ,L3.ads,L3.ac5,L3.v3,L3.xT,
 L3.agY,L3.agM,L3.aha,L3.agD,L3.ahF,L3.ahu,L3.agb,L3.agW,L3.agg,L3.ahr,L3.aeu,L3.ae2,L3.afr,L3.aeI,L3.ae8,L3.afq,L3.adz,L3.adC,L3.adH,L3.yq,L3.afS,L3.ae3,L3.adm,L3.adp,L3.nO,L3.yo,L3.ai1,L3.ah8,L3.Res.bind_ok,L3.bf,L3.de,L3.aeK,L3.aeg,L3.acZ,L3.jO,L3.ac6,
 L3.jT,L3.eX,L3.hV,L3.vx,L3.negD,L3.lO,L3.aea,L3.Bj,L3.yu,L3.gp,L3.oa,L3.jn,L3.vX,L3.aa0,L3.aa4,
 QY,T6,abl,XZ,Rf,RZ,List.replicate_zero,Q0,SM,YQ,YM,aau,aav,Nat.reduceSub,Nat.reduceAdd,Nat.reduceLeDiff,Nat.reduceLT,Td,adX,RF,reduceIte,Option.map_some,Option.map_none,YG,Bool.not_false,Ui,if_true,if_false,ite_true,ite_false])
local macro_rules| `(tactic|walk_at "nm")=> `(tactic|first|((simp only[aau,aav]);rfl)|rfl)
local macro_rules| `(tactic|walk_at "evf")=> `(tactic|first|with_reducible assumption|with_reducible exact L3.gp _ _|with_reducible exact L3.oa _ _|with_reducible exact L3.lO _ _|with_reducible exact L3.aea _ _|with_reducible exact L3.Bj _ _|with_reducible exact L3.yu _ _|with_reducible exact L3.agC _ _|with_reducible exact L3.ahh _ _|with_reducible exact L3.jn _ _|with_reducible exact L3.vX _ _|with_reducible exact L3.aa0 _ _|with_reducible exact L3.aa4 _ _|with_reducible exact L3.afe _ _|with_reducible exact L3.afg _ _|with_reducible exact L3.we _ _|with_reducible exact L3.afy _ _|with_reducible exact L3.afR _ _|with_reducible exact L3.aeJ _ _|with_reducible exact L3.ww _ _|with_reducible exact L3.aeo _ _|with_reducible exact L3.ad3 _ _|with_reducible exact L3.aff _ _|with_reducible exact L3.agu _ _|with_reducible exact L3.iX|with_reducible exact L3.lL|with_reducible exact L3.sY|with_reducible exact L3.alq|with_reducible exact L3.amE|with_reducible exact L3.KN|with_reducible exact L3.jT _|with_reducible exact L3.eX _|(with_reducible rfl))
local macro_rules| `(tactic|walk_at "ev")=> `(tactic|first
 |with_reducible exact L3.aH
 |((with_reducible apply L3.ah);rfl)
 |((with_reducible apply L3.jy);rfl)
 |with_reducible exact L3.aI
 |with_reducible exact L3.ael
 |((with_reducible apply L3.aW);(·walk_at "ev");(·walk_at "ev");(·rfl);(·rfl);(·walk_at "evf"))
 |((with_reducible apply L3.aiN);(·walk_at "ev");(·rfl);(·rfl))
 |((with_reducible apply L3.ai);(·walk_at "ev");(·walk_at "ev"))
 |((with_reducible apply L3.cF);(·walk_at "ev");(·rfl))
 |((with_reducible apply L3.eR);(·walk_at "ev");(·rfl);(·first|walk_at "evf"|rfl))
 |((with_reducible apply L3.cB);(·walk_at "ev");(·rfl);(·rfl);(·with_reducible assumption))
 |((with_reducible apply L3.fy);(·walk_at "ev");(·rfl);(·exact QO rfl))
 |((with_reducible apply L3.nG);(·walk_at "ev");(·rfl);(·exact QO rfl))
 |((with_reducible apply L3.Ft);(·walk_at "ev");(·rfl);(·rfl))
 |((with_reducible apply L3.aex);(·walk_at "ev");(·rfl))
 |((with_reducible apply L3.aiD);(·walk_at "ev");(·walk_at "ev");(·walk_at "ev");(·rfl);(·first|with_reducible assumption|rfl))
 |((with_reducible apply L3.afx);(·walk_at "ev"))
 |((with_reducible apply L3.vC);(·walk_at "ev");(·intro _;walk_at "ev"))
 |((with_reducible apply L3.Fb);(·walk_at "ev");(·intro _;walk_at "ev"))
 |((with_reducible apply L3.afH);(·walk_at "ev"))
 |((with_reducible apply L3.vi);(·walk_at "ev");(·intro _;walk_at "ev"))
 |((with_reducible apply L3.acD);(·walk_at "ev");(·intro _;walk_at "ev"))
 |((with_reducible apply L3.Il);(·walk_at "ev");(·rfl);(·first|with_reducible assumption|rfl))
 |((with_reducible apply L3.kI);(·walk_at "ev");(·rfl);(·rfl))
 |((with_reducible apply L3.ad2);(·walk_at "ev");(·rfl);(·rfl))
 |((with_reducible apply L3.v7);(·rfl);(·walk_at "ev");(·rfl);(·rfl);(·first|with_reducible assumption|(simp only[SM,Q0,L3.fQ] at*;omega));(·walk_at "nm"))
 |((with_reducible apply L3.agt);(·rfl);(·walk_at "ev");(·rfl);(·rfl);(·with_reducible assumption);(·with_reducible assumption);(·with_reducible assumption);(·walk_at "nm"))
 |((with_reducible apply L3.zl);(·walk_at "ev");(·rfl);(·walk_at "nm"))
 |((with_reducible apply L3.BU);(·walk_at "ev"))
 |((with_reducible apply L3.wo);(·walk_at "ev");(·rfl)))
local macro_rules| `(tactic|walk_at "evb")=> `(tactic|first
 |((with_reducible apply L3.ahn);(·walk_at "ev");(·walk_at "ev");(·rfl);(·rfl);(·walk_at "evf"))
 |((with_reducible apply L3.afA);(·walk_at "ev");(·rfl);(·rfl);(·with_reducible assumption))
 |((with_reducible apply L3.ahf);(·walk_at "ev");(·rfl);(·first|walk_at "evf"|rfl))
 |walk_at "ev")
local macro_rules| `(tactic|walk_at "ev")=> `(tactic|first
 |with_reducible assumption
 |((with_reducible apply L3.vi);(·walk_at "ev");(·intro _;walk_at "evb"))
 |((with_reducible apply L3.acD);(·walk_at "ev");(·intro _;walk_at "evb"))
 |((with_reducible apply L3.aeD);(·walk_at "ev");(·walk_at "ev");(·walk_at "ev");(·rfl);(·rfl);(·rfl);(·walk_at "evf");(·intro _;walk_at "evf"))
 |((with_reducible apply L3.u7);(·walk_at "ev");(·rfl);(·rfl);(·rfl)))
local macro_rules| `(tactic|walk_at "go")=> `(tactic|first
 |((with_reducible apply L3.eF);(·walk_at "ev");(·rfl);(·walk_at "nm");try walk_at "go")
 |((with_reducible apply L3.afC);(·walk_at "ev");try walk_at "go")
 |((with_reducible apply L3.GI);try walk_at "go")
 |((with_reducible apply L3.fW);try walk_at "go")
 |((with_reducible apply L3.iE);(·walk_at "ev");(·rfl))
 |((with_reducible apply L3.mz);(·walk_at "ev"))
 |((with_reducible apply L3.agc);(·walk_at "ev");(·rfl);(·walk_at "nm"))
 |((with_reducible apply L3.pH);(·walk_at "ev"))
 |((with_reducible apply L3.eY);(·walk_at "ev");(·rfl))
 |((with_reducible apply L3.Gr);(·walk_at "ev"))
 |(with_reducible apply L3.vd))
local macro_rules| `(tactic|walk_at "evp")=> `(tactic|((apply Eq.trans);(·walk_at "ev");(·rfl)))
local macro_rules| `(tactic|walk_at "sv")=> `(tactic|first
 |with_reducible assumption
 |((with_reducible apply L10.a9);rfl)
 |((with_reducible apply STP.ny);rfl)
 |((with_reducible apply STP.gF);rfl)
 |((with_reducible apply STP.bN);rfl)
 |((with_reducible apply STP.BX);rfl)
 |((with_reducible apply STP.uZ);rfl)
 |with_reducible exact L10.aM
 |((with_reducible apply L10.ao);(·walk_at "sv");(·walk_at "sv"))
 |((with_reducible apply L10.af);walk_at "ev")
 |((with_reducible apply L10.cr);walk_at "ev")
 |((with_reducible apply L10.cC);(·walk_at "sv");(·walk_at "sv");(·walk_at "evf"))
 |((with_reducible apply L10.cx);(·walk_at "sv");(·walk_at "sv");(·(with_reducible apply L10.b9);walk_at "evf"))
 |((with_reducible apply L10.aQ);walk_at "sv")
 |((with_reducible apply L10.kP);walk_at "sv"))
namespace STP
open PySem L2 L3
noncomputable def jG (c:Nat):Str:=⟨#[97+c]⟩
inductive Mn where
 |RJ (c:Nat)
 |T8 (n:Int)
 |W3 (c:Nat) (n:Int)
 |once (n:Int)
 |none
 |below
 deriving DecidableEq
noncomputable def mD:Mn->D
 | .RJ c=> .tuple [.str "letter",.str (jG c)]
 | .T8 n=> .tuple [.str "layer",.int n]
 | .W3 c n=> .tuple [.str "tap",.str (jG c),.int n]
 | .once n=> .tuple [.str "once",.int n]
 | .none=> .tuple [.str "none"]
 | .below=> .tuple [.str "below"]
def VM (L nL:Int):Mn->Prop
 | .RJ c=>c<26
 | .T8 n=>1<=n/\n<nL
 | .W3 c n=>c<26/\1<=n/\n<nL
 | .once n=>1<=n/\n<nL
 | .none=>True
 | .below=>L≠0
noncomputable def Mn.isL:Mn->Bool
 | .RJ _=>QG
 |_=>QN
structure Bd where
 n:Int
 ls:List (List Mn)
 cs:List (List Nat×Nat)
 wt:Int
noncomputable def jL (l:List Mn):D:= .tuple (l.map mD)
noncomputable def fK (c:List Nat×Nat):D:= .tuple [.tuple (bO c.1),.str (jG c.2)]
noncomputable def bD (b:Bd):D:= .tuple [.int b.n,.tuple (b.ls.map jL),.tuple (b.cs.map fK),.int b.wt]
def VL (n nL:Int) (ls:List (List Mn)):Prop:=∀(i:Nat) l,ls[i]? =QB l->(l.length:Int)=n/\∀m∈l,VM i nL m
noncomputable def Ds (l0:List Mn) (k:Nat):Bool:=(l0[k]?.map Mn.isL).getD QN
def VC (l0:List Mn) (c:List Nat×Nat):Prop:=2<=c.1.length/\c.1.Pairwise (·<·)/\(∀k∈c.1,Ds l0 k=QG)/\c.2<26
structure VB (b:Bd):Prop where
 n1:1<=b.n
 n5:b.n<=5
 l1:1<=b.ls.length
 l3:b.ls.length<=3
 vl:VL b.n b.ls.length b.ls
 c4:b.cs.length<=4
 vc:∀c∈b.cs,VC (b.ls.headD []) c
 cu:b.cs.Pairwise fun a c=>a.1≠c.1
 w1:1<=b.wt
 w4:b.wt<=4
noncomputable def wn:Mn->Nat
 | .RJ _=>0
 | .T8 _=>1
 | .W3 _ _=>2
 | .once _=>3
 | .none=>4
 | .below=>5
noncomputable def ws:Nat->Str
 |0=> "letter"
 |1=> "layer"
 |2=> "tap"
 |3=> "once"
 |4=> "none"
 |_=> "below"
noncomputable def wd (m:Mn):Str:=ws (wn m)
theorem tX (m:Mn):wn m<6:=by cases m<;>exact QO rfl
theorem tK (m:Mn):bA (mD m) (.int 0)=QB (.fz (.str (wd m))):=by cases m<;>exact iX
theorem KZ (m:Mn):QJ.strOk (wd m)=QG:=(by decide+kernel:∀i,i<6->QJ.strOk (ws i)=QG) _ (tX m)
theorem B6:∀i,i<6->∀j,j<6->(ws i==ws j)=decide (i=j):=by decide+kernel
theorem xK (m:Mn) (j:Nat) (a:j<6):dA (.str (wd m)) (.str (ws j))=QB (.fz (.bool (decide (wn m=j)))):=by rw[P4 (KZ m) ((by decide+kernel:∀i,i<6->QJ.strOk (ws i)=QG) j a)];unfold wd;rw[B6 _ (tX m) _ a]
noncomputable def Mn.isB:Mn->Bool
 | .below=>QG
 |_=>QN
noncomputable def Mn.aap:Mn->Bool
 | .T8 _=>QG
 |_=>QN
noncomputable def Mn.isT:Mn->Bool
 | .W3 _ _=>QG
 |_=>QN
noncomputable def Mn.isO:Mn->Bool
 | .once _=>QG
 |_=>QN
theorem kK (m:Mn):dA (.str (wd m)) (.str "letter")=QB (.fz (.bool m.isL)):=(xK m 0 (by decide)).trans (by cases m<;>rfl)
theorem Gc (m:Mn):dA (.str (wd m)) (.str "below")=QB (.fz (.bool m.isB)):=(xK m 5 (by decide)).trans (by cases m<;>rfl)
theorem FK (m:Mn):dA (.str (wd m)) (.str "layer")=QB (.fz (.bool m.aap)):=(xK m 1 (by decide)).trans (by cases m<;>rfl)
theorem M3 (m:Mn):dA (.str (wd m)) (.str "tap")=QB (.fz (.bool m.isT)):=(xK m 2 (by decide)).trans (by cases m<;>rfl)
theorem HG (m:Mn):dA (.str (wd m)) (.str "once")=QB (.fz (.bool m.isO)):=(xK m 3 (by decide)).trans (by cases m<;>rfl)
theorem Pd (m:Mn):ze (.str (wd m)) (.tuple [.str "layer",.str "once"])=QB (.fz (.bool (!(m.aap||m.isO)))):=by
 have h:∀a:Str,QJ.strOk a=QG->ze (.str a) (.tuple [.str "layer",.str "once"])=QB (.fz (.bool (!(("layer":Str)==a||("once":Str)==a)))):=fun a ha=>by show(if(lw (.str a)&&(QJ.strOk "layer"&&(QJ.strOk "once"&&QG)))=QG then QB (RV.fz (.bool (!(QJ.eqv (.str "layer") (.str a)||(QJ.eqv (.str "once") (.str a)||false))))) else QF)=_;rw[show lw (.str a)=QG by unfold lw;rw[show QJ.canLay0 (.str a)=QG from ha];rfl,show QJ.strOk "layer"=QG by decide+kernel,show QJ.strOk "once"=QG by decide+kernel,acu];rfl
 rw[h _ (KZ m)];unfold wd;rw[show(("layer":Str)==ws (wn m))=_ from B6 1 (by decide) _ (tX m),show(("once":Str)==ws (wn m))=_ from B6 3 (by decide) _ (tX m)];cases m<;>rfl
def LB:Mn->Prop
 | .RJ c=>c<26
 | .W3 c _=>c<26
 |_=>True
theorem VM.lb (h:VM L nL m):LB m:=by
 cases m with
 |RJ c=>exact h
 |W3 c n=>exact h.1
 |_=>trivial
theorem rY (h:c<26):QJ.strOk (jG c)=QG:=by show((#[97+c]:Array Nat).all fun c=>decide (c<0x110000))=QG;simp;omega
theorem Kp (h:jG c=jG d):c=d:=by
 have:(97+c)=97+d:=by have h2:=congrArg (fun z:Str=>z.cps.toList) h;exact List.head_eq_of_cons_eq h2
 omega
theorem FV (h:LB m):QJ.canLay0 (mD m)=QG:=by
 cases m with
 |RJ c=>show(QJ.strOk "letter"&&(QJ.strOk (jG c)&&QG))=QG;rw[rY h,show QJ.strOk "letter"=QG by decide+kernel];rfl
 |T8 n=>show(QJ.strOk "layer"&&(QG&&QG))=QG;decide+kernel
 |W3 c n=>show(QJ.strOk "tap"&&(QJ.strOk (jG c)&&(QG&&QG)))=QG;rw[rY h,show QJ.strOk "tap"=QG by decide+kernel];rfl
 |once n=>show(QJ.strOk "once"&&(QG&&QG))=QG;decide+kernel
 |none=>show(QJ.strOk "none"&&QG)=QG;decide+kernel
 |below=>show(QJ.strOk "below"&&QG)=QG;decide+kernel
theorem DA (h:LB m):lw (mD m)=QG:=by unfold lw;rw[FV h];cases m<;>rfl
noncomputable def mR:Mn->List D
 | .RJ c=>[.str (jG c)]
 | .T8 n=>[.int n]
 | .W3 c n=>[.str (jG c),.int n]
 | .once n=>[.int n]
 | .none=>[]
 | .below=>[]
theorem KK (m:Mn):mD m= .tuple (.str (wd m)::mR m):=by cases m<;>rfl
theorem Ov (a b:Mn):decide (wd a=wd b)=decide (wn a=wn b):=by have h:=B6 _ (tX a) _ (tX b);unfold wd;rw[<-h];rfl
theorem Aw (c d:Nat):decide (jG c=jG d)=decide (c=d):=decide_eq_decide.mpr ⟨Kp,fun h=>by rw[h]⟩
theorem Nd (a b:Mn) (h:wn a=wn b):QJ.eqvAll (mR a) (mR b)=decide (a=b):=by
 cases a<;>cases b<;>first|cases h|skip
 ·show(decide (jG _=jG _)&&QG)=_;rw[Aw,WJ];exact decide_eq_decide.mpr ⟨fun h=>by rw[h],fun h=>by cases h;rfl⟩
 ·show(decide (_=_)&&QG)=_;rw[WJ];exact decide_eq_decide.mpr ⟨fun h=>by rw[h],fun h=>by cases h;rfl⟩
 ·show(decide (jG _=jG _)&&(decide (_=_)&&QG))=_;rw[Aw,WJ,<-Bool.decide_and];exact decide_eq_decide.mpr ⟨fun h=>by rw[h.1,h.2],fun h=>by cases h;exact⟨rfl,rfl⟩⟩
 ·show(decide (_=_)&&QG)=_;rw[WJ];exact decide_eq_decide.mpr ⟨fun h=>by rw[h],fun h=>by cases h;rfl⟩
 ·rfl
 ·rfl
theorem LY (a b:Mn):QJ.eqv (mD a) (mD b)=decide (a=b):=by
 rw[KK,KK];show(decide (wd a=wd b)&&QJ.eqvAll (mR a) (mR b))=_;rw[Ov];by_cases h:wn a=wn b
 ·rw[decide_eq_true h,Vr,Nd a b h]
 ·rw[decide_eq_false h,Va,decide_eq_false fun z=>h (by rw[z])]
theorem Bw:∀{l:List Mn},(∀m∈l,LB m)->QJ.canLayAll0 (l.map mD)=QG
 |[],_=>rfl
 |m::r,h=>by show(QJ.canLay0 (mD m)&&QJ.canLayAll0 (r.map mD))=QG;rw[FV (h m Q8),Bw fun x a=>h x (Q4 _ a)];rfl
theorem BZ (a:Mn):∀l:List Mn,((l.map mD).any fun e=>QJ.eqv e (mD a))=decide (a∈l)
 |[]=>rfl
 |m::r=>by rw[QY,UM,BZ a r,LY,<-Bool.decide_or];exact decide_eq_decide.mpr (by rw[Rk];exact⟨fun h=>h.imp (fun z=>z.symm) id,fun h=>h.imp (fun z=>z.symm) id⟩)
theorem JS {l:List Mn} (ha:LB a) (b:∀m∈l,LB m):JP (mD a) (.list (l.map mD))=QB (.fz (.bool (decide (a∈l)))):=by show(if(lw (mD a)&&QJ.canLayAll0 (l.map mD))=QG then _ else _)=_;rw[DA ha,Bw b,TK,if_pos rfl,BZ]
theorem BV (e:α->D) (g:α->Option D) (I:a8->Prop) (xs:List α) (m:I ρ) (i:xs.length<=1000) (b:∀x∈xs,∀ρ,I ρ->∃ρ',jO gt ft fe (e x) ρ= .ok (g x,ρ')/\I ρ'):ku (dm gt ft fe (xs.map e) ρ [])= .ok (xs.filterMap g):=by
 have h:∀(xs:List α) (a:List D) (ρ:a8),I ρ->a.length+xs.length<=1000->(∀x∈xs,∀ρ,I ρ->∃ρ',jO gt ft fe (e x) ρ= .ok (g x,ρ')/\I ρ')->dm gt ft fe (xs.map e) ρ a= .ok (a++xs.filterMap g):=by
  intro xs
  induction xs with
  |nil=>intro a ρ _ _ _;show Res.ok a=_;rw[List.filterMap_nil,Rf]
  |cons x r ih=>
   intro a ρ l i b;rw[Q0] at i;obtain⟨ρ',h1,h2⟩:=b x Q8 ρ l;rw[QY,qz h1 (by omega)];have f:(a++(g x).toList).length+r.length<=1000:=by
    rw[QM];cases g x with
    |none=>rw[ZW,SM];omega
    |some y=>rw[Option.toList_some,V8];omega
   rw[ih _ ρ' h2 f fun y j=>b y (Q4 _ j),Rj];cases q:g x with
   |none=>rw[YH q];rfl
   |some y=>rw[YI q];rfl
 rw[h xs [] ρ m (by simpa using i) b];rfl
theorem Am (a:de cp=cp):de (QB (PV.fz d)::cp)=QB (.fz d)::cp:=by show FW _::de cp=_;rw[a];rfl
theorem vv {α:Type} {ft:FT} {fe:FE} {cp:a8} (e f:α->D) (p:α->Bool) (xs:List α) (h:xs.length<=1000) (j:de cp=cp) (g:∀x∈xs,ft (QB (.fz (e x))::cp)= .ok (p x,QB (.fz (e x))::cp)) (i:∀x∈xs,p x=QG->fe (QB (.fz (e x))::cp)= .ok (.fz (f x),QB (.fz (e x))::cp)):ku (dm (gN 0) ft fe (xs.map e) (QF::cp) [])= .ok ((xs.filter p).map f):=by
 rw[BV e (fun x=>if p x=QG then QB (f x) else QF) (fun ρ=>∃o,ρ=o::cp) xs ⟨QF,rfl⟩ h ?_]
 ·congr 1
  clear h g i
  induction xs with
  |nil=>rfl
  |cons x r ih=>
   cases q:p x with
   |true=>rw[YI (b:=f x) (by rw[if_pos q]),List.filter_cons_of_pos q,ih];rfl
   |false=>rw[YH (by rw[if_neg (by rw[q];simp)]),List.filter_cons_of_neg (by rw[q];simp),ih]
 ·rintro x a ρ ⟨o,rfl⟩
  cases q:p x with
  |true=>exact⟨_,Ij rfl ((g x a).trans (by rw[q])) (i x a q) rfl (Am j),_,rfl⟩
  |false=>exact⟨_,Od rfl ((g x a).trans (by rw[q])) (Am j),_,rfl⟩
theorem Aa (xs:List α):xs.filter (fun _=>QG)=xs:=List.filter_eq_self.mpr fun _ _=>rfl
theorem jt {α:Type} (e f:α->D) (xs:List α) (b:xs.length<=1000) (h:de cp=cp) (g:∀x∈xs,fe (QB (.fz (e x))::cp)= .ok (.fz (f x),QB (.fz (e x))::cp)):ku (dm (gN 0) dr fe (xs.map e) (QF::cp) [])= .ok (xs.map f):=by rw[vv e f (fun _=>QG) xs b h (fun _ _=>rfl) fun x a _=>g x a,Aa]
theorem kz (p:α->Bool):∀l:List α,oS (l.map fun c=>QJ.bool (p c))=QB (l.map p)
 |[]=>rfl
 |c::r=>by show(oS (r.map fun c=>QJ.bool (p c))).map (p c::·)=_;rw[kz p r];rfl
theorem mS (p:α->Bool) (l:List α):qY [.list (l.map fun c=>QJ.bool (p c))]=QB (.fz (.bool (l.all p))):=by show(oS _).map (fun bs=>RV.fz (.bool (bs.all id)))=_;rw[kz];show QB (RV.fz (.bool _))=_;rw[adh];rfl
theorem qX:∀ns:List Int,nc (ns.map QJ.int)=QB ns
 |[]=>rfl
 |n::r=>by show(nc (r.map QJ.int)).map (n::·)=_;rw[qX r];rfl
abbrev Ac:=Nat->Option Mn
abbrev Wq:=Option (List Nat×Int×Option (Nat×Int))
structure T3 where
 ac:Ac
 wt:Wq
 oc:Option Int
noncomputable def gO (ac:Ac):List (Nat×Mn):=(Q2 5).filterMap fun k=>(ac k).map fun a=>(k,a)
noncomputable def pD (p:Nat×Mn):D:= .tuple [nd p.1,mD p.2]
noncomputable def tj:Option (Nat×Int)->D
 |some (c,n)=>mD (.W3 c n)
 |none=> .tuple [.str "chord"]
noncomputable def jj:Wq->D
 |some (ks,a,w)=> .tuple [.tuple (bO ks),.int a,tj w]
 |none=> .none
noncomputable def sN:Option Int->D
 |some o=> .int o
 |none=> .none
noncomputable def cz (s:T3):D:= .tuple [.tuple ((gO s.ac).map pD),jj s.wt,sN s.oc]
inductive VN where
 |down (k:Nat)
 |up (k:Nat)
 |turn
noncomputable def cH:VN->D
 | .down k=> .tuple [.str "down",nd k]
 | .up k=> .tuple [.str "up",nd k]
 | .turn=> .tuple [.str "turn",.int 0]
theorem kN:p∈gO ac↔p.1<5/\ac p.1=QB p.2:=by
 unfold gO;rw[Vb];constructor
 ·rintro⟨k,h1,h2⟩
  cases q:ac k with
  |none=>rw[q] at h2;cases h2
  |some a=>rw[q] at h2;cases h2;exact⟨Tq.mp h1,q⟩
 ·rintro⟨h1,h2⟩;exact⟨p.1,Tq.mpr h1,by rw[h2];rfl⟩
theorem wl (ac:Ac):(gO ac).length<=5:=List.length_filterMap_le _ _
noncomputable def Ml:Nat×Mn->Option Int
 |(_,.T8 n)=>QB n
 |_=>QF
noncomputable def w9 (ac:Ac):Int:=(((gO ac).filterMap Ml).foldl kY QF).getD 0
noncomputable def t7 (ac:Ac):Option Int->Int
 |some o=>o
 |none=>w9 ac
theorem Gy (ac:Ac):ku (dm (gT 2 (N7 (gN 0) (N7 (gN 1) Pp))) (aU (aR dA (aR bA (ad 1) (pC (.int 0))) (pC (.str "layer")))) (aR bA (ad 1) (pC (.int 1))) ((gO ac).map pD) [QF,QF] [])= .ok (((gO ac).filterMap Ml).map .int):=by
 rw[BV pD (fun p=>(Ml p).map .int) (fun ρ=>∃e b,ρ=[e,b]) (gO ac) ⟨QF,QF,rfl⟩ (Rx (wl ac) (by decide)) ?_,List.map_filterMap];rintro⟨k,a⟩ _ ρ ⟨e,b,rfl⟩;have h:=tK a;have g:=FK a;have f:aU (aR dA (aR bA (ad 1) (pC (.int 0))) (pC (.str "layer"))) [QB (.fz (nd k)),QB (.fz (mD a))]= .ok (a.aap,[QB (.fz (nd k)),QB (.fz (mD a))]):=by walk_at "ev"
 refine⟨[QB (.fz (nd k)),QB (.fz (mD a))],?_,_,_,rfl⟩;cases a with
 |T8 n=>exact Ij rfl f (aW (ah rfl) aH rfl rfl lL) rfl rfl
 |_=>exact Od rfl f rfl
theorem xE (s:T3):dk [cz s]= .ok (.fz (.int (t7 s.ac s.oc))):=by
 refine iA rfl ?_;have a:bA (cz s) (.int 2)=QB (.fz (sN s.oc)):=sY;have e0:bA (cz s) (.int 0)=QB (.fz (.tuple ((gO s.ac).map pD))):=iX;unfold lQ;cases q:s.oc with
 |some o=>
  rw[q] at a;have b:ri (sN (QB o)) .none=QB (.fz (.bool QG)):=rfl;walk_at "go"
  ·intro _;exact iE (by walk_at "ev") rfl rfl
  ·intro h;cases h
 |none=>
  rw[q] at a;have b:ri (sN QF) .none=QB (.fz (.bool QN)):=rfl;walk_at "go"
  ·intro h;cases h
  ·intro _;refine fW (eY (eR (rv:= .fz (.int (w9 s.ac))) (ai (eB (by walk_at "ev") rfl (Gy s.ac)) aI) rfl ?_) rfl rfl);show(nc _).map _=_;rw[qX];rfl
noncomputable def tm (b:Bd) (L k:Nat):Mn:=((b.ls[L]?.getD [])[k]?).getD .none
noncomputable def look (b:Bd) (L:Int) (k:Nat):Mn:=if(tm b L.toNat k).isB=QG then tm b 0 k else tm b L.toNat k
section
variable {b:Bd} (vb:VB b)
include vb
theorem KL {L k:Nat} (a:L<b.ls.length) (e:(k:Int)<b.n):∃l,b.ls[L]? =QB l/\l[k]? =QB (tm b L k):=by
 have h1:=vb.vl L _ (QR a);have h2:k<(b.ls[L]).length:=by omega
 refine⟨_,QR a,?_⟩;unfold tm;rw[QR a,Xj,QR h2];rfl
theorem zT {L k:Nat} (e:L<b.ls.length) (a:(k:Int)<b.n):VM L b.ls.length (tm b L k):=by obtain⟨l,h1,h2⟩:=KL vb e a;exact(vb.vl L l h1).2 _ (RD h2)
theorem FZ {L k:Nat} (e:L<b.ls.length) (a:(k:Int)<b.n):∃d,bA (.tuple (b.ls.map jL)) (nd L)=QB (.fz d)/\bA d (nd k)=QB (.fz (mD (tm b L k))):=by obtain⟨l,h1,h2⟩:=KL vb e a;exact⟨jL l,LO (by rw[QT,h1];rfl),LO (by rw[QT,h2];rfl)⟩
theorem Iw {L:Int} {k:Nat} (r:0<=L) (p:L<b.ls.length) (e:(k:Int)<b.n):ic [bD b,.int L,nd k]= .ok (.fz (mD (look b L k))):=by
 obtain⟨n,rfl⟩:∃n:Nat,L=(n:Int):=⟨L.toNat,by omega⟩;have o:=vb.l1;obtain⟨d,u,j⟩:=FZ vb (L:=n) (by omega) e;obtain⟨l,i,h⟩:=FZ vb (L:=0) (by omega) e;have v:bA (bD b) (.int 1)=QB (.fz (.tuple (b.ls.map jL))):=lL;have g:=tK (tm b n k);have f:=Gc (tm b n k);have t:bA (.tuple (b.ls.map jL)) (.int 0)=QB (.fz l):=i;have a:look b (n:Int) k=if(tm b n k).isB=QG then tm b 0 k else tm b n k:=rfl
 rw[a];generalize tm b n k=m at j g f a;generalize tm b 0 k=m0 at h a;refine iA rfl ?_;unfold ke;walk_at "go"
 ·intro q;rw[if_pos q];exact iE (by walk_at "ev") rfl rfl
 ·intro q;rw[if_neg (by rw[q];simp)];exact fW (eY (by walk_at "ev") rfl rfl)
theorem Ao {L:Int} {k:Nat} (f:0<=L) (h:L<b.ls.length) (e:(k:Int)<b.n):VM L b.ls.length (look b L k)/\look b L k≠ .below:=by
 have g:=vb.l1;have a:=zT vb (L:=0) (k:=k) (by omega) e;have v:=zT vb (L:=L.toNat) (k:=k) (by omega) e;have n0:tm b 0 k≠ .below:=fun z=>by rw[z] at a;exact a rfl
 rw[WH f] at v;unfold look;split
 ·refine⟨?_,n0⟩
  generalize tm b 0 k=m at a n0;cases m with
  |below=>exact absurd rfl n0
  |_=>exact a
 ·rename_i q;refine⟨v,fun z=> ?_⟩;rw[z] at q;exact q rfl
omit vb in
theorem Fr (ks:List Nat) (a:ks.length<=5) (c:List Nat×Nat):aU (gy qY (aa (dZ 1 [0] (ib (ad 1)) (gN 0) dr (aR JP (ad 0) (aR bA (ad 1) (pC (.int 0))))) au)) [QB (.fz (fK c)),QB (.fz (.tuple (bO ks)))]= .ok (ks.all fun k=>decide (k∈c.1),[QB (.fz (fK c)),QB (.fz (.tuple (bO ks)))]):=by
 have e:ku (dm (gN 0) dr (aR JP (ad 0) (aR bA (ad 1) (pC (.int 0)))) (bO ks) [QF,QB (.fz (fK c))] [])= .ok (ks.map fun k=> .bool (decide (k∈c.1))):=jt nd (fun k=> .bool (decide (k∈c.1))) ks (by omega) rfl fun k _=>by have e0:bA (fK c) (.int 0)=QB (.fz (.tuple (bO c.1))):=iX;exact aW (rv:= .fz (.bool (decide (k∈c.1)))) (ah rfl) (by walk_at "ev") rfl rfl (ww _ _)
 exact cF (eR (rv:= .fz (.bool (ks.all fun k=>decide (k∈c.1)))) (ds:=[.list (ks.map fun k=> .bool (decide (k∈c.1)))]) (ai (eB (cs:=[fK c]) (ds:=bO ks) (by walk_at "ev") rfl e) aI) rfl (mS _ _)) rfl
noncomputable def fx (b:Bd) (ks:List Nat):List (List Nat×Nat):=b.cs.filter fun c=>ks.all fun k=>decide (k∈c.1)
theorem Cd (a:ks.length<=5):bE [bD b,.tuple (bO ks)]= .ok (.ow ((fx b ks).map fK)):=by have f:bA (bD b) (.int 2)=QB (.fz (.tuple (b.cs.map fK))):=sY;have e:=vb.c4;refine iA rfl ?_;unfold iJ;exact eY (eB (cs:=[.tuple (bO ks)]) (by walk_at "ev") rfl (vv fK fK (fun c=>ks.all fun k=>decide (k∈c.1)) b.cs (by omega) rfl (fun c _=>Fr ks a c) fun c _ _=>ah rfl)) rfl rfl
noncomputable def oW (ks:List Nat):List Nat:=(jS (ks.map XH)).map Zc
omit vb in
theorem rl (ks:List Nat):(oW ks).Perm ks:=by have h:=(eK (ks.map XH)).map Zc;rw[RI] at h;exact h.trans (by rw[show(Zc∘XH)=id from funext fun x=>rfl,List.map_id])
omit vb in
theorem Jk (ks:List Nat):(jS (ks.map XH)).map QJ.int=bO (oW ks):=by unfold oW bO;rw[RI];refine U0 fun x a=> ?_;obtain⟨n,_,rfl⟩:=R0.mp ((eK _).mem_iff.mp a);rfl
omit vb in
theorem yM (ks:List Nat):(oW ks).Pairwise (·<=·):=by
 have h:∀l:List Int,l.Pairwise (·<=·)->(l.map Zc).Pairwise (·<=·):=fun l h=>by rw[Vl];exact h.imp fun h=>by omega
 exact h _ (dX _)
omit vb in
theorem Ix (ks:List Nat):(oW ks).length=ks.length:=(rl ks).length_eq
omit vb in
theorem wD {ks:List Nat} (h:ks.length<64):L9.gK [.tuple (bO ks)]=QB (.ow (bO (oW ks))):=by
 have e:bO ks=(ks.map XH).map QJ.int:=by rw[RI];rfl
 show(match nc (bO ks) with
  |some ns=>if ns.length<64 then QB (RV.ow ((jS ns).map .int)) else QF
  |none=>QF)=_
 rw[e,qX];dsimp only;rw[if_pos (by rw[QH];exact h),Jk]
noncomputable def Oa (b:Bd) (ks:List Nat):List Mn:=match b.cs.find? fun c=>decide (c.1=oW ks) with
 |some c=> .RJ c.2::QP (ks.length - 1) .none
 |none=>ks.map (tm b 0)
omit vb in
omit vb in
theorem Oq (n:Nat) (d:D):(QP n [d]).flatten=QP n d:=by
 induction n with
 |zero=>rfl
 |succ n ih=>rw[RZ,Tb,ih];rfl
theorem Ms {ks:List Nat} (h1:1<=ks.length) (v:ks.length<=5) (p:∀k∈ks,(k:Int)<b.n):eV [bD b,.tuple (bO ks)]= .ok (.ow ((Oa b ks).map mD)):=by
 have w:bA (bD b) (.int 2)=QB (.fz (.tuple (b.cs.map fK))):=sY;have y:bA (bD b) (.int 1)=QB (.fz (.tuple (b.ls.map jL))):=lL;have u:=vb.l1;have f:=wD (ks:=ks) (by omega);refine iA rfl ?_;unfold je;have rt:∀c:List Nat×Nat,(aR dB (cZ (aa (b7 (aa (pC (.str "letter")) (aa (aR bA (ad 2) (pC (.int 1))) au))) au)) (aR gU (cZ (aa (pC (.tuple [(.str "none")])) au)) (aR sD (gy dS (aa (ad 1) au)) (pC (.int 1))))) [QB (.fz (bD b)),QB (.fz (.tuple (bO ks))),QB (.fz (fK c))]= .ok (.ow ((Mn.RJ c.2::QP (ks.length - 1) Mn.none).map mD),[QB (.fz (bD b)),QB (.fz (.tuple (bO ks))),QB (.fz (fK c))]):=fun c=>by
  have q1:bA (fK c) (.int 1)=QB (.fz (.str (jG c.2))):=lL;have g:gU (.list [.tuple [.str "none"]]) (.int (((bO ks).length:Int) - 1))=QB (.ow (QP (ks.length - 1) (.tuple [.str "none"]))):=by rw[fQ,show((ks.length:Int) - 1)=((ks.length - 1:Nat):Int) by omega];exact(MS (by omega) (by decide)).trans (by rw[Oq])
  have m:dB (.list [mD (.RJ c.2)]) (.list (QP (ks.length - 1) (.tuple [.str "none"])))=QB (.ow ((Mn.RJ c.2::QP (ks.length - 1) Mn.none).map mD)):=by show(if 1+(QP (ks.length - 1) (QJ.tuple [.str "none"])).length<=1000000 then QB (RV.ow ([mD (.RJ c.2)]++QP (ks.length - 1) (QJ.tuple [.str "none"]))) else QF)=_;rw[Rt,if_pos (by omega),QY,List.map_replicate];rfl
  exact aW (by walk_at "ev") (aW (by walk_at "ev") (aW (by walk_at "ev") aH rfl rfl (oa _ _)) rfl rfl g) rfl rfl m
 have e:∀(cs:List (List Nat×Nat)) (o:Option PV),(∀c,cs.find? (fun c=>decide (c.1=oW ks))=QB c->o0 (gN 2) (mM (aU (aR dA (gy vx (aa (aR bA (ad 2) (pC (.int 0))) au)) (gy L9.gK (aa (ad 1) au)))) (dW (aR dB (cZ (aa (b7 (aa (pC (.str "letter")) (aa (aR bA (ad 2) (pC (.int 1))) au))) au)) (aR gU (cZ (aa (pC (.tuple [(.str "none")])) au)) (aR sD (gy dS (aa (ad 1) au)) (pC (.int 1)))))) eO) (cs.map fK) [QB (.fz (bD b)),QB (.fz (.tuple (bO ks))),o]= .ok (.rt (.ow ((Mn.RJ c.2::QP (ks.length - 1) Mn.none).map mD))))/\
   (cs.find? (fun c=>decide (c.1=oW ks))=QF->∃o',o0 (gN 2) (mM (aU (aR dA (gy vx (aa (aR bA (ad 2) (pC (.int 0))) au)) (gy L9.gK (aa (ad 1) au)))) (dW (aR dB (cZ (aa (b7 (aa (pC (.str "letter")) (aa (aR bA (ad 2) (pC (.int 1))) au))) au)) (aR gU (cZ (aa (pC (.tuple [(.str "none")])) au)) (aR sD (gy dS (aa (ad 1) au)) (pC (.int 1)))))) eO) (cs.map fK) [QB (.fz (bD b)),QB (.fz (.tuple (bO ks))),o]= .ok (.nx [QB (.fz (bD b)),QB (.fz (.tuple (bO ks))),o'])):=by
  intro cs
  induction cs with
  |nil=>exact fun o=>⟨fun c h=>(by cases h),fun _=>⟨o,rfl⟩⟩
  |cons c r ih=>
   intro o;have t:bA (fK c) (.int 0)=QB (.fz (.tuple (bO c.1))):=iX
   have a:aU (aR dA (gy vx (aa (aR bA (ad 2) (pC (.int 0))) au)) (gy L9.gK (aa (ad 1) au))) [QB (.fz (bD b)),QB (.fz (.tuple (bO ks))),QB (.fz (fK c))]= .ok (decide (c.1=oW ks),[QB (.fz (bD b)),QB (.fz (.tuple (bO ks))),QB (.fz (fK c))]):=
    cF (aW (eR (by walk_at "ev") rfl rfl) (eR (by walk_at "ev") rfl f) rfl rfl (we _ _)) rfl
   rw[RB];by_cases h:c.1=oW ks
   ·rw[decide_eq_true h] at a⊢;refine⟨fun z l=> ?_,fun l=>(by cases l)⟩;cases l;show((gN 2 (.fz (fK c)) [QB (.fz (bD b)),QB (.fz (.tuple (bO ks))),o]).bind fun ρ1=>_)=_;rw[GL,Res.bind_ok];show((mM _ _ _ [QB (.fz (bD b)),QB (.fz (.tuple (bO ks))),QB (.fz (fK c))]).bind _)=_;rw[PO a,wo (rt c) rfl];rfl
   ·rw[decide_eq_false h] at a⊢
    have st:o0 (gN 2) (mM (aU (aR dA (gy vx (aa (aR bA (ad 2) (pC (.int 0))) au)) (gy L9.gK (aa (ad 1) au)))) (dW (aR dB (cZ (aa (b7 (aa (pC (.str "letter")) (aa (aR bA (ad 2) (pC (.int 1))) au))) au)) (aR gU (cZ (aa (pC (.tuple [(.str "none")])) au)) (aR sD (gy dS (aa (ad 1) au)) (pC (.int 1)))))) eO) ((c::r).map fK) [QB (.fz (bD b)),QB (.fz (.tuple (bO ks))),o]=o0 (gN 2) (mM (aU (aR dA (gy vx (aa (aR bA (ad 2) (pC (.int 0))) au)) (gy L9.gK (aa (ad 1) au)))) (dW (aR dB (cZ (aa (b7 (aa (pC (.str "letter")) (aa (aR bA (ad 2) (pC (.int 1))) au))) au)) (aR gU (cZ (aa (pC (.tuple [(.str "none")])) au)) (aR sD (gy dS (aa (ad 1) au)) (pC (.int 1)))))) eO) (r.map fK) [QB (.fz (bD b)),QB (.fz (.tuple (bO ks))),QB (.fz (fK c))]:=by show((gN 2 (.fz (fK c)) [QB (.fz (bD b)),QB (.fz (.tuple (bO ks))),o]).bind fun ρ1=>_)=_;rw[GL,Res.bind_ok];show((mM _ _ _ [QB (.fz (bD b)),QB (.fz (.tuple (bO ks))),QB (.fz (fK c))]).bind _)=_;rw[Qb a];rfl
    rw[st];exact ih _
 obtain⟨l1,i⟩:=e b.cs QF;have fo:ib (aR bA (ad 0) (pC (.int 2))) [QB (.fz (bD b)),QB (.fz (.tuple (bO ks))),QF]= .ok (b.cs.map fK,[QB (.fz (bD b)),QB (.fz (.tuple (bO ks))),QF]):=by walk_at "ev"
 unfold Oa;cases q:b.cs.find? fun c=>decide (c.1=oW ks) with
 |some c=>exact .eq (Ef ((zJ fo).trans (l1 c q))) ⟨rfl⟩
 |none=>obtain⟨o',i⟩:=i q;refine .eq (Gm ((zJ fo).trans i)) ?_;refine eY (eB (by walk_at "ev") rfl ?_) rfl rfl;rw[RI];refine jt nd (mD∘tm b 0) ks (by omega) rfl fun k j=> ?_;obtain⟨d,q1,g⟩:=FZ vb (L:=0) (by omega) (p k j);have q1:bA (.tuple (b.ls.map jL)) (.int 0)=QB (.fz d):=q1;exact aW (by walk_at "ev") (ah rfl) rfl rfl g
end
end STP
namespace STP
open PySem L2 L3
open L10
noncomputable def jK (p:Nat×Mn):cD×SV:=(.inl (p.1:Int),.fz (mD p.2))
noncomputable def lV (ac:Ac) (k:Nat) (o:Option Mn):Ac:=fun j=>if j=k then o else ac j
theorem d8:lV ac k o k=o:=by unfold lV;rw[if_pos rfl]
theorem gq (h:j≠k):lV ac k o j=ac j:=by unfold lV;rw[if_neg h]
theorem E4 (ac:Ac):(gO ac).Pairwise fun p q=>p.1<q.1:=by
 unfold gO;refine adY _ (fun a f h p hp q b=> ?_) (Zd);cases e:ac a with
 |none=>rw[e] at hp;cases hp
 |some x=>
  cases e':ac f with
  |none=>rw[e'] at b;cases b
  |some y=>rw[e] at hp;rw[e'] at b;cases hp;cases b;exact h
theorem rC (ac:Ac):((gO ac).map (·.1)).Nodup:=by rw[Sb,Vl];exact(E4 ac).imp fun h=>Ra h
theorem A8 {l:List (Nat×Mn)} (h:(l.map (·.1)).Nodup):l.Nodup:=by rw[Sb,Vl] at h;exact h.imp fun h e=>h (by rw[e])
theorem rK {l:List (Nat×Mn)} (h:(l.map (·.1)).Nodup) (hm:∀p,p∈l↔p.1<5/\ac p.1=QB p.2):l.Perm (gO ac):=
 (List.perm_ext_iff_of_nodup (A8 h) (A8 (rC ac))).mpr fun p=>(hm p).trans kN.symm
section
variable {ps:List (Nat×Mn)} {ac:Ac} (hp:ps.Perm (gO ac))
include hp
theorem km:p∈ps↔p.1<5/\ac p.1=QB p.2:=hp.mem_iff.trans kN
theorem D7:(ps.map (·.1)).Nodup:=(hp.map (·.1)).nodup_iff.mpr (rC ac)
theorem Fj:ps.length<=5:=by rw[hp.length_eq];exact wl ac
theorem mn {k:Nat} (f:k<5):ji (ps.map jK) (.inl (k:Int))=(ac k).map fun a=>SV.fz (mD a):=by
 unfold ji;cases q:(ps.map jK).find? fun b=>decide (b.1=(.inl (k:Int):cD)) with
 |none=>
  cases e:ac k with
  |none=>rfl
  |some a=>have:=List.find?_eq_none.mp q (jK (k,a)) (R0.mpr ⟨(k,a),(km hp).mpr ⟨f,e⟩,rfl⟩);exact absurd (decide_eq_true rfl) this
 |some b=>
  obtain⟨p,h1,rfl⟩:=R0.mp (Yk q);have h2:=of_decide_eq_true (List.find?_some (p:=fun b:cD×SV=>decide (b.1=(.inl (k:Int):cD))) q);have g:p.1=k:=by have:=Sum.inl.inj h2;omega
  rw[<-g,((km hp).mp h1).2];rfl
theorem JL {k:Nat} (m:k<5):∃qs:List (Nat×Mn),jB (ps.map jK) (.inl (k:Int)) (.fz (mD a))=qs.map jK/\qs.Perm (gO (lV ac k (QB a))):=by
 unfold jB;have b:∀p:Nat×Mn,((jK p).1=(.inl (k:Int):cD))↔p.1=k:=fun p=>⟨fun h=>by have:=Sum.inl.inj h;omega,fun h=>by rw[<-h];rfl⟩;split
 ·rename_i h
  refine⟨ps.map fun p=>if p.1=k then(k,a) else p,?_,rK ?_ fun p=> ?_⟩
  ·rw[RI,RI]
   refine U0 fun p _=> ?_;show(if(jK p).1=(.inl (k:Int):cD) then((jK p).1,SV.fz (mD a)) else jK p)=jK (if p.1=k then(k,a) else p);by_cases e:p.1=k
   ·rw[if_pos ((b p).mpr e),if_pos e,(b p).mpr e];rfl
   ·rw[if_neg (fun z=>e ((b p).mp z)),if_neg e]
  ·rw[RI,show ps.map ((·.1)∘fun p:Nat×Mn=>if p.1=k then(k,a) else p)=ps.map (·.1) from U0 fun p _=>by
    show(if p.1=k then(k,a) else p).1=p.1;split
    ·rename_i e;exact e.symm
    ·rfl]
   exact D7 hp
  ·obtain⟨u,i,g⟩:=Xx.mp h
   obtain⟨l,t,rfl⟩:=R0.mp i;have h1:=(b l).mp (of_decide_eq_true g);rw[R0];constructor
   ·rintro⟨r,q,rfl⟩
    split
    ·exact⟨m,d8⟩
    ·rename_i e;have:=(km hp).mp q;exact⟨this.1,by rw[gq e];exact this.2⟩
   ·rintro⟨h2,f⟩
    by_cases e:p.1=k
    ·rw[e,d8] at f;refine⟨l,t,?_⟩;rw[if_pos h1,<-e,QX f]
    ·rw[gq e] at f;exact⟨p,(km hp).mpr ⟨h2,f⟩,by rw[if_neg e]⟩
 ·rename_i h
  have hn:=fun p j e=>h (Xx.mpr ⟨jK p,R0.mpr ⟨p,j,rfl⟩,decide_eq_true ((b p).mpr e)⟩);refine⟨ps++[(k,a)],by rw[Q3];rfl,rK ?_ fun p=> ?_⟩
  ·rw[Q3,Vm];refine⟨D7 hp,SK.mpr ⟨SG,Wk⟩,fun x o y n=> ?_⟩;obtain⟨p,h1,rfl⟩:=R0.mp o;rw[Ri.mp n];exact hn p h1
  ·rw[R9,Ri]
   constructor
   ·rintro(h1|rfl)
    ·have:=(km hp).mp h1;exact⟨this.1,by rw[gq (hn p h1)];exact this.2⟩
    ·exact⟨m,d8⟩
   ·rintro⟨h1,h2⟩
    by_cases e:p.1=k
    ·rw[e,d8] at h2;exact .inr (by rw[<-e,QX h2])
    ·rw[gq e] at h2;exact .inl ((km hp).mpr ⟨h1,h2⟩)
theorem Fz {k:Nat}:∃qs:List (Nat×Mn),lX (ps.map jK) (.inl (k:Int))=qs.map jK/\qs.Perm (gO (lV ac k QF)):=by
 have b:∀p:Nat×Mn,((jK p).1=(.inl (k:Int):cD))↔p.1=k:=fun p=>⟨fun h=>by have:=Sum.inl.inj h;omega,fun h=>by rw[<-h];rfl⟩;refine⟨ps.filter fun p=>decide (p.1≠k),?_,rK ?_ fun p=> ?_⟩
 ·unfold lX;rw[List.filter_map];congr 1;refine List.filter_congr fun p _=> ?_;exact decide_eq_decide.mpr (not_congr (b p))
 ·exact ahX ((List.filter_sublist).map _) (D7 hp)
 ·rw[TF,km hp,decide_eq_true_eq]
  constructor
  ·rintro⟨⟨h1,h2⟩,a⟩;exact⟨h1,by rw[gq a];exact h2⟩
  ·rintro⟨h1,h2⟩
   by_cases e:p.1=k
   ·rw[e,d8] at h2;cases h2
   ·rw[gq e] at h2;exact⟨⟨h1,h2⟩,e⟩
theorem GG:aJ Ad ((ps.map jK).map (·.1))=QB (ps.map fun p=>(p.1:Int)):=by
 clear hp
 induction ps with
 |nil=>rfl
 |cons p r ih=>rw[QY,QY];unfold aJ;rw[ih];rfl
theorem EB:jS (ps.map fun p=>(p.1:Int))=(gO ac).map fun p=>(p.1:Int):=by refine kX ((eK _).trans (hp.map _)) (dX _) ?_;rw[Vl];exact(E4 ac).imp fun h=>by omega
end
abbrev Sn:=List (Nat×Bool)
noncomputable def oZ (ac:Ac) (a:Mn):Bool:=decide (a∈(gO ac).map (·.2))
noncomputable def sC (ac:Ac):Mn->Sn
 | .RJ c=>if oZ ac (.RJ c)=QG then[] else[(c,QG)]
 |_=>[]
noncomputable def LZ (ac:Ac):Mn->Sn
 | .RJ c=>if oZ ac (.RJ c)=QG then[] else[(c,QN)]
 |_=>[]
noncomputable def gJ (p:T3×Sn) (k:Nat) (a:Mn):T3×Sn:=({p.1 with ac:=lV p.1.ac k (QB a)},p.2++sC p.1.ac a)
noncomputable def go (p:T3×Sn) (k:Nat):T3×Sn:=match p.1.ac k with
 |some a=>({p.1 with ac:=lV p.1.ac k QF},p.2++LZ (lV p.1.ac k QF) a)
 |none=>p
noncomputable def j6 (p:T3×Sn) (a:List (Nat×Mn)):T3×Sn:=a.foldl (fun p q=>gJ p q.1 q.2) p
noncomputable def gv (b:Bd) (ks:List Nat):Option (Nat×Int)->List Mn
 |some (_,n)=>[.T8 n]
 |none=>Oa b ks
noncomputable def dG (b:Bd) (p:T3×Sn):T3×Sn:=match p.1.wt with
 |none=>p
 |some (ks,_,w)=>j6 ({p.1 with wt:=QF},p.2) (ks.zip (gv b ks w))
noncomputable def Fw:Wq->Nat->Bool
 |some (ks,_,_),k=>decide (k∈ks)
 |none,_=>QN
noncomputable def F7 (b:Bd) (s:T3) (k:Nat):Bool:=match s.wt with
 |some (ks,_,QF)=>decide (t7 s.ac s.oc=0)&& !(fx b (ks++[k])).isEmpty
 |_=>QN
noncomputable def xx (b:Bd) (p:T3×Sn) (k:Nat):T3×Sn:=match p.1.wt with
 |some (ks,g,_)=>if(fx b (ks++[k])).map (·.1.length)=[(ks++[k]).length] then dG b ({p.1 with wt:=QB (ks++[k],g,QF)},p.2) else({p.1 with wt:=QB (ks++[k],g,QF)},p.2)
 |none=>p
noncomputable def jI (s:T3) (m:Mn):T3:=if(m.aap||m.isO)=QG then s else{s with oc:=QF}
noncomputable def zS (b:Bd) (L:Int) (p:T3×Sn) (k:Nat):Mn->T3×Sn
 | .W3 c n=>({p.1 with wt:=QB ([k],0,QB (c,n))},p.2)
 | .RJ c=>if(decide (L=0)&& !(fx b [k]).isEmpty)=QG then({p.1 with wt:=QB ([k],0,QF)},p.2) else gJ p k (.RJ c)
 | .once n=>({(gJ p k .none).1 with oc:=QB n},(gJ p k .none).2)
 |m=>gJ p k m
noncomputable def KQ (b:Bd) (p:T3×Sn) (k:Nat):T3×Sn:=
 zS b (t7 p.1.ac p.1.oc) (jI p.1 (look b (t7 p.1.ac p.1.oc) k),p.2) k (look b (t7 p.1.ac p.1.oc) k)
noncomputable def rR (b:Bd) (p:T3×Sn) (k:Nat):T3×Sn:=
 if((p.1.ac k).isSome||Fw p.1.wt k)=QG then p else if F7 b p.1 k=QG then xx b p k else KQ b (dG b p) k
noncomputable def d4 (b:Bd) (p:T3×Sn) (k:Nat):T3×Sn:=match p.1.wt with
 |some (_,_,QF)=>dG b p
 |some (_,_,QB (c,_))=>gJ ({p.1 with wt:=QF},p.2) k (.RJ c)
 |none=>p
noncomputable def CJ (b:Bd) (p:T3×Sn) (k:Nat):T3×Sn:=go (if Fw p.1.wt k=QG then d4 b p k else p) k
noncomputable def oJ (b:Bd) (p:T3×Sn):T3×Sn:=match p.1.wt with
 |none=>p
 |some (ks,g,w)=>if g+1=b.wt then dG b ({p.1 with wt:=QB (ks,g+1,w)},p.2) else({p.1 with wt:=QB (ks,g+1,w)},p.2)
noncomputable def aD (b:Bd) (s:T3):VN->T3×Sn
 | .down k=>rR b (s,[]) k
 | .up k=>CJ b (s,[]) k
 | .turn=>oJ b (s,[])
noncomputable def t6 (b:Bd) (s:T3):List (Str×SV):=[("bed",.fz (bD b)),("acts",.rf 1),("waiting",.fz (jj s.wt)),("once",.fz (sN s.oc)),("sent",.rf 2)]
noncomputable def sQ (p:Nat×Bool):D:= .tuple [.str (jG p.1),.str (if p.2=QG then "down" else "up")]
noncomputable def dg (b:Bd) (s:T3) (sn:Sn) (ps:List (Nat×Mn)) (J:aX):aX:= .obj "Hand" (t6 b s):: .WN (ps.map jK):: .lst ((sn.map sQ).map .fz)::J
def HS (b:Bd) (p:T3×Sn) (Z:aX):Prop:=∃ps J,ps.Perm (gO p.1.ac)/\Z=dg b p.1 p.2 ps J
section
variable {b:Bd} {s:T3} {sn:Sn} {ps:List (Nat×Mn)} {J:aX} {ρ:bu} {i:Nat} {Z:aX} {p:T3×Sn} {k:Nat} {a:Mn}
theorem LA:(t6 b s).lookup ("bed":Str)=QB (.fz (bD b)):=by unfold t6;rw[TL]
theorem JH:(t6 b s).lookup ("acts":Str)=QB (.rf 1):=by unfold t6;rw[Q5,show(("acts":Str)== "bed")=QN by decide+kernel];dsimp only;rw[TL]
theorem Ie:(t6 b s).lookup ("waiting":Str)=QB (.fz (jj s.wt)):=by unfold t6;rw[Q5,show(("waiting":Str)== "bed")=QN by decide+kernel];dsimp only;rw[Q5,show(("waiting":Str)== "acts")=QN by decide+kernel];dsimp only;rw[TL]
theorem JF:(t6 b s).lookup ("once":Str)=QB (.fz (sN s.oc)):=by unfold t6;rw[Q5,show(("once":Str)== "bed")=QN by decide+kernel];dsimp only;rw[Q5,show(("once":Str)== "acts")=QN by decide+kernel];dsimp only;rw[Q5,show(("once":Str)== "waiting")=QN by decide+kernel];dsimp only;rw[TL]
theorem JI:(t6 b s).lookup ("sent":Str)=QB (.rf 2):=by unfold t6;rw[Q5,show(("sent":Str)== "bed")=QN by decide+kernel];dsimp only;rw[Q5,show(("sent":Str)== "acts")=QN by decide+kernel];dsimp only;rw[Q5,show(("sent":Str)== "waiting")=QN by decide+kernel];dsimp only;rw[Q5,show(("sent":Str)== "once")=QN by decide+kernel];dsimp only;rw[TL]
noncomputable def Qd (m:Str):Bool:=(m== "bed"||m== "acts"||m== "waiting"||m== "once"||m== "sent")==QN
theorem Pe (h:Qd m=QG):(t6 b s).lookup m=QF:=by unfold Qd at h;simp only[beq_iff_eq,ZX] at h;obtain⟨⟨⟨⟨h1,h2⟩,f⟩,e⟩,a⟩:=h;unfold t6;rw[Q5,h1];dsimp only;rw[Q5,h2];dsimp only;rw[Q5,f];dsimp only;rw[Q5,e];dsimp only;rw[Q5,a];rfl
theorem ny (h:ρ[i]? =QB (QB (.rf 0))):bj "Hand" "bed" (aq i) ρ (dg b s sn ps J)= .ok (.fz (bD b)) (dg b s sn ps J):=jf (a9 h) rfl LA
theorem gF (h:ρ[i]? =QB (QB (.rf 0))):bj "Hand" "acts" (aq i) ρ (dg b s sn ps J)= .ok (.rf 1) (dg b s sn ps J):=jf (a9 h) rfl JH
theorem bN (h:ρ[i]? =QB (QB (.rf 0))):bj "Hand" "waiting" (aq i) ρ (dg b s sn ps J)= .ok (.fz (jj s.wt)) (dg b s sn ps J):=jf (a9 h) rfl Ie
theorem BX (h:ρ[i]? =QB (QB (.rf 0))):bj "Hand" "once" (aq i) ρ (dg b s sn ps J)= .ok (.fz (sN s.oc)) (dg b s sn ps J):=jf (a9 h) rfl JF
theorem uZ (h:ρ[i]? =QB (QB (.rf 0))):bj "Hand" "sent" (aq i) ρ (dg b s sn ps J)= .ok (.rf 2) (dg b s sn ps J):=jf (a9 h) rfl JI
theorem Ek (w:Wq):d7 "waiting" (.fz (jj w)) (t6 b s)=t6 b {s with wt:=w}:=by unfold t6;unfold d7;rw[if_neg (by decide+kernel)];unfold d7;rw[if_neg (by decide+kernel)];unfold d7;rw[if_pos rfl]
theorem GK (o:Option Int):d7 "once" (.fz (sN o)) (t6 b s)=t6 b {s with oc:=o}:=by unfold t6;unfold d7;rw[if_neg (by decide+kernel)];unfold d7;rw[if_neg (by decide+kernel)];unfold d7;rw[if_neg (by decide+kernel)];unfold d7;rw[if_pos rfl]
theorem kJ (w:Wq) (h:ρ[i]? =QB (QB (.rf 0))) (a:fe ρ Z= .ok (.fz (jj w)) (dg b s sn ps J)):fu "Hand" "waiting" (aq i) fe ρ Z= .ok (.nx ρ) (dg b {s with wt:=w} sn ps J):=
 (nr a (a9 h) rfl (by exact QO rfl)).trans (by rw[Ek];rfl)
theorem AB (o:Option Int) (h:ρ[i]? =QB (QB (.rf 0))) (a:fe ρ Z= .ok (.fz (sN o)) (dg b s sn ps J)):fu "Hand" "once" (aq i) fe ρ Z= .ok (.nx ρ) (dg b {s with oc:=o} sn ps J):=
 (nr a (a9 h) rfl (by exact QO rfl)).trans (by rw[GK];rfl)
theorem bT (a:HS b p Z) (hm:Qd m=QG) (h:ρ[i]? =QB (QB (.rf 0))) (ha:fa ρ Z= .ok xs Z) (hn:(SV.rf 0::xs).length=n) (e:F (.rf 0::xs) Z= .ok x Z'):aY "Hand" m F n (aq i) fa ρ Z= .ok x Z':=by obtain⟨ps,J,hp,rfl⟩:=a;exact JM (a9 h) rfl (Pe hm) ha hn e
theorem Dx (ps:List (Nat×Mn)):(ps.map jK).map (·.2)=((ps.map (·.2)).map mD).map SV.fz:=by rw[RI,RI,RI];rfl
def AK (ac:Ac):Prop:=∀k a,ac k=QB a->k<5/\LB a
theorem DS (e:HS b p Z) (f:AK p.1.ac) (ha:LB a):∃Z',bH [.rf 0,.fz (mD a)] Z= .ok (.fz (.bool (oZ p.1.ac a))) Z'/\HS b p Z':=by
 obtain⟨ps,J,hp,rfl⟩:=e;have g:oZ p.1.ac a=decide (a∈ps.map (·.2)):=decide_eq_decide.mpr (hp.map (·.2)).symm.mem_iff;have lb:∀m∈ps.map (·.2),LB m:=fun m hm=>by obtain⟨q,h1,rfl⟩:=R0.mp hm;exact(f _ _ ((km hp).mp h1).2).2
 refine⟨dg b p.1 p.2 ps (J++[.lst ((ps.map jK).map (·.2))]),?_,ps,_,hp,rfl⟩;rw[g];exact jo rfl (gW (cx (af (ah rfl)) (J8 (gF rfl) rfl) (lY rfl (cS (by rw[Dx];exact bh)) (JS ha lb))))
theorem Av (e:sn.length<1000) (h:ρ[i]? =QB (QB (.rf 0))) (a:fe ρ (dg b s sn ps J)= .ok (.fz (sQ (c,d))) (dg b s sn ps J)):k6 (bj "Hand" "sent" (aq i)) fe ρ (dg b s sn ps J)= .ok (.fz .none) (dg b s (sn++[(c,d)]) ps J):=
 (rB (uZ h) rfl a rfl (by rw[QH,QH];omega)).trans (by unfold dg;rw[Q3,Q3];rfl)
theorem rO (hp:ps.Perm (gO s.ac)) (e:k<5) (h:ρ[0]? =QB (QB (.rf 0))) (h1:ρ[1]? =QB (QB (.fz (nd k)))) (h2:ρ[2]? =QB (QB (.fz (mD a)))):∃qs:List (Nat×Mn),qs.Perm (gO (lV s.ac k (QB a)))/\wE (bj "Hand" "acts" (aq 0)) (ae (ad 1)) (ae (ad 2)) ρ (dg b s sn ps J)= .ok (.nx ρ) (dg b {s with ac:=lV s.ac k (QB a)} sn qs J):=by obtain⟨qs,g,f⟩:=JL hp e;have p1:ad 1 (bF ρ)= .ok (.fz (nd k),bF ρ):=ah (by unfold bF;rw[QT,h1];rfl);have p2:ad 2 (bF ρ)= .ok (.fz (mD a),bF ρ):=ah (by unfold bF;rw[QT,h2];rfl);refine⟨qs,f,(HY (af p2) (gF h) (af p1) rfl rfl (by rw[QH];have:=Fj hp;omega)).trans ?_⟩;rw[g];rfl
theorem pL (g:HS b p Z) (r:AK p.1.ac) (ha:LB a) (h:k<5) (o:p.2.length<1000):∃Z',bw [.rf 0,.fz (nd k),.fz (mD a)] Z= .ok (.fz .none) Z'/\HS b (gJ p k a) Z':=by
 have e0:=tK a;have m:=kK a;cases q:a.isL with
 |false=>
  obtain⟨ps,J,hp,rfl⟩:=g;rw[q] at m;obtain⟨f,h1,h2⟩:=rO (ρ:=[QB (.rf 0),QB (.fz (nd k)),QB (.fz (mD a))]) hp h rfl rfl rfl;refine⟨_,ml rfl (cK (gc (gM (cr (by walk_at "ev"))) fY) h2),f,J,h1,?_⟩;have:sC p.1.ac a=[]:=by cases a<;>first|rfl|cases q
  unfold gJ;rw[this,Rf]
 |true=>
  rw[q] at m;obtain⟨Z1,h1,t⟩:=DS g r ha;have n:∀l,oZ p.1.ac a=l->(mW (ci (aU (aR dA (aR bA (ad 2) (pC (.int 0))) (pC (.str "letter"))))) (mx (bq (aY "Hand" "has_act" bH 2 (aq 0) (aj (ae (ad 2)) aN))))) [QB (.rf 0),QB (.fz (nd k)),QB (.fz (mD a))] Z= .ok (!l) Z1:=fun l e=>by rw[e] at h1;exact iO (cr (by walk_at "ev")) (kP (aQ (bT g (by decide+kernel) rfl (ao (af (ah rfl)) aM) rfl h1)))
  obtain⟨ps,J,hp,rfl⟩:=t;cases q2:oZ p.1.ac a with
  |true=>
   obtain⟨f,j,i⟩:=rO (ρ:=[QB (.rf 0),QB (.fz (nd k)),QB (.fz (mD a))]) hp h rfl rfl rfl;refine⟨_,ml rfl (cK (gc (n QG q2) fY) i),f,J,j,?_⟩;have:sC p.1.ac a=[]:=by
    cases a<;>first|cases q|skip
    show(if oZ p.1.ac _=QG then _ else _)=_;rw[if_pos q2]
   unfold gJ;rw[this,Rf]
  |false=>
   cases a<;>first|cases q|skip
   rename_i c;obtain⟨f,j,i⟩:=rO (ρ:=[QB (.rf 0),QB (.fz (nd k)),QB (.fz (mD (.RJ c)))]) (sn:=p.2++[(c,QG)]) hp h rfl rfl rfl;have i1:bA (mD (.RJ c)) (.int 1)=QB (.fz (.str (jG c))):=lL;refine⟨_,ml rfl (cK (d9 (n QN q2) (fX (Av o rfl (af (show _=Res.ok (PV.fz (.tuple [.str (jG c),.str "down"]),_) by walk_at "ev"))))) i),f,J,j,?_⟩;have:sC p.1.ac (.RJ c)=[(c,QG)]:=by show(if oZ p.1.ac _=QG then _ else _)=_;rw[if_neg (by rw[q2];simp)]
   unfold gJ;rw[this]
end
end STP
namespace STP
open PySem L2 L3 L10
def VA (nL:Int):Mn->Prop
 | .RJ c=>c<26
 | .T8 n=>1<=n/\n<nL
 | .none=>True
 |_=>False
theorem VA.lb (h:VA nL m):LB m:=by
 cases m with
 |RJ c=>exact h
 |W3 c n=>exact h.elim
 |_=>trivial
structure SA (b:Bd) (s:T3):Prop where
 ac:∀k a,s.ac k=QB a->(k:Int)<b.n/\VA b.ls.length a
 oc:∀o,s.oc=QB o->1<=o/\o<b.ls.length
structure WV (b:Bd) (ac:Ac) (ks:List Nat) (g:Int) (w:Option (Nat×Int)):Prop where
 ne:ks≠[]
 nd:ks.Nodup
 kn:∀k∈ks,(k:Int)<b.n
 kf:∀k∈ks,ac k=QF
 g0:0<=g
 tp:∀c n,w=QB (c,n)->c<26/\(1<=n/\n<b.ls.length)/\ks.length=1
 ch:w=QF->∀k∈ks,Ds (b.ls.headD []) k=QG
structure SW (b:Bd) (s:T3):Prop where
 sa:SA b s
 wt:∀ks g w,s.wt=QB (ks,g,w)->WV b s.ac ks g w/\g<b.wt
theorem yN {ks:List Nat} (hd:ks.Nodup) (h:∀k∈ks,k<n):ks.length<=n:=by rw[<-Ix ks];have h1:=(rl ks).nodup_iff.mpr hd;refine J7 (((yM ks).and h1).imp fun h=>by omega) fun k a=>h k ((rl ks).mem_iff.mp a)
section
variable {b:Bd} (vb:VB b) {s:T3} {p:T3×Sn} {ks:List Nat} {g:Int} {w:Option (Nat×Int)} {ac:Ac} {k:Nat} {a:Mn}
include vb
theorem WV.len (h:WV b ac ks g w):ks.length<=5:=yN h.nd fun k a=>by have:=h.kn k a;have:=vb.n5;omega
omit vb in
theorem WV.agR (h:WV b ac ks g w):1<=ks.length:=List.length_pos_iff.mpr h.ne
theorem SA.ak (h:SA b s):AK s.ac:=fun k a e=>by have:=h.ac k a e;have:=vb.n5;exact⟨by omega,(h.ac k a e).2.lb⟩
omit vb in
theorem SA.cm (h:SA b p.1) (f:(k:Int)<b.n) (ha:VA b.ls.length a):SA b (gJ p k a).1:=by
 refine⟨fun j x e=> ?_,h.oc⟩;by_cases z:j=k
 ·subst z;have g:QB a=QB x:=(d8 (ac:=p.1.ac) (k:=j) (o:=QB a)).symm.trans e;cases g;exact⟨f,ha⟩
 ·exact h.ac j x ((gq z).symm.trans e)
omit vb in
theorem SA.gg (h:SA b p.1):SA b (go p k).1:=by
 unfold go;split
 ·refine⟨fun j x e=> ?_,h.oc⟩
  by_cases z:j=k
  ·subst z;exact absurd ((d8 (ac:=p.1.ac) (k:=j) (o:=QF)).symm.trans e) (by simp)
  ·exact h.ac j x ((gq z).symm.trans e)
 ·exact h
omit vb in
theorem rU:(gJ p k a).2.length<=p.2.length+1:=by
 show(p.2++sC p.1.ac a).length<=_;rw[QM];have:(sC p.1.ac a).length<=1:=by
  cases a with
  |RJ c=>show(if _ then _ else _:Sn).length<=1;split<;>simp
  |_=>simp[sC]
 omega
omit vb in
theorem Cp (b:List (Nat×Mn)):∀p:T3×Sn,(j6 p b).2.length<=p.2.length+b.length:=by
 induction b with
 |nil=>exact fun p=>QS _
 |cons q r ih=>intro p;have h1:=ih (gJ p q.1 q.2);have h2:=rU (p:=p) (k:=q.1) (a:=q.2);show(j6 (gJ p q.1 q.2) r).2.length<=_;rw[Q0];omega
omit vb in
theorem SA.cms (a:List (Nat×Mn)):∀{p:T3×Sn},SA b p.1->(∀q∈a,(q.1:Int)<b.n/\VA b.ls.length q.2)->SA b (j6 p a).1/\(j6 p a).1.wt=p.1.wt/\(j6 p a).1.oc=p.1.oc:=by
 induction a with
 |nil=>exact fun h _=>⟨h,rfl,rfl⟩
 |cons q r ih=>intro p h e;have h1:=e q Q8;exact ih (h.cm h1.1 h1.2) fun x f=>e x (Q4 _ f)
theorem MU (h:Ds (b.ls.headD []) k=QG):∃c,tm b 0 k= .RJ c:=by
 have a:=vb.l1;obtain⟨l0,r,e⟩:∃l0 r,b.ls=l0::r:=by
  cases q:b.ls with
  |nil=>rw[q] at a;cases a
  |cons l r=>exact⟨l,r,rfl⟩
 unfold Ds at h;unfold tm;rw[e] at h⊢;rw[YQ,Xj];rw[List.headD_cons] at h;cases q:l0[k]? with
 |none=>rw[q] at h;cases h
 |some m=>
  rw[q] at h;cases m with
  |RJ c=>exact⟨c,rfl⟩
  |_=>cases h
theorem JE (a:(k:Int)<b.n) (h:Ds (b.ls.headD []) k=QG):VA b.ls.length (tm b 0 k):=by have f:=vb.l1;obtain⟨c,e⟩:=MU vb h;have:=zT vb (L:=0) (by omega) a;rw[e] at this⊢;exact this
theorem M7 (h:WV b ac ks g QF):∀m∈Oa b ks,VA b.ls.length m:=by
 intro m hm;unfold Oa at hm;split at hm
 ·rename_i c hc
  rcases Rk.mp hm with rfl|hm
  ·exact(vb.vc c (Yk hc)).2.2.2
  ·rw[(List.mem_replicate.mp hm).2];trivial
 ·obtain⟨j,a,rfl⟩:=R0.mp hm;exact JE vb (h.kn j a) (h.ch rfl j a)
theorem BO (h:WV b ac ks g w):∀q∈ks.zip (gv b ks w),(q.1:Int)<b.n/\VA b.ls.length q.2:=by
 intro q a;have h1:=UU a;refine⟨h.kn _ h1.1,?_⟩;cases w with
 |none=>exact M7 vb h _ h1.2
 |some cn=>obtain⟨c,n⟩:=cn;rw[Ri.mp h1.2];exact(h.tp c n rfl).2.1
def WD (b:Bd) (s:T3):Prop:=∀ks g w,s.wt=QB (ks,g,w)->WV b s.ac ks g w
theorem ki (h:SA b p.1) (a:WD b p.1):SW b (dG b p).1/\(dG b p).1.wt=QF/\(dG b p).2.length<=p.2.length+5/\(dG b p).1.oc=p.1.oc:=by
 unfold dG;split
 ·rename_i q;exact⟨⟨h,fun ks g w e=>by rw[q] at e;cases e⟩,q,abx _ _,rfl⟩
 ·rename_i ks g w q
  have v:=a ks g w q;obtain⟨h1,h2,f⟩:=SA.cms (ks.zip (gv b ks w)) (p:=({p.1 with wt:=QF},p.2)) ⟨h.ac,h.oc⟩ (BO vb v);refine⟨⟨h1,fun _ _ _ e=> ?_⟩,h2,?_,f⟩
  ·rw[h2] at e;cases e
  ·have:=Cp (ks.zip (gv b ks w)) ({p.1 with wt:=QF},p.2);have i:=v.len vb;rw[aby] at this;have:(j6 ({p.1 with wt:=QF},p.2) (ks.zip (gv b ks w))).2.length<=p.2.length+min ks.length (gv b ks w).length:=this;omega
omit vb in
theorem Bi:∀(l:List Int) (m:Option Int),l.foldl kY m=m\/∃x∈l,l.foldl kY m=QB x
 |[],m=> .inl rfl
 |x::r,m=>by
  rw[VS];rcases Bi r (kY m x) with h|⟨y,hy,h⟩
  ·rw[h]
   cases m with
   |none=>exact .inr ⟨x,Q8,rfl⟩
   |some z=>
    show QB (if x>z then x else z)=QB z\/_;split
    ·exact .inr ⟨x,Q8,by show QB (if x>z then x else z)=_;rename_i q;rw[if_pos q]⟩
    ·exact .inl rfl
  ·exact .inr ⟨y,Q4 _ hy,h⟩
omit vb in
theorem BN:∀(l:List Int) (m:Option Int),(∀x∈l,∃y,l.foldl kY m=QB y/\x<=y)/\∀z,m=QB z->∃y,l.foldl kY m=QB y/\z<=y
 |[],m=>⟨fun x e=>(by cases e),fun z h=>⟨z,h,Vs _⟩⟩
 |x::r,m=>by
  rw[VS];obtain⟨h1,h2⟩:=BN r (kY m x);have g:∃z,kY m x=QB z/\x<=z/\∀u,m=QB u->u<=z:=by
   cases m with
   |none=>exact⟨x,rfl,Vs _,fun u h=>by cases h⟩
   |some u=>
    refine⟨if x>u then x else u,rfl,?_,fun v h=> ?_⟩
    ·split<;>omega
    ·cases h;split<;>omega
  obtain⟨z,j,o,i⟩:=g;obtain⟨y,b,n⟩:=h2 z j;refine⟨fun v a=> ?_,fun u f=>⟨y,b,by have:=i u f;omega⟩⟩;rcases Rk.mp a with rfl|a
  ·exact⟨y,b,by omega⟩
  ·exact h1 v a
omit vb in
theorem B4 {ac:Ac} {n:Int}:n∈(gO ac).filterMap Ml↔∃k,k<5/\ac k=QB (.T8 n):=by
 rw[Vb];constructor
 ·rintro⟨⟨k,m⟩,h1,h2⟩
  have a:=kN.mp h1;cases m with
  |T8 x=>have:x=n:=QX h2;subst this;exact⟨k,a.1,a.2⟩
  |_=>cases h2
 ·rintro⟨k,h1,h2⟩;exact⟨(k,.T8 n),kN.mpr ⟨h1,h2⟩,rfl⟩
theorem Kg (h:SA b s):0<=w9 s.ac/\w9 s.ac<b.ls.length/\(∀k n,s.ac k=QB (.T8 n)->n<=w9 s.ac)/\(w9 s.ac=0\/∃k,s.ac k=QB (.T8 (w9 s.ac))):=by
 have g:=vb.l1;have i:=vb.n5;unfold w9;generalize hm:((gO s.ac).filterMap Ml).foldl kY QF=m;have h1:=(BN ((gO s.ac).filterMap Ml) QF).1;have h2:=Bi ((gO s.ac).filterMap Ml) QF;rw[hm] at h1 h2;have up:∀k n,s.ac k=QB (.T8 n)->∃y,m=QB y/\n<=y:=fun k n e=>h1 n (B4.mpr ⟨k,by have:=(h.ac k _ e).1;omega,e⟩);cases m with
 |none=>refine⟨Vs _,by show(0:Int)<_;omega,fun k n e=> ?_,.inl rfl⟩;obtain⟨y,a,_⟩:=up k n e;cases a
 |some x=>
  rcases h2 with h2|⟨y,hy,h2⟩
  ·cases h2
  ·cases h2;obtain⟨k,_,e⟩:=B4.mp hy;have:=(h.ac k _ e).2;have:1<=x/\x<b.ls.length:=this;refine⟨by show 0<=x;omega,by show x<_;omega,fun k n e=> ?_,.inr ⟨k,e⟩⟩;obtain⟨y,a,f⟩:=up k n e;cases a;exact f
theorem FM (h:SA b s):0<=t7 s.ac s.oc/\t7 s.ac s.oc<b.ls.length:=by
 cases q:s.oc with
 |none=>have:=Kg vb h;exact⟨this.1,this.2.1⟩
 |some o=>have:=h.oc o q;exact⟨by show 0<=o;omega,this.2⟩
end
section
variable {b:Bd} {s:T3} {sn:Sn} {ps:List (Nat×Mn)} {J:aX} {ρ:bu} {i:Nat} {Z:aX} {p:T3×Sn} {k:Nat} {a:Mn}
theorem zu (h:f x=QB y):aJ f [x]=QB [y]:=by unfold aJ;rw[h];rfl
theorem iW:(l++[c]).set l.length c'=l++[c']:=by simp
theorem nk (a:HS b p Z):∃Z',bC [.rf 0] Z= .ok (.fz (cz p.1)) Z'/\HS b p Z':=by
 obtain⟨ps,J,hp,rfl⟩:=a;have f:=Fj hp;have g:l8 (ud (bj "Hand" "acts" (aq 0))) [QB (.rf 0)] (dg b p.1 p.2 ps J)= .ok ((gO p.1.ac).map fun q=>nd q.1) (dg b p.1 p.2 ps (J++[.dead])):=by
  refine(EG (ds:=(gO p.1.ac).map fun q=>nd q.1) (HN (gF rfl) rfl (GG hp) (by rw[QH];omega)) ?_).trans ?_
  ·rw[EB hp];refine bh.trans ?_;rw[RI,RI];rfl
  ·rw[iW];rfl
 have h:cL (gA 0) jC (mi (aj (ae (ad 0)) (aj (uv (bj "Hand" "acts" (aq 1)) (ae (ad 0))) aN))) ((gO p.1.ac).map fun q=>nd q.1) [QF,QB (.rf 0)] (dg b p.1 p.2 ps (J++[.dead])) []= .ok (((gO p.1.ac).map pD).map .fz) (dg b p.1 p.2 ps (J++[.dead])):=by refine(nu (fun q:Nat×Mn=>nd q.1) (fun q=> .fz (pD q)) _ (fun ρ=>∃o,ρ=[o,QB (.rf 0)]) (gO p.1.ac) _ [] ⟨QF,rfl⟩ (by have:=wl p.1.ac;rw[SM];omega) ?_).trans (by rw[RI];rfl);rintro q e ρ ⟨o,rfl⟩;have hm:=kN.mp e;refine⟨[QB (.fz (nd q.1)),QB (.rf 0)],rfl,rfl,?_,_,rfl⟩;exact vY (ao (af (ah rfl)) (ao (HX (gF rfl) (af (ah rfl)) rfl rfl (by rw[mn hp hm.1,hm.2];rfl)) aM)) (QO rfl)
 have tp:sO hV (aj (l9 1 [0] (l8 (ud (bj "Hand" "acts" (aq 0)))) (gA 0) jC (mi (aj (ae (ad 0)) (aj (uv (bj "Hand" "acts" (aq 1)) (ae (ad 0))) aN)))) aN) [QB (.rf 0)] (dg b p.1 p.2 ps J)= .ok (.fz (.tuple ((gO p.1.ac).map pD))) (dg b p.1 p.2 ps (J++[.dead]++[.lst (((gO p.1.ac).map pD).map .fz)])):=
  tN (ao (vt g h) aM) (zu (cS bh)) rfl
 exact⟨_,jo rfl (gW (vY (ao tp (ao (bN rfl) (ao (BX rfl) aM))) (QO rfl))),ps,_,hp,rfl⟩
theorem Ez (e:HS b p Z):bS [.rf 0,.fz (nd k)] Z= .ok (.fz (.bool (Fw p.1.wt k))) Z:=by
 obtain⟨ps,J,hp,rfl⟩:=e;refine jo rfl (gW ?_);cases q:p.1.wt with
 |none=>
  have a:ri (jj p.1.wt) .none=QB (.fz (.bool QN)):=by rw[q];rfl
  exact C8 (aQ (cx (bN rfl) (af aH) (b9 a)))
 |some x=>
  obtain⟨ks,g,w⟩:=x;have a:ri (jj p.1.wt) .none=QB (.fz (.bool QG)):=by rw[q];rfl
  have f:bA (jj p.1.wt) (.int 0)=QB (.fz (.tuple (bO ks))):=by rw[q];exact iX
  exact tM (aQ (cx (bN rfl) (af aH) (b9 a))) (cx (af (ah rfl)) (cC (bN rfl) (af aH) f) (b9 (ww _ _)))
theorem OO (y:HS b p Z) (m:AK p.1.ac) (ha:p.1.ac k=QB a) (A:p.2.length<1000):∃Z',iL [.rf 0,.fz (nd k)] Z= .ok (.fz .none) Z'/\HS b (go p k) Z':=by
 obtain⟨ps,J,hp,rfl⟩:=y;have B:=(m k a ha).1;have lb:=(m k a ha).2;obtain⟨f,d1,o⟩:=Fz hp
 have i:x9 (bj "Hand" "acts" (aq 0)) (ae (ad 1)) [QB (.rf 0),QB (.fz (nd k)),QF] (dg b p.1 p.2 ps J)= .ok (.fz (mD a)) (dg b {p.1 with ac:=lV p.1.ac k QF} p.2 f J):=
  (Ii (gF rfl) rfl (af (ah rfl)) rfl rfl (by rw[mn hp B,ha];rfl)).trans (by rw[d1];rfl)
 have C:go p k=({p.1 with ac:=lV p.1.ac k QF},p.2++LZ (lV p.1.ac k QF) a):=by unfold go;rw[ha]
 rw[C];have l:AK (lV p.1.ac k QF):=fun j x e=>by
  by_cases z:j=k
  ·subst z;rw[d8] at e;cases e
  ·rw[gq z] at e;exact m j x e
 have e0:=tK a;have G:=kK a;have g:aU (aR dA (aR bA (ad 2) (pC (.int 0))) (pC (.str "letter"))) (bF [QB (.rf 0),QB (.fz (nd k)),QB (.fz (mD a))])= .ok (a.isL,bF [QB (.rf 0),QB (.fz (nd k)),QB (.fz (mD a))]):=by walk_at "ev"
 have n:U5 (ck (mW (ci (aU (aR dA (aR bA (ad 2) (pC (.int 0))) (pC (.str "letter"))))) (mx (bq (aY "Hand" "has_act" bH 2 (aq 0) (aj (ae (ad 2)) aN))))) (bK (k6 (bj "Hand" "sent" (aq 0)) (ae (b7 (aa (aR bA (ad 2) (pC (.int 1))) (aa (pC (.str "up")) au)))))) cI [QB (.rf 0),QB (.fz (nd k)),QB (.fz (mD a))] (dg b {p.1 with ac:=lV p.1.ac k QF} p.2 f J)) (fun _ Z'=>SV.fz .none= .fz .none/\HS b ({p.1 with ac:=lV p.1.ac k QF},p.2++LZ (lV p.1.ac k QF) a) Z') (fun _ _=>False) (fun r Z'=>r= .fz .none/\HS b ({p.1 with ac:=lV p.1.ac k QF},p.2++LZ (lV p.1.ac k QF) a) Z'):=by
  cases q:a.isL with
  |false=>
   rw[q] at g;refine dQ (gM (cr g)) (kE ⟨rfl,f,J,o,?_⟩);have:LZ (lV p.1.ac k QF) a=[]:=by cases a<;>first|rfl|cases q
   rw[this,Rf]
  |true=>
   rw[q] at g;obtain⟨Z1,h1,F⟩:=DS (p:=({p.1 with ac:=lV p.1.ac k QF},p.2)) ⟨f,J,o,rfl⟩ l lb;have t:∀h,oZ (lV p.1.ac k QF) a=h->(mW (ci (aU (aR dA (aR bA (ad 2) (pC (.int 0))) (pC (.str "letter"))))) (mx (bq (aY "Hand" "has_act" bH 2 (aq 0) (aj (ae (ad 2)) aN))))) [QB (.rf 0),QB (.fz (nd k)),QB (.fz (mD a))] (dg b {p.1 with ac:=lV p.1.ac k QF} p.2 f J)= .ok (!h) Z1:=fun h e=>by
    have h1:bH [.rf 0,.fz (mD a)] (dg b {p.1 with ac:=lV p.1.ac k QF} p.2 f J)= .ok (.fz (.bool h)) Z1:=by rw[<-e];exact h1
    exact iO (cr g) (kP (aQ (bT (p:=({p.1 with ac:=lV p.1.ac k QF},p.2)) ⟨f,J,o,rfl⟩ (by decide+kernel) rfl (ao (af (ah rfl)) aM) rfl h1)))
   obtain⟨u,w,v,E⟩:=F;rw[E] at t;cases q2:oZ (lV p.1.ac k QF) a with
   |true=>
    refine dQ (t QG q2) (kE ⟨rfl,u,w,v,?_⟩);have:LZ (lV p.1.ac k QF) a=[]:=by
     cases a<;>first|cases q|skip
     show(if oZ (lV p.1.ac k QF) _=QG then _ else _)=_;rw[if_pos q2]
    rw[this,Rf]
   |false=>
    cases a<;>first|cases q|skip
    rename_i c;have i1:bA (mD (.RJ c)) (.int 1)=QB (.fz (.str (jG c))):=lL;refine sr (t QN q2) (ir (Av (d:=QN) A rfl (af (show _=Res.ok (PV.fz (.tuple [.str (jG c),.str "up"]),_) by walk_at "ev"))) ⟨rfl,u,w,v,?_⟩);have:LZ (lV p.1.ac k QF) (.RJ c)=[(c,QN)]:=by show(if oZ (lV p.1.ac k QF) _=QG then _ else _)=_;rw[if_neg (by rw[q2];simp)]
    rw[this]
 exact iz rfl (jc i rfl n)
end
section
variable {b:Bd} (vb:VB b) {s:T3} {sn:Sn} {ps:List (Nat×Mn)} {J:aX} {ρ:bu} {i:Nat} {Z:aX} {p:T3×Sn} {k:Nat} {a:Mn} {ks:List Nat} {g:Int} {w:Option (Nat×Int)}
theorem F6:∀(ks:List Nat) (as:List Mn),kj (bO ks) (as.map mD)=(ks.zip as).map pD
 |[],_=>by cases ‹List Mn›<;>rfl
 |_::_,[]=>rfl
 |k::r,a::t=>by show QJ.tuple [nd k,mD a]::kj (bO r) (t.map mD)=_;rw[F6 r t];rfl
theorem yV (h:∀c n,w=QB (c,n)->c<26):dA (tj w) (.tuple [.str "chord"])=QB (.fz (.bool w.isNone))/\sL (tj w) (.tuple [.str "chord"])=QB (.fz (.bool w.isSome)):=by
 cases w with
 |none=>
  have h1:lw (.tuple [.str "chord"])=QG:=by decide+kernel
  have h2:QJ.canLay0 (.tuple [.str "chord"])=QG:=by decide+kernel
  have a:QJ.eqv (.tuple [.str "chord"]) (.tuple [.str "chord"])=QG:=by decide+kernel
  constructor
  ·show(if(lw (.tuple [.str "chord"])&&QJ.canLay0 (.tuple [.str "chord"]))=QG then QB (RV.fz (.bool (QJ.eqv (.tuple [.str "chord"]) (.tuple [.str "chord"])))) else QF)=_;rw[h1,h2,a];rfl
  ·show(if(lw (.tuple [.str "chord"])&&QJ.canLay0 (.tuple [.str "chord"]))=QG then QB (RV.fz (.bool (!QJ.eqv (.tuple [.str "chord"]) (.tuple [.str "chord"])))) else QF)=_;rw[h1,h2,a];rfl
 |some cn=>
  obtain⟨c,n⟩:=cn;have lb:LB (.W3 c n):=h c n rfl;have e:QJ.eqv (mD (.W3 c n)) (.tuple [.str "chord"])=QN:=by show(decide (("tap":Str)= "chord")&&QJ.eqvAll [.str (jG c),.int n] [])=QN;rw[show decide (("tap":Str)= "chord")=QN by decide+kernel];rfl
  constructor
  ·show(if(lw (mD (.W3 c n))&&QJ.canLay0 (.tuple [.str "chord"]))=QG then QB (RV.fz (.bool (QJ.eqv (mD (.W3 c n)) (.tuple [.str "chord"])))) else QF)=_;rw[DA lb,show QJ.canLay0 (.tuple [.str "chord"])=QG by decide+kernel,e];rfl
  ·show(if(lw (mD (.W3 c n))&&QJ.canLay0 (.tuple [.str "chord"]))=QG then QB (RV.fz (.bool (!QJ.eqv (mD (.W3 c n)) (.tuple [.str "chord"])))) else QF)=_;rw[DA lb,show QJ.canLay0 (.tuple [.str "chord"])=QG by decide+kernel,e];rfl
theorem wO (ks:List Nat) (w:Option (Nat×Int)) (as:List Mn):∀(f:List (Nat×Mn)) (p:T3×Sn) (Z:aX) (g o5:Option SV),HS b p Z->AK p.1.ac->(∀q∈f,q.1<5/\LB q.2)->p.2.length+f.length<1000->
  ∃ρ' Z',kg (N5 2 (sg (gA 4) (sg (gA 5) Dj))) (bK (aY "Hand" "come" bw 3 (aq 0) (aj (ae (ad 4)) (aj (ae (ad 5)) aN)))) (f.map pD) [QB (.rf 0),QB (.fz (.tuple (bO ks))),QB (.fz (tj w)),QB (.fz (.list (as.map mD))),g,o5] Z= .ok (.nx ρ') Z'/\HS b (j6 p f) Z'
 |[],p,Z,g,o5,hs,_,_,_=>⟨_,Z,rfl,hs⟩
 |q::r,p,Z,g,o5,hs,hA,hq,hl=>by
  rw[Q0] at hl;have h1:=hq q Q8;obtain⟨Z1,m,t⟩:=pL hs hA h1.2 h1.1 (by omega);have h:AK (gJ p q.1 q.2).1.ac:=fun j x e=>by
   by_cases z:j=q.1
   ·have n:QB q.2=QB x:=by rw[z] at e;exact(d8).symm.trans e
    cases n;exact⟨by rw[z];exact h1.1,h1.2⟩
   ·exact hA j x ((gq z).symm.trans e)
  have:=rU (p:=p) (k:=q.1) (a:=q.2);obtain⟨ρ',Z',l,o⟩:=wO ks w as r (gJ p q.1 q.2) Z1 (QB (.fz (nd q.1))) (QB (.fz (mD q.2))) t h (fun x i=>hq x (Q4 _ i)) (by omega);refine⟨ρ',Z',?_,o⟩
  have st:bK (aY "Hand" "come" bw 3 (aq 0) (aj (ae (ad 4)) (aj (ae (ad 5)) aN))) [QB (.rf 0),QB (.fz (.tuple (bO ks))),QB (.fz (tj w)),QB (.fz (.list (as.map mD))),QB (.fz (nd q.1)),QB (.fz (mD q.2))] Z= .ok (.nx [QB (.rf 0),QB (.fz (.tuple (bO ks))),QB (.fz (tj w)),QB (.fz (.list (as.map mD))),QB (.fz (nd q.1)),QB (.fz (mD q.2))]) Z1:=
   fX (bT hs (by decide+kernel) rfl (ao (af (ah rfl)) (ao (af (ah rfl)) aM)) rfl m)
  show((bK (aY "Hand" "come" bw 3 (aq 0) (aj (ae (ad 4)) (aj (ae (ad 5)) aN))) [QB (.rf 0),QB (.fz (.tuple (bO ks))),QB (.fz (tj w)),QB (.fz (.list (as.map mD))),QB (.fz (nd q.1)),QB (.fz (mD q.2))] Z).bind _)=_;rw[st,RS.bind_ok];exact l
include vb
theorem kR (l:HS b p Z) (sa:SA b p.1) (a:p.1.wt=QB (ks,g,w)) (v:WV b p.1.ac ks g w) (y:p.2.length<900):∃Z',bR [.rf 0] Z= .ok (.fz .none) Z'/\HS b (dG b p) Z':=by
 obtain⟨ps,J,hp,rfl⟩:=l;have e0:bA (jj p.1.wt) (.int 0)=QB (.fz (.tuple (bO ks))):=by rw[a];exact iX
 have t:bA (jj p.1.wt) (.int 2)=QB (.fz (tj w)):=by rw[a];exact sY
 have j:=v.len vb;have l1:=v.agR;have r:=yV fun c n h=>(v.tp c n h).1;have o:dG b p=j6 ({p.1 with wt:=QF},p.2) (ks.zip (gv b ks w)):=by unfold dG;rw[a]
 rw[o];have i:aU (aR dA (ad 2) (pC (.tuple [.str "chord"]))) (bF [QB (.rf 0),QB (.fz (.tuple (bO ks))),QB (.fz (tj w)),QF,QF,QF])= .ok (w.isNone,bF [QB (.rf 0),QB (.fz (.tuple (bO ks))),QB (.fz (tj w)),QF,QF,QF]):=cF (aW (ah rfl) aH rfl rfl r.1) rfl;have f:sA (Nh (ci (aU (aR dA (ad 2) (pC (.tuple [(.str "chord")]))))) (iR eV 2 (aj (bj "Hand" "bed" (aq 0)) (aj (ae (ad 1)) aN))) (ae (cZ (aa (b7 (aa (pC (.str "layer")) (aa (aR bA (ad 2) (pC (.int 2))) au))) au)))) [QB (.rf 0),QB (.fz (.tuple (bO ks))),QB (.fz (tj w)),QF,QF,QF] (dg b {p.1 with wt:=QF} p.2 ps J)= .ok (.fz (.list ((gv b ks w).map mD))) (dg b {p.1 with wt:=QF} p.2 ps (J++[.dead])):=by
  cases w with
  |none=>have u:=Ms vb l1 j v.kn;exact(rZ (HF (cr i) (vZ (ao (ny rfl) (ao (af (ah rfl)) aM)) rfl u)) (pR bh)).trans (by rw[iW];rfl)
  |some cn=>obtain⟨c,n⟩:=cn;have i2:bA (tj (QB (c,n))) (.int 2)=QB (.fz (.int n)):=sY;exact(rZ (Ip (cr i) (dL (show _=Res.ok (PV.ow [.tuple [.str "layer",.int n]],_) by walk_at "ev"))) (pR bh)).trans (by rw[iW];rfl)
 have lp:∃ρ' Z',zY (im (xo (aa (ad 1) (aa (ad 3) au)))) (N5 2 (sg (gA 4) (sg (gA 5) Dj))) (bK (aY "Hand" "come" bw 3 (aq 0) (aj (ae (ad 4)) (aj (ae (ad 5)) aN)))) [QB (.rf 0),QB (.fz (.tuple (bO ks))),QB (.fz (tj w)),QB (.fz (.list ((gv b ks w).map mD))),QF,QF] (dg b {p.1 with wt:=QF} p.2 ps (J++[.dead]))= .ok (.nx ρ') Z'/\HS b (j6 ({p.1 with wt:=QF},p.2) (ks.zip (gv b ks w))) Z':=by
  have z:=vb.n5;obtain⟨ρ',Z',h1,h2⟩:=wO ks w (gv b ks w) (ks.zip (gv b ks w)) ({p.1 with wt:=QF},p.2) (dg b {p.1 with wt:=QF} p.2 ps (J++[.dead])) QF QF ⟨ps,_,hp,rfl⟩ (SA.ak vb ⟨sa.ac,sa.oc⟩) (fun q m=>by
   have:=BO vb v q m;exact⟨by omega,this.2.lb⟩) (by
   rw[aby];show p.2.length+_<1000;omega)
  refine⟨ρ',Z',?_,h2⟩;unfold zY;rw[mK (u7 (ai (ah rfl) (ai (ah rfl) aI)) rfl rfl rfl),RS.bind_ok,F6];exact h1
 obtain⟨ρ',Z',lp,e⟩:=lp;refine⟨Z',ml (ρ1:=ρ') rfl ?_,e⟩;exact cK (zB (cC (bN rfl) (af aH) e0) rfl) (cK (zB (cC (bN rfl) (af aH) t) rfl) (cK (kJ QF rfl (af aH)) (cK (zB f rfl) lp)))
omit vb in
theorem IE {c:List Nat×Nat} (h:c.2<26):QJ.canLay0 (fK c)=QG:=by show(QJ.canLayAll0 (bO c.1)&&(QJ.strOk (jG c.2)&&QG))=QG;rw[mr,rY h];rfl
omit vb in
theorem Mm:∀{cs:List (List Nat×Nat)},(∀c∈cs,c.2<26)->sL (.list (cs.map fK)) (.list [])=QB (.fz (.bool (!cs.isEmpty))):=by
 intro cs h;have l1:∀cs:List (List Nat×Nat),(∀c∈cs,c.2<26)->QJ.canLayAll0 (cs.map fK)=QG:=by
  intro cs
  induction cs with
  |nil=>exact fun _=>rfl
  |cons c r ih=>intro h;show(QJ.canLay0 (fK c)&&QJ.canLayAll0 (r.map fK))=QG;rw[IE (h c Q8),ih fun x b=>h x (Q4 _ b)];rfl
 have a:∀cs:List (List Nat×Nat),QJ.depthAll (cs.map fK)<=2:=by
  intro cs
  induction cs with
  |nil=>exact RF _
  |cons c r ih=>show max (QJ.depth (fK c)) (QJ.depthAll (r.map fK))<=2;refine af3.mpr ⟨?_,ih⟩;show max (QJ.depthAll (bO c.1)+1) (max 0 0)+1<=2;rw[pT];decide
 show(if((QJ.canLayAll0 (cs.map fK)&&decide (QJ.depthAll (cs.map fK)+1<=64))&&QG)=QG then QB (RV.fz (.bool (!QJ.eqvAll (cs.map fK) []))) else QF)=_;rw[l1 cs h,decide_eq_true (show QJ.depthAll (cs.map fK)+1<=64 by have:=a cs;omega)];cases cs<;>rfl
theorem Kq (h:c∈fx b ks):c.2<26:=(vb.vc c (TF.mp h).1).2.2.2
omit vb in
theorem Bg (h:ks≠[]) (a:ks.length<=5):dB (.tuple (bO ks)) (.tuple [nd k])=QB (.fz (.tuple (bO (ks++[k])))):=by
 show(if bO ks≠[]/\(bO ks).length+1<=1000000 then QB (RV.fz (.tuple (bO ks++[nd k]))) else QF)=_;rw[if_pos ⟨by cases ks with
  |nil=>exact absurd rfl h
  |cons x r=>simp[bO],by rw[fQ];omega⟩,Kk]
 rfl
theorem Bh {fa:dh} {Z1:aX} (a:∃ps J,Z1=dg b s sn ps J) (h:ρ[0]? =QB (QB (.rf 0))) (e:ks.length<=5) (f:fa ρ Z1= .ok (.fz (.tuple (bO ks))) Z1):jJ sL (iR bE 2 (aj (bj "Hand" "bed" (aq 0)) (aj fa aN))) (ae (cZ au)) ρ Z1= .ok (.fz (.bool (!(fx b ks).isEmpty))) (Z1++[.lst (((fx b ks).map fK).map .fz)]++[.lst []]):=by obtain⟨ps,J,rfl⟩:=a;refine cx (vZ (ds:=[bD b,.tuple (bO ks)]) (ao (ny h) (ao f aM)) rfl (Cd vb e)) (dL (ds:=[]) (ρ':=bF ρ) (nG aI rfl (RF _))) ?_;exact lY (cS (d6 bh)) (cS (ds:=[]) bh) (Mm fun c g=>Kq vb g)
theorem LK (a:HS b p Z) (z:SW b p.1) (F:(k:Int)<b.n) (hn:Fw p.1.wt k=QN):∃Z',dj [.rf 0,.fz (nd k)] Z= .ok (.fz (.bool (F7 b p.1 k))) Z'/\HS b p Z':=by
 cases q:p.1.wt with
 |none=>
  have f:F7 b p.1 k=QN:=by unfold F7;rw[q]
  rw[f];obtain⟨ps,J,hp,rfl⟩:=a;have i:sZ (jj p.1.wt) .none=QB (.fz (.bool QG)):=by rw[q];rfl
  exact⟨_,jo rfl (og (d9 (sJ (aQ (cx (bN rfl) (af aH) (b9 i)))) (gW (af aH)))),ps,J,hp,rfl⟩
 |some x=>
  obtain⟨ks,g,w⟩:=x;have v:=(z.wt ks g w q).1;have A:=v.len vb;have i:sZ (jj p.1.wt) .none=QB (.fz (.bool QN)):=by rw[q];rfl
  have t:bA (jj p.1.wt) (.int 2)=QB (.fz (tj w)):=by rw[q];exact sY
  have e0:bA (jj p.1.wt) (.int 0)=QB (.fz (.tuple (bO ks))):=by rw[q];exact iX
  have r:=(yV fun c n h=>(v.tp c n h).1).2;cases w with
  |some cn=>
   have f:F7 b p.1 k=QN:=by unfold F7;rw[q]
   rw[f];obtain⟨ps,J,hp,rfl⟩:=a;exact⟨_,jo rfl (og (d9 (gS (aQ (cx (bN rfl) (af aH) (b9 i))) (sJ (aQ (cx (cC (bN rfl) (af aH) t) (af aH) (b9 r))))) (gW (af aH)))),ps,J,hp,rfl⟩
  |none=>
   have f:F7 b p.1 k=(decide (t7 p.1.ac p.1.oc=0)&& !(fx b (ks++[k])).isEmpty):=by unfold F7;rw[q]
   rw[f];obtain⟨Z1,h1,u⟩:=nk a;have j:(xi (bq (jJ sZ (bj "Hand" "waiting" (aq 0)) (ae (pC .none)))) (xi (bq (jJ sL (g9 (bj "Hand" "waiting" (aq 0)) (ae (pC (.int 2)))) (ae (pC (.tuple [(.str "chord")]))))) (bq (jJ sL (iR dk 1 (aj (aY "Hand" "stands" bC 1 (aq 0) aN) aN)) (ae (pC (.int 0))))))) [QB (.rf 0),QB (.fz (nd k))] Z= .ok (!decide (t7 p.1.ac p.1.oc=0)) Z1:=by
    have E:bq (jJ sL (iR dk 1 (aj (aY "Hand" "stands" bC 1 (aq 0) aN) aN)) (ae (pC (.int 0)))) [QB (.rf 0),QB (.fz (nd k))] Z= .ok (!decide (t7 p.1.ac p.1.oc=0)) Z1:=
     aQ (cx (zy (ao (bT a (by decide+kernel) rfl aM rfl h1) aM) rfl (xE p.1)) (af aH) (b9 (vX _ _)))
    obtain⟨ps,J,hp,rfl⟩:=a;exact gS (aQ (cx (bN rfl) (af aH) (b9 i))) (gS (aQ (cx (cC (bN rfl) (af aH) t) (af aH) (b9 r))) E)
   by_cases hL:t7 p.1.ac p.1.oc=0
   ·rw[decide_eq_true hL] at j⊢
    obtain⟨ps,J,hp,rfl⟩:=u;have o:k∉ks:=by rw[q] at hn;exact of_decide_eq_false hn
    have l:(ks++[k]).Nodup:=by rw[Vm];exact⟨v.nd,SK.mpr ⟨SG,Wk⟩,fun x m y B e=>o (by rw[<-Ri.mp B,<-e];exact m)⟩
    have C:(ks++[k]).length<=5:=yN l fun x m=>by
     have G:=vb.n5;rcases R9.mp m with h|h
     ·have:=v.kn x h;omega
     ·rw[Ri.mp h];omega
    refine⟨_,jo rfl (cK (gc j fY) (gW (Bh vb ⟨ps,J,rfl⟩ rfl C (cx (cC (bN rfl) (af aH) e0) (af (fy (ai (ah rfl) aI) rfl (QO rfl))) (b9 (Bg v.ne A)))))),ps,_,hp,rfl⟩
   ·rw[decide_eq_false hL] at j⊢;exact⟨Z1,jo rfl (og (d9 j (gW (af aH)))),u⟩
end
section
variable {b:Bd} (vb:VB b) {s:T3} {sn:Sn} {ps:List (Nat×Mn)} {J:aX} {ρ:bu} {i:Nat} {Z:aX} {p:T3×Sn} {k:Nat} {a:Mn} {ks:List Nat} {g:Int} {w:Option (Nat×Int)}
include vb
theorem MJ (v:WV b p.1.ac ks g w) (hn:k∉ks) (j:(k:Int)<b.n):(ks++[k]).Nodup/\(ks++[k]).length<=5:=by
 have a:(ks++[k]).Nodup:=by rw[Vm];exact⟨v.nd,SK.mpr ⟨SG,Wk⟩,fun x f y i e=>hn (by rw[<-Ri.mp i,<-e];exact f)⟩
 refine⟨a,yN a fun x f=> ?_⟩;have l:=vb.n5;rcases R9.mp f with h|h
 ·have:=v.kn x h;omega
 ·rw[Ri.mp h];omega
theorem Gu (l:SW b p.1) (j:(k:Int)<b.n) (ha:p.1.ac k=QF) (hn:Fw p.1.wt k=QN) (hm:F7 b p.1 k=QG):∃ks g,p.1.wt=QB (ks,g,QF)/\k∉ks/\WV b p.1.ac (ks++[k]) g QF/\g<b.wt:=by
 unfold F7 at hm;split at hm
 ·rename_i ks g q
  rw[Rn] at hm;obtain⟨v,m⟩:=l.wt ks g QF q;have e:k∉ks:=by rw[q] at hn;exact of_decide_eq_false hn
  obtain⟨i,u⟩:=MJ vb v e j;refine⟨ks,g,q,e,⟨by simp,i,fun x a=> ?_,fun x a=> ?_,v.g0,fun c n h=>(by cases h),fun _ x a=> ?_⟩,m⟩
  ·rcases R9.mp a with h|h
   ·exact v.kn x h
   ·rw[Ri.mp h];exact j
  ·rcases R9.mp a with h|h
   ·exact v.kf x h
   ·rw[Ri.mp h];exact ha
  ·have f:=hm.2
   cases qo:fx b (ks++[k]) with
   |nil=>rw[qo] at f;cases f
   |cons c r=>
    have o:c∈fx b (ks++[k]):=by rw[qo];exact Q8
    obtain⟨c1,t⟩:=TF.mp o;have:=Ts.mp t x a;exact(vb.vc c c1).2.2.1 x (of_decide_eq_true this)
 ·cases hm
theorem IM (l:HS b p Z) (h:SW b p.1) (e:p.1.wt=QB (ks,g,QF)) (v:WV b p.1.ac (ks++[k]) g QF) (f:WV b p.1.ac ks g QF) (m:p.2.length<900):∃Z',cW [.rf 0,.fz (nd k)] Z= .ok (.fz .none) Z'/\HS b (xx b p k) Z':=by
 obtain⟨ps,J,hp,rfl⟩:=l;have j:=v.len vb;have e0:bA (jj p.1.wt) (.int 0)=QB (.fz (.tuple (bO ks))):=by rw[e];exact iX
 have t:bA (jj p.1.wt) (.int 1)=QB (.fz (.int g)):=by rw[e];exact lL
 have r:xx b p k=if(fx b (ks++[k])).map (·.1.length)=[(ks++[k]).length] then dG b ({p.1 with wt:=QB (ks++[k],g,QF)},p.2) else({p.1 with wt:=QB (ks++[k],g,QF)},p.2):=by unfold xx;rw[e]
 have w:HS b ({p.1 with wt:=QB (ks++[k],g,QF)},p.2) (dg b {p.1 with wt:=QB (ks++[k],g,QF)} p.2 ps J):=⟨ps,J,hp,rfl⟩;have u:cL (gA 0) jC (ae (gy dS (aa (aR bA (ad 0) (pC (.int 0))) au))) ((fx b (ks++[k])).map fK) [QF] (dg b {p.1 with wt:=QB (ks++[k],g,QF)} p.2 ps (J++[.dead])) []= .ok ((bO ((fx b (ks++[k])).map (·.1.length))).map .fz) (dg b {p.1 with wt:=QB (ks++[k],g,QF)} p.2 ps (J++[.dead])):=by
  refine(nu fK (fun c=> .fz (nd c.1.length)) _ (fun ρ=>∃o,ρ=[o]) (fx b (ks++[k])) _ [] ⟨QF,rfl⟩ ?_ ?_).trans (by unfold bO;rw[RI,RI];rfl)
  ·have:=V9 (fun c:List Nat×Nat=>(ks++[k]).all fun k=>decide (k∈c.1)) b.cs;have:=vb.c4;show 0+(fx b (ks++[k])).length<=_;unfold fx;omega
  ·rintro c _ ρ ⟨o,rfl⟩;have i0:bA (fK c) (.int 0)=QB (.fz (.tuple (bO c.1))):=iX;refine⟨[QB (.fz (fK c))],rfl,rfl,af (eR (ai (aW (ah rfl) aH rfl rfl i0) aI) rfl ((jT _).trans (by rw[fQ]))),_,rfl⟩
 have n:l8 (iR bE 2 (aj (bj "Hand" "bed" (aq 0)) (aj (ae (ad 2)) aN))) [QB (.rf 0),QB (.fz (nd k)),QB (.fz (.tuple (bO (ks++[k]))))] (dg b {p.1 with wt:=QB (ks++[k],g,QF)} p.2 ps J)= .ok ((fx b (ks++[k])).map fK) (dg b {p.1 with wt:=QB (ks++[k],g,QF)} p.2 ps (J++[.dead])):=
  (EG (vZ (ao (ny rfl) (ao (af (ah rfl)) aM)) rfl (Cd vb j)) bh).trans (by rw[iW];rfl)
 have rt:cZ (aa (gy dS (aa (ad 2) au)) au) (bF [QB (.rf 0),QB (.fz (nd k)),QB (.fz (.tuple (bO (ks++[k]))))])= .ok (.ow (bO [(ks++[k]).length]),bF [QB (.rf 0),QB (.fz (nd k)),QB (.fz (.tuple (bO (ks++[k]))))]):=by refine nG (ai (eR (ai (ah rfl) aI) rfl ((jT _).trans (by rw[fQ]))) aI) rfl (QO rfl)
 have i:bq (jJ dA (l9 1 [] (l8 (iR bE 2 (aj (bj "Hand" "bed" (aq 0)) (aj (ae (ad 2)) aN)))) (gA 0) jC (ae (gy dS (aa (aR bA (ad 0) (pC (.int 0))) au)))) (ae (cZ (aa (gy dS (aa (ad 2) au)) au)))) [QB (.rf 0),QB (.fz (nd k)),QB (.fz (.tuple (bO (ks++[k]))))] (dg b {p.1 with wt:=QB (ks++[k],g,QF)} p.2 ps J)= .ok (decide ((fx b (ks++[k])).map (·.1.length)=[(ks++[k]).length])) (dg b {p.1 with wt:=QB (ks++[k],g,QF)} p.2 ps (J++[.dead])++[.lst ((bO ((fx b (ks++[k])).map (·.1.length))).map .fz)]++[.lst ((bO [(ks++[k]).length]).map .fz)]):=
  aQ (cx (vt n u) (dL rt) (lY (cS (d6 bh)) (cS bh) (we _ _)))
 have a:HS b ({p.1 with wt:=QB (ks++[k],g,QF)},p.2) (dg b {p.1 with wt:=QB (ks++[k],g,QF)} p.2 ps (J++[.dead])++[.lst ((bO ((fx b (ks++[k])).map (·.1.length))).map .fz)]++[.lst ((bO [(ks++[k]).length]).map .fz)]):=⟨ps,_,hp,rfl⟩;generalize (dg b {p.1 with wt:=QB (ks++[k],g,QF)} p.2 ps (J++[.dead])++[.lst ((bO ((fx b (ks++[k])).map (·.1.length))).map .fz)]++[.lst ((bO [(ks++[k]).length]).map .fz)]:aX)=Z3 at i a;rw[r];refine iz rfl (jc (cx (cC (bN rfl) (af aH) e0) (af (fy (ai (ah rfl) aI) rfl (QO rfl))) (b9 (Bg f.ne (f.len vb)))) rfl (AH (kJ (QB (ks++[k],g,QF)) rfl (vY (ao (af (ah rfl)) (ao (cC (bN rfl) (af aH) t) (ao (af aH) aM))) (QO rfl))) (xI i (fun q=> ?_) fun q=> ?_)))
 ·rw[if_pos (of_decide_eq_true q)];obtain⟨Z4,h1,h2⟩:=kR vb a ⟨h.sa.ac,h.sa.oc⟩ rfl v m;exact ir (bT a (by decide+kernel) rfl aM rfl h1) ⟨rfl,h2⟩
 ·rw[if_neg (of_decide_eq_false q)];exact kE ⟨rfl,a⟩
theorem HZ (a:SW b p.1) (f:p.1.wt=QB (ks,g,QF)) (v:WV b p.1.ac (ks++[k]) g QF) (h:g<b.wt):SW b (xx b p k).1:=by
 have i:xx b p k=if(fx b (ks++[k])).map (·.1.length)=[(ks++[k]).length] then dG b ({p.1 with wt:=QB (ks++[k],g,QF)},p.2) else({p.1 with wt:=QB (ks++[k],g,QF)},p.2):=by unfold xx;rw[f]
 rw[i];split
 ·exact(ki vb (p:=({p.1 with wt:=QB (ks++[k],g,QF)},p.2)) ⟨a.sa.ac,a.sa.oc⟩ fun _ _ _ e=>by cases e;exact v).1
 ·exact⟨⟨a.sa.ac,a.sa.oc⟩,fun _ _ _ e=>by cases e;exact⟨v,h⟩⟩
omit vb in
theorem BQ (s:T3) (m:Mn):(jI s m).ac=s.ac/\(jI s m).wt=s.wt:=by unfold jI;split<;>exact⟨rfl,rfl⟩
omit vb in
theorem AX {m:Mn} (h:SA b s):SA b (jI s m):=by
 unfold jI;split
 ·exact h
 ·exact⟨h.ac,fun o e=>by cases e⟩
theorem NS (B:HS b p Z) (sa:SA b p.1) (hw:p.1.wt=QF) (O:(k:Int)<b.n) (hl:p.2.length<900):∃Z',fD [.rf 0,.fz (nd k)] Z= .ok (.fz .none) Z'/\HS b (KQ b p k) Z':=by
 obtain⟨K,I⟩:=FM vb sa;have F:=Iw vb K I O;obtain⟨l,E⟩:=Ao vb K I O;obtain⟨Z1,h1,Y⟩:=nk B;have h5:=vb.n5;have U:KQ b p k=zS b (t7 p.1.ac p.1.oc) (jI p.1 (look b (t7 p.1.ac p.1.oc) k),p.2) k (look b (t7 p.1.ac p.1.oc) k):=rfl;rw[U];have N:iR dk 1 (aj (aY "Hand" "stands" bC 1 (aq 0) aN) aN) [QB (.rf 0),QB (.fz (nd k)),QF,QF,QF] Z= .ok (.fz (.int (t7 p.1.ac p.1.oc))) Z1:=zy (ao (bT B (by decide+kernel) rfl aM rfl h1) aM) rfl (xE p.1);generalize t7 p.1.ac p.1.oc=L at F l E N K I;generalize look b L k=m at F l E;obtain⟨ps,J,hp,rfl⟩:=Y;have lb:=l.lb;have X:=tK m;have c1:=Pd m;have c2:=M3 m;have c3:=kK m;have c4:=HG m;have eL:dA (.int L) (.int 0)=QB (.fz (.bool (decide (L=0)))):=jn _ _;have y:(aL (ck (ci (aU (aR ze (ad 4) (b7 (aa (pC (.str "layer")) (aa (pC (.str "once")) au)))))) (fu "Hand" "once" (aq 0) (ae (pC .none))) cI) cI) [QB (.rf 0),QB (.fz (nd k)),QB (.fz (.int L)),QB (.fz (mD m)),QB (.fz (.str (wd m)))] (dg b p.1 p.2 ps J)= .ok (.nx [QB (.rf 0),QB (.fz (nd k)),QB (.fz (.int L)),QB (.fz (mD m)),QB (.fz (.str (wd m)))]) (dg b (jI p.1 m) p.2 ps J):=by
  have t:ci (aU (aR ze (ad 4) (b7 (aa (pC (.str "layer")) (aa (pC (.str "once")) au))))) [QB (.rf 0),QB (.fz (nd k)),QB (.fz (.int L)),QB (.fz (mD m)),QB (.fz (.str (wd m)))] (dg b p.1 p.2 ps J)= .ok (!(m.aap||m.isO)) (dg b p.1 p.2 ps J):=cr (by walk_at "ev");unfold jI;cases q:(m.aap||m.isO) with
  |true=>rw[q] at t;rw[if_pos rfl];exact cK (gc t fY) fY
  |false=>rw[q] at t;rw[if_neg QV];exact cK (d9 t (AB QF rfl (af aH))) fY
 have M:=BQ p.1 m;have us:SA b (jI p.1 m):=AX sa;have e:ps.Perm (gO (jI p.1 m).ac):=by rw[M.1];exact hp
 have w:HS b (jI p.1 m,p.2) (dg b (jI p.1 m) p.2 ps J):=⟨ps,J,e,rfl⟩;generalize jI p.1 m=s2 at y M us e w;have H:U5 ((ck (ci (aU (aR dA (ad 4) (pC (.str "tap"))))) (fu "Hand" "waiting" (aq 0) (ae (b7 (aa (b7 (aa (ad 1) au)) (aa (pC (.int 0)) (aa (ad 3) au)))))) (ck (mW (ci (aU (aR dA (ad 4) (pC (.str "letter"))))) (mW (ci (aU (aR dA (ad 2) (pC (.int 0))))) (bq (jJ sL (iR bE 2 (aj (bj "Hand" "bed" (aq 0)) (aj (ae (b7 (aa (ad 1) au))) aN))) (ae (cZ au)))))) (fu "Hand" "waiting" (aq 0) (ae (b7 (aa (b7 (aa (ad 1) au)) (aa (pC (.int 0)) (aa (pC (.tuple [(.str "chord")])) au)))))) (ck (ci (aU (aR dA (ad 4) (pC (.str "once"))))) (aL (bK (aY "Hand" "come" bw 3 (aq 0) (aj (ae (ad 1)) (aj (ae (pC (.tuple [(.str "none")]))) aN))))
 (fu "Hand" "once" (aq 0) (ae (aR bA (ad 3) (pC (.int 1)))))) (bK (aY "Hand" "come" bw 3 (aq 0) (aj (ae (ad 1)) (aj (ae (ad 3)) aN))))))) [QB (.rf 0),QB (.fz (nd k)),QB (.fz (.int L)),QB (.fz (mD m)),QB (.fz (.str (wd m)))] (dg b s2 p.2 ps J)) (fun _ Z'=>SV.fz .none= .fz .none/\HS b (zS b L (s2,p.2) k m) Z') (fun _ _=>False) (fun r Z'=>r= .fz .none/\HS b (zS b L (s2,p.2) k m) Z'):=by
  have v:∀{Z:aX},ci (aU (aR dA (ad 4) (pC (.str "tap")))) [QB (.rf 0),QB (.fz (nd k)),QB (.fz (.int L)),QB (.fz (mD m)),QB (.fz (.str (wd m)))] Z= .ok m.isT Z:=cr (by walk_at "ev");have A:∀{Z:aX},ci (aU (aR dA (ad 4) (pC (.str "letter")))) [QB (.rf 0),QB (.fz (nd k)),QB (.fz (.int L)),QB (.fz (mD m)),QB (.fz (.str (wd m)))] Z= .ok m.isL Z:=cr (by walk_at "ev");have z:∀{Z:aX},ci (aU (aR dA (ad 4) (pC (.str "once")))) [QB (.rf 0),QB (.fz (nd k)),QB (.fz (.int L)),QB (.fz (mD m)),QB (.fz (.str (wd m)))] Z= .ok m.isO Z:=cr (by walk_at "ev");have C:∀{Z:aX},ci (aU (aR dA (ad 2) (pC (.int 0)))) [QB (.rf 0),QB (.fz (nd k)),QB (.fz (.int L)),QB (.fz (mD m)),QB (.fz (.str (wd m)))] Z= .ok (decide (L=0)) Z:=cr (by walk_at "ev");have S:∀{Z:aX},ae (b7 (aa (ad 1) au)) [QB (.rf 0),QB (.fz (nd k)),QB (.fz (.int L)),QB (.fz (mD m)),QB (.fz (.str (wd m)))] Z= .ok (.fz (.tuple (bO [k]))) Z:=af (fy (ai (ah rfl) aI) rfl (QO rfl));have cm:∀{Z:aX},HS b (s2,p.2) Z->VA b.ls.length m->∃Z',bK (aY "Hand" "come" bw 3 (aq 0) (aj (ae (ad 1)) (aj (ae (ad 3)) aN))) [QB (.rf 0),QB (.fz (nd k)),QB (.fz (.int L)),QB (.fz (mD m)),QB (.fz (.str (wd m)))] Z= .ok (.nx [QB (.rf 0),QB (.fz (nd k)),QB (.fz (.int L)),QB (.fz (mD m)),QB (.fz (.str (wd m)))]) Z'/\HS b (gJ (s2,p.2) k m) Z':=fun{Z} B va=>by obtain⟨Z',j,i⟩:=pL (k:=k) B (us.ak vb) va.lb (by omega) (show p.2.length<1000 by omega);exact⟨Z',fX (bT B (by decide+kernel) rfl (ao (af (ah rfl)) (ao (af (ah rfl)) aM)) rfl j),i⟩
  cases m with
  |below=>exact absurd rfl E
  |W3 c n=>refine sr v (mq (kJ (QB ([k],0,QB (c,n))) rfl (af (ρ':=bF [QB (.rf 0),QB (.fz (nd k)),QB (.fz (.int L)),QB (.fz (mD (.W3 c n))),QB (.fz (.str (wd (.W3 c n))))]) ?_)) ⟨rfl,ps,J,e,rfl⟩);show _=Res.ok (PV.fz (.tuple [.tuple [nd k],.int 0,mD (.W3 c n)]),_);walk_at "ev"
  |RJ c=>
   obtain⟨d1,d2⟩:VA b.ls.length (.RJ c)/\True:=⟨l,trivial⟩;by_cases hL:L=0
   ·rw[decide_eq_true hL] at C
    have R:=Bh vb (Z1:=dg b s2 p.2 ps J) ⟨ps,J,rfl⟩ rfl (QO rfl) S;have G:HS b (s2,p.2) (dg b s2 p.2 ps J++[.lst (((fx b [k]).map fK).map .fz)]++[.lst []]):=⟨ps,_,e,rfl⟩;have u:zS b L (s2,p.2) k (.RJ c)=if(!(fx b [k]).isEmpty)=QG then({s2 with wt:=QB ([k],0,QF)},p.2) else gJ (s2,p.2) k (.RJ c):=by show(if(decide (L=0)&& !(fx b [k]).isEmpty)=QG then _ else _)=_;rw[decide_eq_true hL,Vr]
    rw[u];refine dQ v (xI (iO A (iO C (aQ R))) (fun q=> ?_) fun q=> ?_)
    ·rw[if_pos q];refine mq (kJ (QB ([k],0,QF)) rfl (af (ρ':=bF [QB (.rf 0),QB (.fz (nd k)),QB (.fz (.int L)),QB (.fz (mD (.RJ c))),QB (.fz (.str (wd (.RJ c))))]) ?_)) ⟨rfl,ps,_,e,rfl⟩;show _=Res.ok (PV.fz (.tuple [.tuple [nd k],.int 0,.tuple [.str "chord"]]),_);walk_at "ev"
    ·rw[if_neg (by rw[q];simp)];obtain⟨Z',j,i⟩:=cm G l;exact dQ z (mq j ⟨rfl,i⟩)
   ·rw[decide_eq_false hL] at C
    have u:zS b L (s2,p.2) k (.RJ c)=gJ (s2,p.2) k (.RJ c):=by show(if(decide (L=0)&& !(fx b [k]).isEmpty)=QG then _ else _)=_;rw[decide_eq_false hL,Va,if_neg QV]
    rw[u];obtain⟨Z',j,i⟩:=cm w l;exact dQ v (dQ (iO A (gM C)) (dQ z (mq j ⟨rfl,i⟩)))
  |T8 n=>obtain⟨Z',j,i⟩:=cm w l;exact dQ v (dQ (gM A) (dQ z (mq j ⟨rfl,i⟩)))
  |none=>obtain⟨Z',j,i⟩:=cm w trivial;exact dQ v (dQ (gM A) (dQ z (mq j ⟨rfl,i⟩)))
  |once n=>obtain⟨Z',j,i⟩:=pL (k:=k) (a:= .none) w (us.ak vb) trivial (by omega) (show p.2.length<1000 by omega);have i1:bA (mD (.once n)) (.int 1)=QB (.fz (.int n)):=lL;obtain⟨Q,J2,T,rfl⟩:=i;refine dQ v (dQ (gM A) (sr z (AH (fX (bT w (by decide+kernel) rfl (ao (af (ah rfl)) (ao (af aH) aM)) rfl j)) (mq (AB (QB n) rfl (af (ρ':=bF [QB (.rf 0),QB (.fz (nd k)),QB (.fz (.int L)),QB (.fz (mD (.once n))),QB (.fz (.str (wd (.once n))))]) ?_)) ⟨rfl,Q,J2,T,rfl⟩))));show _=Res.ok (PV.fz (.int n),_);exact aW (rv:= .fz (.int n)) (ah rfl) aH rfl rfl i1
 refine iz (ρ:=[QB (.rf 0),QB (.fz (nd k)),QF,QF,QF]) rfl (jc N rfl (jc (zy (ds:=[bD b,.int L,nd k]) (ao (ny rfl) (ao (af (ah rfl)) (ao (af (ah rfl)) aM))) rfl F) rfl (jc (af (d:= .str (wd m)) (ρ':=bF [QB (.rf 0),QB (.fz (nd k)),QB (.fz (.int L)),QB (.fz (mD m)),QF]) (aW (rv:= .fz (.str (wd m))) (ah rfl) aH rfl rfl X)) rfl ?_)));refine .eq ?_ H;have P:∀{f g:eS} {ρ:bu} {Z Z':aX},aL f cI ρ Z= .ok (.nx ρ) Z'->aL f g ρ Z=g ρ Z':=fun{f g ρ Z Z'} h=>by
  unfold aL at h⊢;cases q:f ρ Z with
  |bad=>rw[q] at h;cases h
  |er x o=>rw[q] at h;cases h
  |ok fl o=>
   rw[q] at h;cases fl with
   |nx r=>cases h;rfl
   |_=>cases h
 exact P y
end
section
variable {b:Bd} (vb:VB b) {s:T3} {sn:Sn} {ps:List (Nat×Mn)} {J:aX} {ρ:bu} {i:Nat} {Z:aX} {p:T3×Sn} {k:Nat} {a:Mn} {ks:List Nat} {g:Int} {w:Option (Nat×Int)}
include vb
omit vb in
theorem AL (h:SA b s) (a:s.wt=QF):SW b s:=⟨h,fun _ _ _ e=>by rw[a] at e;cases e⟩
theorem Mi (sa:SA b p.1) (C:p.1.wt=QF) (t:(k:Int)<b.n) (ha:p.1.ac k=QF):SW b (KQ b p k).1:=by
 obtain⟨z,y⟩:=FM vb sa;obtain⟨a,l⟩:=Ao vb z y t;have F:KQ b p k=zS b (t7 p.1.ac p.1.oc) (jI p.1 (look b (t7 p.1.ac p.1.oc) k),p.2) k (look b (t7 p.1.ac p.1.oc) k):=rfl;rw[F];generalize t7 p.1.ac p.1.oc=L at a l z y;generalize look b L k=m at a l;have u:=BQ p.1 m;have us:SA b (jI p.1 m):=AX sa;have f:=u.2.trans C;have j:(jI p.1 m).ac k=QF:=by rw[u.1];exact ha
 generalize jI p.1 m=s2 at us f j;have w1:=vb.w1;have n1:[k].Nodup:=SK.mpr ⟨SG,Wk⟩;have kn:∀x∈[k],(x:Int)<b.n:=fun x i=>by rw[Ri.mp i];exact t
 have kf:∀x∈[k],s2.ac x=QF:=fun x i=>by rw[Ri.mp i];exact j
 have cm:∀m,VA b.ls.length m->SW b (gJ (s2,p.2) k m).1:=fun m A=>AL (us.cm t A) f;cases m with
 |below=>exact absurd rfl l
 |W3 c n=>refine⟨⟨us.ac,us.oc⟩,fun _ _ _ e=> ?_⟩;cases e;exact⟨⟨by simp,n1,kn,kf,Vs _,fun H B e=>by cases e;exact⟨a.1,a.2,rfl⟩,fun e=>by cases e⟩,by omega⟩
 |RJ c=>
  show SW b (if(decide (L=0)&& !(fx b [k]).isEmpty)=QG then({s2 with wt:=QB ([k],0,QF)},p.2) else gJ (s2,p.2) k (.RJ c)).1;split
  ·rename_i q
   refine⟨⟨us.ac,us.oc⟩,fun _ _ _ e=> ?_⟩;cases e;refine⟨⟨by simp,n1,kn,kf,Vs _,fun H B e=>(by cases e),fun _ x i=> ?_⟩,by omega⟩;have v:=(Rn _ _▸q:_/\_).2;cases qo:fx b [k] with
   |nil=>rw[qo] at v;cases v
   |cons c r=>
    have E:c∈fx b [k]:=by rw[qo];exact Q8
    obtain⟨c1,G⟩:=TF.mp E;exact(vb.vc c c1).2.2.1 x (of_decide_eq_true (Ts.mp G x i))
  ·exact cm _ a
 |T8 n=>exact cm _ a
 |none=>exact cm _ trivial
 |once n=>have h:=cm .none trivial;exact⟨⟨h.sa.ac,fun o e=>by cases e;exact a⟩,fun ks g w e=>by have e:s2.wt=QB (ks,g,w):=e;rw[f] at e;cases e⟩
theorem SW.wd (h:SW b s):WD b s:=fun ks g w e=>(h.wt ks g w e).1
omit vb in
theorem z5 (a:List (Nat×Mn)):∀{p:T3×Sn},p.1.ac k=QF->k∉a.map (·.1)->(j6 p a).1.ac k=QF:=by
 induction a with
 |nil=>exact fun h _=>h
 |cons q r ih=>intro p h hn;rw[QY,Rk,not_or] at hn;exact ih (p:=gJ p q.1 q.2) ((gq hn.1).trans h) hn.2
omit vb in
theorem zm (ha:p.1.ac k=QF) (hn:Fw p.1.wt k=QN):(dG b p).1.ac k=QF:=by
 unfold dG;split
 ·exact ha
 ·rename_i ks g w q;refine z5 _ (p:=({p.1 with wt:=QF},p.2)) ha fun z=> ?_;rw[q] at hn;obtain⟨x,h1,rfl⟩:=R0.mp z;exact of_decide_eq_false hn (UU h1).1
theorem GM (a:SW b p.1) (e:(k:Int)<b.n):SW b (rR b p k).1:=by
 unfold rR;split
 ·exact a
 ·rename_i q
  rw[VW,not_or] at q;have ha:p.1.ac k=QF:=by
   cases z:p.1.ac k with
   |none=>rfl
   |some x=>rw[z] at q;exact absurd rfl q.1
  have hn:Fw p.1.wt k=QN:=by
   cases z:Fw p.1.wt k with
   |false=>rfl
   |true=>exact absurd z q.2
  split
  ·rename_i qm;obtain⟨ks,g,i,j,h,f⟩:=Gu vb a e ha hn qm;exact HZ vb a i h f
  ·have d:=ki vb a.sa (SW.wd vb a);exact Mi vb d.1.sa d.2.1 e (zm ha hn)
theorem F0 (f:HS b p Z) (a:SW b p.1) (u:(k:Int)<b.n) (H:p.2.length<800):∃Z',gL [.rf 0,.fz (nd k)] Z= .ok (.fz .none) Z'/\HS b (rR b p k) Z':=by
 have I:=vb.n5;have t:k<5:=by omega
 have c1:xi (bq (yr QN (ae (ad 1)) (bj "Hand" "acts" (aq 0)))) (bq (aY "Hand" "is_waiting" bS 2 (aq 0) (aj (ae (ad 1)) aN))) [QB (.rf 0),QB (.fz (nd k))] Z= .ok ((p.1.ac k).isSome||Fw p.1.wt k) Z:=by
  have m1:=bT (ρ:=[QB (.rf 0),QB (.fz (nd k))]) (i:=0) (m:= "is_waiting") (fa:=aj (ae (ad 1)) aN) f (by decide+kernel) rfl (ao (af (ah rfl)) aM) rfl (Ez f);obtain⟨ps,J,hp,rfl⟩:=f
  have d1:yr QN (ae (ad 1)) (bj "Hand" "acts" (aq 0)) [QB (.rf 0),QB (.fz (nd k))] (dg b p.1 p.2 ps J)= .ok (.fz (.bool (p.1.ac k).isSome)) (dg b p.1 p.2 ps J):=
   (zA (af (ah rfl)) (gF rfl) rfl rfl).trans (by rw[show ji (ps.map jK) (.inl (k:Int))=_ from mn hp t];cases p.1.ac k<;>rfl)
  cases q:(p.1.ac k).isSome with
  |true=>rw[q] at d1;rw[Uu];exact sJ (aQ d1)
  |false=>rw[q] at d1;rw[Vq];exact gS (aQ d1) (aQ m1)
 refine iz rfl (xL c1 (fun q=> ?_) fun q=>mG ?_)
 ·unfold rR;rw[if_pos q];exact uH ⟨rfl,f⟩
 rw[ZX] at q;have ha:p.1.ac k=QF:=by
  cases z:p.1.ac k with
  |none=>rfl
  |some x=>rw[z] at q;exact absurd q.1 (by simp)
 have E:rR b p k=if F7 b p.1 k=QG then xx b p k else KQ b (dG b p) k:=by unfold rR;rw[if_neg (by rw[q.1,q.2];simp)]
 rw[E];obtain⟨Z1,B,e⟩:=LK vb f a u q.2;refine xL (aQ (bT f (by decide+kernel) rfl (ao (af (ah rfl)) aM) rfl B)) (fun l=> ?_) fun l=>mG ?_
 ·rw[if_pos l];obtain⟨ks,g,h,L,G,K⟩:=Gu vb a u ha q.2 l;obtain⟨Z2,h2,j⟩:=IM vb e a h G (a.wt _ _ _ h).1 (by omega);exact M6 (kW (bT e (by decide+kernel) rfl (ao (af (ah rfl)) aM) rfl h2) (uH ⟨rfl,j⟩))
 ·rw[if_neg (by rw[l];simp)]
  have d:=ki vb a.sa (SW.wd vb a);have y:∀Z2,HS b (dG b p) Z2->U5 (bK (aY "Hand" "begin" fD 2 (aq 0) (aj (ae (ad 1)) aN)) [QB (.rf 0),QB (.fz (nd k))] Z2) (fun _ Z'=>SV.fz .none= .fz .none/\HS b (KQ b (dG b p) k) Z') (fun _ _=>False) (fun r Z'=>r= .fz .none/\HS b (KQ b (dG b p) k) Z'):=fun Z2 j=>by obtain⟨Z3,C,o⟩:=NS vb j d.1.sa d.2.1 u (by have:=d.2.2.1;omega);exact ir (bT j (by decide+kernel) rfl (ao (af (ah rfl)) aM) rfl C) ⟨rfl,o⟩
  cases qw:p.1.wt with
  |none=>
   have F:dG b p=p:=by unfold dG;rw[qw]
   have h:ri (jj p.1.wt) .none=QB (.fz (.bool QN)):=by rw[qw];rfl
   have v:=y Z1 (by rw[F];exact e);obtain⟨ps,J,hp,rfl⟩:=e;exact qj (aQ (cx (bN rfl) (af aH) (b9 h))) (mG v)
  |some x=>
   obtain⟨ks,g,w⟩:=x;have h:ri (jj p.1.wt) .none=QB (.fz (.bool QG)):=by rw[qw];rfl
   obtain⟨Z2,h2,j⟩:=kR vb e a.sa qw (a.wt _ _ _ qw).1 (by omega);have A:=bT (ρ:=[QB (.rf 0),QB (.fz (nd k))]) (i:=0) (m:= "decide") e (by decide+kernel) rfl aM rfl h2;obtain⟨ps,J,hp,rfl⟩:=e;exact wm (aQ (cx (bN rfl) (af aH) (b9 h))) (kW A (y Z2 j))
theorem uE (e:SW b p.1) (f:Fw p.1.wt k=QG):SW b (d4 b p k).1/\(d4 b p k).2.length<=p.2.length+5:=by
 unfold d4;split
 ·have d:=ki vb e.sa (SW.wd vb e);exact⟨d.1,d.2.2.1⟩
 ·rename_i ks g c n q;have v:=(e.wt _ _ _ q).1;rw[q] at f;have h:=v.kn k (of_decide_eq_true f);have i:=(v.tp c n rfl).1;refine⟨AL (SA.cm ⟨e.sa.ac,e.sa.oc⟩ h i) rfl,?_⟩;have:=rU (p:=({p.1 with wt:=QF},p.2)) (k:=k) (a:= .RJ c);have:(gJ ({p.1 with wt:=QF},p.2) k (.RJ c)).2.length<=p.2.length+1:=this;omega
 ·exact⟨e,abx _ _⟩
theorem kF (j:HS b p Z) (e:SW b p.1) (f:Fw p.1.wt k=QG) (B:p.2.length<800):∃Z',fZ [.rf 0,.fz (nd k)] Z= .ok (.fz .none) Z'/\HS b (d4 b p k) Z':=by
 have E:=vb.n5;cases q:p.1.wt with
 |none=>rw[q] at f;cases f
 |some x=>
  obtain⟨ks,g,w⟩:=x;have v:=(e.wt _ _ _ q).1;have l:k∈ks:=by rw[q] at f;exact of_decide_eq_true f
  have t:bA (jj p.1.wt) (.int 2)=QB (.fz (tj w)):=by rw[q];exact sY
  have A:=(yV fun c n h=>(v.tp c n h).1).1;have r:∀{Z:aX},ci (aU (aR dA (ad 2) (pC (.tuple [.str "chord"])))) [QB (.rf 0),QB (.fz (nd k)),QB (.fz (tj w))] Z= .ok w.isNone Z:=cr (cF (aW (ah rfl) aH rfl rfl A) rfl);cases w with
  |none=>
   have es:d4 b p k=dG b p:=by unfold d4;rw[q]
   rw[es];obtain⟨Z2,h2,o⟩:=kR vb j e.sa q v (by omega);have y:=bT (ρ:=[QB (.rf 0),QB (.fz (nd k)),QB (.fz (tj QF))]) (i:=0) (m:= "decide") j (by decide+kernel) rfl aM rfl h2;obtain⟨ps,J,hp,rfl⟩:=j;exact iz rfl (jc (cC (bN rfl) (af aH) t) rfl (sr r (ir y ⟨rfl,o⟩)))
  |some cn=>
   obtain⟨c,n⟩:=cn;have es:d4 b p k=gJ ({p.1 with wt:=QF},p.2) k (.RJ c):=by unfold d4;rw[q]
   rw[es];have z:=(v.tp c n rfl).1;have C:=v.kn k l;obtain⟨ps,J,hp,rfl⟩:=j;have u:HS b ({p.1 with wt:=QF},p.2) (dg b {p.1 with wt:=QF} p.2 ps J):=⟨ps,J,hp,rfl⟩;obtain⟨Z2,h2,o⟩:=pL (k:=k) (a:= .RJ c) u (SA.ak vb ⟨e.sa.ac,e.sa.oc⟩) z (by omega) (show p.2.length<1000 by omega);have i1:bA (tj (QB (c,n))) (.int 1)=QB (.fz (.str (jG c))):=lL;exact iz rfl (jc (cC (bN rfl) (af aH) t) rfl (dQ r (AH (kJ QF rfl (af aH)) (ir (bT u (by decide+kernel) rfl (ao (af (ah rfl)) (ao (af (fy (ai aH (ai (aW (ah rfl) aH rfl rfl i1) aI)) rfl (QO rfl))) aM)) rfl h2) ⟨rfl,o⟩))))
omit vb in
theorem Lc (a:SW b p.1):SW b (go p k).1:=by
 refine⟨a.sa.gg,?_⟩;unfold go;split
 ·intro ks g w e;obtain⟨v,h⟩:=a.wt ks g w e;exact⟨⟨v.ne,v.nd,v.kn,fun x f=>by
   by_cases z:x=k
   ·rw[z];exact d8
   ·exact(gq z).trans (v.kf x f),v.g0,v.tp,v.ch⟩,h⟩
 ·exact a.wt
theorem Im (a:SW b p.1):SW b (CJ b p k).1:=by
 unfold CJ;split
 ·rename_i q;exact Lc (uE vb a q).1
 ·exact Lc a
theorem JC (e:HS b p Z) (g:SW b p.1) (v:(k:Int)<b.n) (l:p.2.length<700):∃Z',ip [.rf 0,.fz (nd k)] Z= .ok (.fz .none) Z'/\HS b (CJ b p k) Z':=by
 have w:=vb.n5;have h:k<5:=by omega
 have f:∀{p:T3×Sn} {Z:aX},HS b p Z->SW b p.1->p.2.length<800->U5 (ck (bq (yr QN (ae (ad 1)) (bj "Hand" "acts" (aq 0)))) (bK (aY "Hand" "go" iL 2 (aq 0) (aj (ae (ad 1)) aN))) cI [QB (.rf 0),QB (.fz (nd k))] Z) (fun _ Z'=>SV.fz .none= .fz .none/\HS b (go p k) Z') (fun _ _=>False) (fun r Z'=>r= .fz .none/\HS b (go p k) Z'):=fun{p Z} e g l=>by
  cases qa:p.1.ac k with
  |none=>
   have o:go p k=p:=by unfold go;rw[qa]
   rw[o];obtain⟨ps,J,hp,rfl⟩:=e;refine dQ (aQ ((zA (af (ah rfl)) (gF rfl) rfl rfl).trans (by rw[show ji (ps.map jK) (.inl (k:Int))=_ from mn hp h,qa];rfl))) (kE ⟨rfl,ps,J,hp,rfl⟩)
  |some a=>obtain⟨Z2,h2,t⟩:=OO e (g.sa.ak vb) qa (by omega);have j:=bT (ρ:=[QB (.rf 0),QB (.fz (nd k))]) (i:=0) (m:= "go") (fa:=aj (ae (ad 1)) aN) e (by decide+kernel) rfl (ao (af (ah rfl)) aM) rfl h2;obtain⟨ps,J,hp,rfl⟩:=e;exact sr (aQ ((zA (af (ah rfl)) (gF rfl) rfl rfl).trans (by rw[show ji (ps.map jK) (.inl (k:Int))=_ from mn hp h,qa];rfl))) (ir j ⟨rfl,t⟩)
 refine iz rfl (xL (aQ (bT e (by decide+kernel) rfl (ao (af (ah rfl)) aM) rfl (Ez e))) (fun q=> ?_) fun q=> ?_)
 ·unfold CJ;rw[if_pos q];obtain⟨Z1,h1,u⟩:=kF vb e g q (by omega);have z:=uE vb g q;exact kW (bT e (by decide+kernel) rfl (ao (af (ah rfl)) aM) rfl h1) (f u z.1 (by omega))
 ·unfold CJ;rw[if_neg (by rw[q];simp)];exact mG (f e g (by omega))
theorem J0 (a:SW b p.1):SW b (oJ b p).1:=by
 unfold oJ;split
 ·exact a
 ·rename_i ks g w q
  obtain⟨v,i⟩:=a.wt ks g w q;have f:WV b p.1.ac ks (g+1) w:=⟨v.ne,v.nd,v.kn,v.kf,by have:=v.g0;omega,v.tp,v.ch⟩;split
  ·exact(ki vb (p:=({p.1 with wt:=QB (ks,g+1,w)},p.2)) ⟨a.sa.ac,a.sa.oc⟩ fun _ _ _ e=>by cases e;exact f).1
  ·rename_i h;exact⟨⟨a.sa.ac,a.sa.oc⟩,fun _ _ _ e=>by cases e;exact⟨f,by omega⟩⟩
theorem Jl (j:HS b p Z) (a:SW b p.1) (r:p.2.length<800):∃Z',fA [.rf 0] Z= .ok (.fz .none) Z'/\HS b (oJ b p) Z':=by
 obtain⟨ps,J,hp,rfl⟩:=j;cases q:p.1.wt with
 |none=>
  have e:oJ b p=p:=by unfold oJ;rw[q]
  rw[e];have f:sZ (jj p.1.wt) .none=QB (.fz (.bool QG)):=by rw[q];rfl
  exact iz rfl (wm (aQ (cx (bN rfl) (af aH) (b9 f))) (uH ⟨rfl,ps,J,hp,rfl⟩))
 |some x=>
  obtain⟨ks,g,w⟩:=x;have v:=(a.wt _ _ _ q).1;have i:WV b p.1.ac ks (g+1) w:=⟨v.ne,v.nd,v.kn,v.kf,by have:=v.g0;omega,v.tp,v.ch⟩;have e:oJ b p=if g+1=b.wt then dG b ({p.1 with wt:=QB (ks,g+1,w)},p.2) else({p.1 with wt:=QB (ks,g+1,w)},p.2):=by unfold oJ;rw[q]
  rw[e];have f:sZ (jj p.1.wt) .none=QB (.fz (.bool QN)):=by rw[q];rfl
  have e0:bA (jj p.1.wt) (.int 0)=QB (.fz (.tuple (bO ks))):=by rw[q];exact iX
  have n:bA (jj p.1.wt) (.int 2)=QB (.fz (tj w)):=by rw[q];exact sY
  have m:bA (jj p.1.wt) (.int 1)=QB (.fz (.int g)):=by rw[q];exact lL
  have l:bA (bD b) (.int 3)=QB (.fz (.int b.wt)):=LO rfl;have h:HS b ({p.1 with wt:=QB (ks,g+1,w)},p.2) (dg b {p.1 with wt:=QB (ks,g+1,w)} p.2 ps J):=⟨ps,J,hp,rfl⟩;refine iz rfl (qj (aQ (cx (bN rfl) (af aH) (b9 f))) (mG (jc (cx (cC (bN rfl) (af aH) m) (af aH) (b9 (gp _ _))) rfl (AH (kJ (QB (ks,g+1,w)) rfl (vY (ao (cC (bN rfl) (af aH) e0) (ao (af (ah rfl)) (ao (cC (bN rfl) (af aH) n) aM))) (QO rfl))) (xI (aQ (cx (af (ah rfl)) (cC (ny rfl) (af aH) l) (b9 (jn _ _)))) (fun z=> ?_) fun z=> ?_)))))
  ·rw[if_pos (of_decide_eq_true z)];obtain⟨Z2,h2,o⟩:=kR vb h ⟨a.sa.ac,a.sa.oc⟩ rfl i (show p.2.length<900 by omega);exact ir (bT h (by decide+kernel) rfl aM rfl h2) ⟨rfl,o⟩
  ·rw[if_neg (of_decide_eq_false z)];exact kE ⟨rfl,h⟩
noncomputable def VN.aaG:VN->Bool
 | .turn=>QG
 |_=>QN
noncomputable def VN.isDown:VN->Bool
 | .down _=>QG
 |_=>QN
def EV (b:Bd):VN->Prop
 | .down k=>(k:Int)<b.n
 | .up k=>(k:Int)<b.n
 | .turn=>True
theorem wa (a:SW b s) (f:EV b e):SW b (aD b s e).1:=by
 cases e with
 |down k=>exact GM vb a f
 |up k=>exact Im vb a
 |turn=>exact J0 vb a
omit vb in
theorem t8:∀l:List (Nat×Mn),aJ qO (l.map pD)=QB (l.map jK)
 |[]=>rfl
 |q::r=>by rw[QY];unfold aJ;rw[t8 r];rfl
omit vb in
theorem yg:∀(l a:List (Nat×Mn)),((a++l).map (·.1)).Nodup->lJ (a.map jK) (l.map jK)=(a++l).map jK
 |[],a,_=>by rw[Rf];rfl
 |q::r,a,h=>by
  have hn:∀x∈a,x.1≠q.1:=fun x b e=>by rw[Q3,Vm] at h;exact h.2.2 _ (R0.mpr ⟨x,b,rfl⟩) q.1 Q8 e
  have g:jB (a.map jK) (jK q).1 (jK q).2=(a++[q]).map jK:=by
   unfold jB;rw[if_neg ?_,Q3]
   ·rfl
   ·intro z;obtain⟨i,h1,h2⟩:=Xx.mp z;obtain⟨x,f,rfl⟩:=R0.mp h1;have:=Sum.inl.inj (of_decide_eq_true h2);exact hn x f (by omega)
  show lJ (jB (a.map jK) (jK q).1 (jK q).2) (r.map jK)=_;rw[g,yg r (a++[q]) (by rw[Rj];exact h),Rj];rfl
omit vb in
theorem HH:dw [.rf 0,.fz (bD b),.fz (cz s)] [.obj "Hand" []]= .ok (.fz .none) (dg b s [] (gO s.ac) []):=by
 have e0:bA (cz s) (.int 0)=QB (.fz (.tuple ((gO s.ac).map pD))):=iX;have m:bA (cz s) (.int 1)=QB (.fz (jj s.wt)):=lL;have l:bA (cz s) (.int 2)=QB (.fz (sN s.oc)):=sY;have n:d7 "bed" (.fz (bD b)) []=([("bed",.fz (bD b))]:List (Str×SV)):=rfl;have p1:d7 "acts" (.rf 1) ([("bed",.fz (bD b))]:List (Str×SV))=([("bed",.fz (bD b)),("acts",.rf 1)]:List (Str×SV)):=by unfold d7;rw[if_neg (by decide+kernel)];rfl
 have p2:d7 "waiting" (.fz (jj s.wt)) ([("bed",.fz (bD b)),("acts",.rf 1)]:List (Str×SV))=([("bed",.fz (bD b)),("acts",.rf 1),("waiting",.fz (jj s.wt))]:List (Str×SV)):=by unfold d7;rw[if_neg (by decide+kernel)];unfold d7;rw[if_neg (by decide+kernel)];rfl
 have g:d7 "once" (.fz (sN s.oc)) ([("bed",.fz (bD b)),("acts",.rf 1),("waiting",.fz (jj s.wt))]:List (Str×SV))=([("bed",.fz (bD b)),("acts",.rf 1),("waiting",.fz (jj s.wt)),("once",.fz (sN s.oc))]:List (Str×SV)):=by unfold d7;rw[if_neg (by decide+kernel)];unfold d7;rw[if_neg (by decide+kernel)];unfold d7;rw[if_neg (by decide+kernel)];rfl
 have e:d7 "sent" (.rf 2) ([("bed",.fz (bD b)),("acts",.rf 1),("waiting",.fz (jj s.wt)),("once",.fz (sN s.oc))]:List (Str×SV))=t6 b s:=by unfold d7;rw[if_neg (by decide+kernel)];unfold d7;rw[if_neg (by decide+kernel)];unfold d7;rw[if_neg (by decide+kernel)];unfold d7;rw[if_neg (by decide+kernel)];rfl
 have mg:lJ [] ((gO s.ac).map jK)=(gO s.ac).map jK:=yg (gO s.ac) [] (rC s.ac);have a:∀{x:SV} {ρ:bu} {fs:List (Str×SV)} {Z:aX} {fe:dh} {f:Str} {c:Cell} {Z1:aX},ρ[0]? =QB (QB (.rf 0))->fe ρ Z= .ok x (.obj "Hand" fs::Z1)->fs.length<100->fu "Hand" f (aq 0) fe ρ Z= .ok (.nx ρ) (.obj "Hand" (d7 f x fs)::Z1):=fun h j i=>(nr j (a9 h) rfl i).trans rfl
 have ha:xN (ae (aR bA (ad 2) (pC (.int 0)))) [QB (.rf 0),QB (.fz (bD b)),QB (.fz (cz s))] [.obj "Hand" ([("bed",.fz (bD b))]:List (Str×SV))]= .ok (.rf 1) [.obj "Hand" ([("bed",.fz (bD b))]:List (Str×SV)),.WN ((gO s.ac).map jK)]:=
  (Jv (af (d:= .tuple ((gO s.ac).map pD)) (aW (rv:= .fz (.tuple ((gO s.ac).map pD))) (ah rfl) aH rfl rfl e0)) (t8 _)).trans (by rw[mg];rfl)
 refine ml (ρ:=[QB (.rf 0),QB (.fz (bD b)),QB (.fz (cz s))]) (ρ1:=[QB (.rf 0),QB (.fz (bD b)),QB (.fz (cz s))]) rfl (cK (a rfl (c:= .dead) (af (d:=bD b) (ah rfl)) (QO rfl)) (cK (a rfl (c:= .dead) ha (QO rfl)) (cK (a rfl (c:= .dead) (af (d:=jj s.wt) (aW (rv:= .fz (jj s.wt)) (ah rfl) aH rfl rfl m)) (QO rfl)) (cK (a rfl (c:= .dead) (af (d:=sN s.oc) (aW (rv:= .fz (sN s.oc)) (ah rfl) aH rfl rfl l)) (QO rfl)) ?_))));rw[p1,p2,g];refine(a (fs:=([("bed",.fz (bD b)),("acts",.rf 1),("waiting",.fz (jj s.wt)),("once",.fz (sN s.oc))]:List (Str×SV))) rfl (c:= .dead) (dL (ds:=[]) (nG aI rfl (RF _))) (QO rfl)).trans ?_;show RS.ok _ (Cell.obj "Hand" (d7 "sent" (.rf 2) ([("bed",.fz (bD b)),("acts",.rf 1),("waiting",.fz (jj s.wt)),("once",.fz (sN s.oc))]:List (Str×SV)))::_)=_;rw[e];rfl
omit vb in
theorem HW (e:VN):∃x:Str,bA (cH e) (.int 0)=QB (.fz (.str x))/\dA (.str x) (.str "turn")=QB (.fz (.bool (e.aaG)))/\dA (.str x) (.str "down")=QB (.fz (.bool (e.isDown))):=by
 have b:QJ.strOk "down"=QG:=by decide+kernel
 have f:QJ.strOk "up"=QG:=by decide+kernel
 have a:QJ.strOk "turn"=QG:=by decide+kernel
 cases e with
 |down k=>exact⟨"down",iX,A1 b a (by decide+kernel),KB b⟩
 |up k=>exact⟨"up",iX,A1 f a (by decide+kernel),A1 f b (by decide+kernel)⟩
 |turn=>exact⟨"turn",iX,KB a,A1 a b (by decide+kernel)⟩
theorem J1 (j:SW b s) (o:EV b e):∃Z',g6 [.fz (bD b),.fz (cz s),.fz (cH e)] []= .ok (.tp [.rf 2,.fz (cz (aD b s e).1)]) Z'/\sh Z' (.rf 2)=QB (.list ((aD b s e).2.map sQ)):=by
 have a:HS b (s,[]) (dg b s [] (gO s.ac) []):=⟨gO s.ac,[],.refl _,rfl⟩;obtain⟨x,l,w1,p⟩:=HW e;have h:∀{Z:aX},ci (aU (aR dA (aR bA (ad 2) (pC (.int 0))) (pC (.str "turn")))) [QB (.fz (bD b)),QB (.fz (cz s)),QB (.fz (cH e)),QB (.rf 0)] Z= .ok (e.aaG) Z:=cr (cF (aW (aW (ah rfl) aH rfl rfl l) aH rfl rfl w1) rfl);have n:∀{Z:aX},ci (aU (aR dA (aR bA (ad 2) (pC (.int 0))) (pC (.str "down")))) [QB (.fz (bD b)),QB (.fz (cz s)),QB (.fz (cH e)),QB (.rf 0)] Z= .ok (e.isDown) Z:=cr (cF (aW (aW (ah rfl) aH rfl rfl l) aH rfl rfl p) rfl);have f:∀{Z:aX},HS b (aD b s e) Z->U5 (gn (mi (aj (bj "Hand" "sent" (aq 3)) (aj (aY "Hand" "stands" bC 1 (aq 3) aN) aN))) [QB (.fz (bD b)),QB (.fz (cz s)),QB (.fz (cH e)),QB (.rf 0)] Z) (fun _ Z'=>SV.fz .none= .tp [.rf 2,.fz (cz (aD b s e).1)]/\sh Z' (.rf 2)=QB (.list ((aD b s e).2.map sQ))) (fun _ _=>False) (fun r Z'=>r= .tp [.rf 2,.fz (cz (aD b s e).1)]/\sh Z' (.rf 2)=QB (.list ((aD b s e).2.map sQ))):=fun{Z} hs=>by obtain⟨Z1,h1,g⟩:=nk hs;have m:=bT (ρ:=[QB (.fz (bD b)),QB (.fz (cz s)),QB (.fz (cH e)),QB (.rf 0)]) (i:=3) (m:= "stands") hs (by decide+kernel) rfl aM rfl h1;obtain⟨ps,J,hp,rfl⟩:=hs;obtain⟨t,v,u,rfl⟩:=g;exact M0 (K4 (ao (uZ rfl) (ao m aM)) (QO rfl) rfl rfl) ⟨rfl,cS rfl⟩
 have q:tO "Hand" dw 3 (aj (ae (ad 0)) (aj (ae (ad 1)) aN)) [QB (.fz (bD b)),QB (.fz (cz s)),QB (.fz (cH e)),QF] []= .ok (.rf 0) (dg b s [] (gO s.ac) []):=MM (ao (af (ah rfl)) (ao (af (ah rfl)) aM)) rfl HH;refine iz rfl (jc q rfl ?_);cases e with
 |turn=>obtain⟨Z1,h1,g⟩:=Jl vb a j (show 0<800 by decide);exact wm h (kW (bT a (by decide+kernel) rfl aM rfl h1) (f g))
 |down k=>obtain⟨Z1,h1,g⟩:=F0 vb a j o (show 0<800 by decide);have i1:bA (cH (.down k)) (.int 1)=QB (.fz (nd k)):=lL;exact qj h (wm n (kW (bT a (by decide+kernel) rfl (ao (af (aW (ah rfl) aH rfl rfl i1)) aM) rfl h1) (f g)))
 |up k=>obtain⟨Z1,h1,g⟩:=JC vb a j o (show 0<700 by decide);have i1:bA (cH (.up k)) (.int 1)=QB (.fz (nd k)):=lL;exact qj h (qj n (kW (bT a (by decide+kernel) rfl (ao (af (aW (ah rfl) aH rfl rfl i1)) aM) rfl h1) (f g)))
theorem Ld {e:VN} (a:SW b s) (g:EV b e):qQ g6 3 [.fz (bD b),.fz (cz s),.fz (cH e)] Z= .ok (.tp [.rf Z.length,.fz (cz (aD b s e).1)]) (Z++[.lst (((aD b s e).2.map sQ).map .fz)]):=by
 obtain⟨Z',h1,h2⟩:=J1 vb a g;unfold qQ;rw[if_pos (show([.fz (bD b),.fz (cz s),.fz (cH e)]:List SV).length=3 from rfl),show aJ x0 [.fz (bD b),.fz (cz s),.fz (cH e)]=QB [bD b,cz s,cH e] from rfl];dsimp only;rw[show[bD b,cz s,cH e].map SV.fz=[.fz (bD b),.fz (cz s),.fz (cH e)] from rfl,h1];show(match Dt Z' Z.length [.rf 2,.fz (cz (aD b s e).1)] with
  |some (l',cs,js)=>if js.Nodup then RS.ok (SV.tp l') (Z++cs.map Ph) else .bad
  |none=> .bad)=_
 have f:Dt Z' Z.length [.rf 2,.fz (cz (aD b s e).1)]=QB ([.rf Z.length,.fz (cz (aD b s e).1)],[(aD b s e).2.map sQ],[2]):=by unfold Dt;rw[h2];rfl
 rw[f];dsimp only;rw[if_pos (by decide)];rfl
end
noncomputable def yZ:T3:=⟨fun _=>QF,QF,QF⟩
theorem vO (b:Bd):SW b yZ:=⟨⟨fun k a e=>(by cases e),fun o e=>(by cases e)⟩,fun ks g w e=>(by cases e)⟩
theorem vn {α:Type} {f:α->D}:∀{l:List α},(∀a∈l,QJ.canLay0 (f a)=QG)->QJ.canLayAll0 (l.map f)=QG
 |[],_=>rfl
 |a::r,h=>by show(QJ.canLay0 (f a)&&QJ.canLayAll0 (r.map f))=QG;rw[h a Q8,vn fun x b=>h x (Q4 _ b)];rfl
theorem pK {α:Type} {f:α->D} {n:Nat}:∀{l:List α},(∀a∈l,QJ.depth (f a)<=n)->QJ.depthAll (l.map f)<=n
 |[],_=>RF _
 |a::r,h=>af3.mpr ⟨h a Q8,pK fun x b=>h x (Q4 _ b)⟩
theorem Lm {d:D} (h1:QJ.canLay0 d=QG) (h2:QJ.depth d<=64):lw d=QG:=by unfold lw;rw[h1,decide_eq_true h2];rfl
theorem uP {d:D} (h:lw d=QG):QJ.canLay0 d=QG:=by unfold lw at h;exact(Rn _ _▸h:_/\_).1
theorem Ch {d:D} (h:lw d=QG):sL d d=QB (.fz (.bool QN)):=by unfold sL;rw[h,uP h,TK,if_pos rfl,Vv d (uP h)];rfl
theorem IZ {d:D} (h:lw d=QG):dA d d=QB (.fz (.bool QG)):=by unfold dA;rw[h,uP h,TK,if_pos rfl,Vv d (uP h)]
section
variable {b:Bd} (vb:VB b) {s:T3} {p:T3×Sn} {k:Nat} {a:Mn}
include vb
end
end STP
namespace K41
open PySem L2 L3 STP
noncomputable def om:FS:=(bV (mM (aU (aR NL (ad 1) (gy dS (aa (ad 0) au)))) (dW (aR bA (ad 0) (ad 1))) eO)
 (dW (pC (.int 0))))
noncomputable def bW:FN:=gC 2 om
noncomputable def gh:FS:=(bV (mM (My (aU (aR NL (ad 0) (pC (.int 0)))) (aU (aR Pw (ad 0) (aR Jf (pC (.int 10)) (pC (.int 18)))))) (bV (oM (oX jH (aa (ad 1) au)) (gN 3) (gX (aR CZ (ad 0) (pC (.int 1000))) (gN 0)))
 (dW (aR qH (ad 0) (ad 2)))) eO)
 (bV (gX (aR gU (aR dB (aR dB (aR qH (ad 0) (pC (.int 1000033))) (aR gU (pC (.int 77)) (ad 1))) (pC (.int 5))) (aR dB (aR gU (ad 1) (ad 1)) (pC (.int 40009)))) (gN 4))
 (dW (aR qH (aR CZ (aR qH (aR dB (aR gU (aR qH (ad 4) (pC (.int 998857))) (pC (.int 30011))) (ad 1)) (pC (.int 999983))) (pC (.int 3))) (ad 2)))))
noncomputable def aO:FN:=gC 5 gh
noncomputable def lh:FS:=(dW (aR g9 (pC (.str "abz")) (dI aO 3 (aa (ad 0) (aa (ad 1) (aa (pC (.int 3)) au))))))
noncomputable def cT:FN:=gC 2 lh
noncomputable def dM:FS:=(bV (gX (dI aO 3 (aa (ad 0) (aa (pC (.int 11)) (aa (pC (.int 12)) au)))) (gN 3))
 (bV (mM (aU (aR dA (ad 2) (pC (.int 1)))) (gX (aR bA (cZ (aa (pC (.int 1)) (aa (pC (.int 1)) (aa (pC (.int 1)) (aa (pC (.int 8)) au))))) (dI aO 3 (aa (ad 0) (aa (pC (.int 12)) (aa (pC (.int 4)) au))))) (gN 3)) eO)
 (bV (gX (aR dB (pC (.int 1)) (dI aO 3 (aa (ad 0) (aa (pC (.int 13)) (aa (gy AW (aa (pC (.int 1)) (aa (aR sD (ad 2) (pC (.int 1))) au))) au))))) (gN 4))
 (bV (mM (My (aU (aR dA (ad 3) (pC (.int 4)))) (aU (aR dA (ad 3) (pC (.int 5))))) (dW (b7 (aa (pC (.str "layer")) (aa (ad 4) au)))) eO)
 (bV (mM (My (aU (aR dA (ad 3) (pC (.int 6)))) (aU (aR dA (ad 3) (pC (.int 7))))) (dW (b7 (aa (pC (.str "tap")) (aa (dI cT 2 (aa (ad 0) (aa (pC (.int 14)) au))) (aa (ad 4) au))))) eO)
 (bV (mM (aU (aR dA (ad 3) (pC (.int 8)))) (dW (b7 (aa (pC (.str "none")) au))) eO)
 (bV (mM (aU (aR dA (ad 3) (pC (.int 9)))) (dW (b7 (aa (pC (.str "once")) (aa (ad 4) au)))) eO)
 (bV (mM (zb (aU (aR MF (ad 3) (pC (.int 9)))) (aU (aR MF (ad 1) (pC (.int 0))))) (dW (b7 (aa (pC (.str "below")) au))) eO)
 (dW (b7 (aa (pC (.str "letter")) (aa (dI cT 2 (aa (ad 0) (aa (pC (.int 15)) au))) au))))))))))))
noncomputable def dU:FN:=gC 5 dM
noncomputable def fP:FS:=(bV (gX (cZ au) (gN 3))
 (bV (oM (oX jH (aa (aR Nb (pC (.int 1)) (ad 1)) au)) (gN 4) (bV (gX (gy hV (aa (dZ 1 [4] (oX jH (aa (ad 1) au)) (gN 0) (aU (aR dA (aR BK (aR Jn (ad 1) (ad 0)) (pC (.int 1))) (pC (.int 1)))) (ad 0)) au)) (gN 5))
 (bV (gX (DM (aR MF (gy dS (aa (ad 5) au)) (pC (.int 1))) (gy qY (aa (dZ 1 [2] (ib (ad 5)) (gN 0) dr (aR dA (aR bA (aR bA (ad 1) (ad 0)) (pC (.int 0))) (pC (.str "letter")))) au))) (gN 6))
 (mM (zb (aU (ad 6)) (zb (aU (aR NL (gy dS (aa (ad 3) au)) (pC (.int 4)))) (aU (aR dA (dI aO 3 (aa (ad 0) (aa (aR dB (pC (.int 20)) (ad 4)) (aa (pC (.int 3)) au)))) (pC (.int 0)))))) (oy (zC 3 (b7 (aa (ad 5) (aa (aR g9 (pC (.str "abcz")) (dI aO 3 (aa (ad 0) (aa (aR dB (pC (.int 40)) (ad 4)) (aa (pC (.int 4)) au))))) au))))) eO))))
 (dW (gy hV (aa (ad 3) au)))))
noncomputable def fV:FN:=gC 7 fP
noncomputable def jx:FS:=(bV (gX (dI bW 2 (aa (ad 0) (aa (ad 1) au))) (gN 3))
 (bV (gX (aR bA (cZ (aa (pC (.int 1)) (aa (pC (.int 2)) (aa (pC (.int 2)) (aa (pC (.int 2)) (aa (pC (.int 3)) au)))))) (dI aO 3 (aa (ad 3) (aa (pC (.int 5)) (aa (pC (.int 5)) au))))) (gN 4))
 (bV (gX (cZ au) (gN 5))
 (bV (oM (oX jH (aa (ad 4) au)) (gN 6) (bV (gX (dZ 1 [0,1,2,6] (oX jH (aa (ad 2) au)) (gN 0) dr (dI bW 2 (aa (ad 1) (aa (aR dB (aR dB (aR dB (ad 2) (pC (.int 1))) (aR gU (ad 3) (ad 4))) (ad 0)) au)))) (gN 7))
 (oy (zC 5 (gy hV (aa (dZ 1 [6,4] (ib (ad 7)) (gN 0) dr (dI dU 3 (aa (ad 0) (aa (ad 1) (aa (ad 2) au))))) au))))))
 (bV (gX (dI fV 3 (aa (dI bW 2 (aa (ad 0) (aa (aR dB (ad 1) (pC (.int 10))) au))) (aa (ad 2) (aa (aR bA (ad 5) (pC (.int 0))) au)))) (gN 8))
 (dW (b7 (aa (ad 2) (aa (gy hV (aa (ad 5) au)) (aa (ad 8) (aa (aR dB (pC (.int 1)) (dI aO 3 (aa (ad 3) (aa (pC (.int 6)) (aa (aR bA (cZ (aa (pC (.int 4)) (aa (pC (.int 4)) (aa (pC (.int 2)) au)))) (aR sD (ad 2) (pC (.int 1)))) au))))) au)))))))))))
noncomputable def jv:FN:=gC 9 jx
noncomputable def ot:FS:=(dW (aR bA (cZ (aa (pC (.int 1)) (aa (pC (.int 2)) (aa (pC (.int 2)) (aa (pC (.int 3)) au))))) (dI aO 3 (aa (dI bW 2 (aa (ad 0) (aa (pC (.int 0)) au))) (aa (pC (.int 1)) (aa (pC (.int 4)) au))))))
noncomputable def ii:FN:=gC 1 ot
noncomputable def fU:FS:=(bV (gX (cZ au) (gN 1))
 (bV (oM (ib (cZ (aa (pC (.str "down")) (aa (pC (.str "up")) au)))) (gN 2) (oM (oX jH (aa (aR bA (ad 0) (pC (.int 0))) au)) (gN 3) (oy (zC 1 (b7 (aa (ad 2) (aa (ad 3) au)))))))
 (dW (aR dB (ad 1) (cZ (aa (b7 (aa (pC (.str "turn")) (aa (pC (.int 0)) au))) au))))))
noncomputable def bQ:FN:=gC 4 fU
noncomputable def j7:FS:=(bV (gX (dZ 1 [] (oX jH (aa (aR bA (ad 0) (pC (.int 0))) au)) (gN 0) dr (b7 (aa (pC (.str "down")) (aa (ad 0) au)))) (gN 1))
 (bV (gX (dZ 1 [] (oX jH (aa (aR bA (ad 0) (pC (.int 0))) au)) (gN 0) dr (b7 (aa (pC (.str "up")) (aa (ad 0) au)))) (gN 2))
 (dW (aR dB (aR dB (ad 1) (ad 2)) (cZ (aa (b7 (aa (pC (.str "turn")) (aa (pC (.int 0)) au))) au))))))
noncomputable def cP:FN:=gC 3 j7
end K41
namespace K41
open PySem L2 L3 L10 STP
noncomputable def db:eS:=(aL (ck (bq (yn QG (ae (ad 1)) (bj "Places" "numbers" (aq 0)))) (aL (ck (bq (jJ Pw (sO dS (aj (bj "Places" "found" (aq 0)) aN)) (bj "Places" "most" (aq 0)))) (pQ "TooMany" "most" (bj "Places" "most" (aq 0))) cI)
 (aL (sd (bj "Places" "numbers" (aq 0)) (ae (ad 1)) (sO dS (aj (bj "Places" "found" (aq 0)) aN)))
 (bK (k6 (bj "Places" "found" (aq 0)) (ae (b7 (aa (ad 1) (aa (ad 2) (aa (ad 3) au))))))))) cI)
 (gn (qL (bj "Places" "numbers" (aq 0)) (ae (ad 1)))))
noncomputable def bJ:iU:=cY 4 db
noncomputable def cO:eS:=(aL (fu "Places" "most" (aq 0) (ae (ad 2)))
 (aL (fu "Places" "found" (aq 0) (ae (cZ au)))
 (aL (fu "Places" "numbers" (aq 0) yX)
 (bK (ox "Places" "enter" bJ 4 (aq 0) (aj (ae (ad 1)) (aj (ae (pC .none)) (aj (ae (pC .none)) aN))))))))
noncomputable def cM:iU:=cY 3 cO
noncomputable def rN:eS:=(aL (dJ (sA (ae (dI cP 1 (aa (ad 0) au)))) (gA 2))
 (aL (dJ (FX "Places" cM 3 (aj (ae (pC (.tuple [(.tuple []),.none,.none]))) (aj (ae (ad 1)) aN))) (gA 3))
 (aL (dJ (ae (cZ au)) (gA 4))
 (aL (dJ (ae (cZ au)) (gA 5))
 (aL (uW (bq (jJ NL (sO dS (aj (aq 4) aN)) (sO dS (aj (bj "Places" "found" (aq 3)) aN)))) (aL (dJ (sO dS (aj (aq 4) aN)) (gA 6))
 (aL (dJ (g9 (g9 (bj "Places" "found" (aq 3)) (ae (ad 6))) (ae (pC (.int 0)))) (gA 7))
 (aL (dJ (sA (l9 1 [0,7] (im (ib (ad 2))) (gA 0) jC (mE STP.g6 3 (aj (ae (ad 1)) (aj (ae (ad 2)) (aj (ae (ad 0)) aN)))))) (gA 8))
 (aL (bK (k6 (aq 4) (sO hV (aj (sH 2 [3,6] (im (xo (aa (ad 2) (aa (ad 8) au)))) (N5 2 (sg (gA 0) (sg (gA 1) Dj))) jC (ox "Places" "enter" bJ 4 (aq 2) (aj (ae (aR bA (ad 1) (pC (.int 1)))) (aj (ae (ad 3)) (aj (ae (ad 0)) aN))))) aN))))
 (bK (k6 (aq 5) (ae (gy hV (aa (dZ 1 [] (ib (ad 8)) (gN 0) dr (gy hV (aa (aR bA (ad 0) (pC (.int 0))) au))) au))))))))))
 (gn (mi (aj (bj "Places" "found" (aq 3)) (aj (aq 4) (aj (aq 5) aN))))))))))
noncomputable def jY:iU:=cY 9 rN
noncomputable def vB:eS:=(gn (g9 (Ba jY 2 [] (aj (ae (ad 0)) (aj (ae (ad 1)) aN))) (ae (pC (.int 0)))))
noncomputable def cX:iU:=cY 2 vB
noncomputable def jz:eS:=(aL (dJ (ae (cZ (aa (b7 (aa (b7 (aa (b7 au) (aa (pC .none) (aa (pC .none) au)))) (aa (pC .none) (aa (pC .none) au)))) au))) (gA 2))
 (aL (dJ (Ga (g9 (g9 (aq 2) (ae (pC (.int 0)))) (ae (pC (.int 0)))) (ae (pC (.bool QG)))) (gA 3))
 (aL (dJ (ae (pC (.int 0))) (gA 4))
 (aL (uW (bq (jJ NL (ae (ad 4)) (sO dS (aj (aq 2) aN)))) (aL (zY (im (ib (dI bQ 1 (aa (ad 0) au)))) (gA 5) (aL (dJ (sA (g9 (mE STP.g6 3 (aj (ae (ad 0)) (aj (g9 (g9 (aq 2) (ae (ad 4))) (ae (pC (.int 0)))) (aj (ae (ad 5)) aN)))) (ae (pC (.int 1))))) (gA 6))
 (ck (bq (yn QG (ae (ad 6)) (aq 3))) (aL (sd (aq 3) (ae (ad 6)) (ae (pC (.bool QG))))
 (bK (k6 (aq 2) (ae (b7 (aa (ad 6) (aa (ad 4) (aa (ad 5) au)))))))) cI)))
 (aL (dJ (ae (aR dB (ad 4) (pC (.int 1)))) (gA 4))
 (ck (bq (jJ MF (sO dS (aj (aq 2) aN)) (ae (ad 1)))) (gn (ae (pC .none))) cI))))
 (gn (aq 2))))))
noncomputable def gG:iU:=cY 7 jz
noncomputable def cb:iU
 |[.fz b,.fz (.int m)],Z=>(match cX [.fz b,.fz (.int m)] Z with
  | .er x Z'=>if x.cls=("TooMany":Str) then(match x.fs with
   |[(f,.int k)]=>if f=("most":Str)/\k=m then .ok (.fz (.bool QG)) Z' else .bad
   |_=> .bad) else .bad
  |_=> .bad)
 |_,_=> .bad
noncomputable def DD:eS:=(aL (dJ (ae (dI jv 3 (aa (ad 0) (aa (pC (.int 1)) (aa (dI ii 1 (aa (ad 0) au)) au))))) (gA 1))
 (aL (dJ (ae (dI cP 1 (aa (ad 1) au))) (gA 2))
 (aL (ck (xi (mx (bq (zh "list" (aq 2)))) (bq (jJ sL (aq 2) (ae (dI bQ 1 (aa (ad 1) au)))))) (gn (ae (pC (.bool QN)))) cI)
 (aL (bK (Bs (aq 2)))
 (aL (ck (ci (aU (aR sL (dI cP 1 (aa (ad 1) au)) (dI bQ 1 (aa (ad 1) au))))) (gn (ae (pC (.bool QN)))) cI)
 (aL (dJ (tT gG 2 (aj (ae (ad 1)) (aj (ae (pC (.int 90))) aN))) (gA 3))
 (aL (ck (bq (jJ sZ (aq 3) (ae (pC .none)))) (gn (tT cb 2 (aj (ae (ad 1)) (aj (ae (pC (.int 90))) aN)))) cI)
 (aL (dJ (rH cX 2 [] (aj (ae (ad 1)) (aj (sO dS (aj (aq 3) aN)) aN))) (gA 4))
 (aL (ck (xi (mx (bq (zh "list" (aq 4)))) (xi (bq (jJ sL (aq 4) (aq 3))) (mx (bq (qZ 4 (gy qY (aa (dZ 1 [] (tS 4) (gN 0) dr (v3 "tuple" (ad 0))) au))))))) (gn (ae (pC (.bool QN)))) cI)
 (aL (bK (k6 (aq 4) (ae (pC .none))))
 (gn (Al (jJ dA (rH cX 2 [(.int 400)] (aj (ae (ad 1)) aN)) (aq 3)) (tT cb 2 (aj (ae (ad 1)) (aj (jJ sD (sO dS (aj (aq 3) aN)) (ae (pC (.int 1)))) aN)))))))))))))))
noncomputable def F_law:iU:=cY 5 DD
noncomputable abbrev zf (d:D):Option PV:=QB (.fz d)
noncomputable abbrev zo (l:List D):Option PV:=QB (.ow l)
noncomputable abbrev Qz (ns:List Int) (b:Bd) (r:a8):a8:=QB (.fz (.list (ns.map .int)))::QB (.fz (bD b))::r
theorem pS (ns:List Int) (k:Nat):∃c:Int,bW [.list (ns.map .int),nd k]= .ok (.fz (.int c)):=by
 have a:dS [.list (ns.map .int)]=QB (.fz (nd ns.length)):=(eX _).trans (by rw[QH]);have lt:=lO (k:Int) (ns.length:Int);by_cases h:k<ns.length
 ·rw[decide_eq_true (by omega)] at lt;have e:bA (.list (ns.map .int)) (nd k)=QB (.fz (.int ns[k])):=BC (by rw[QT,QR h];rfl);exact⟨ns[k],iA (ρ:=[zf (.list (ns.map .int)),zf (nd k)]) rfl (mz (b:=QG) (cF (aW (rv:= .fz (.bool QG)) (ah rfl) (eR (rv:= .fz (nd ns.length)) (ai (ah rfl) aI) rfl a) rfl rfl lt) rfl) (fun _=>iE (pv:= .fz (.int ns[k])) (rv:= .fz (.int ns[k])) (aW (rv:= .fz (.int ns[k])) (ah rfl) (ah rfl) rfl rfl e) rfl rfl) fun q=>nomatch q)⟩
 ·rw[decide_eq_false (by omega)] at lt;exact⟨0,iA (ρ:=[zf (.list (ns.map .int)),zf (nd k)]) rfl (mz (b:=QN) (cF (aW (rv:= .fz (.bool QN)) (ah rfl) (eR (rv:= .fz (nd ns.length)) (ai (ah rfl) aI) rfl a) rfl rfl lt) rfl) (fun q=>nomatch q) fun _=>fW (eY (pv:= .fz (.int 0)) (rv:= .fz (.int 0)) aH rfl rfl))⟩
noncomputable abbrev ET (c:Int) (k m:Nat) (a b:Option PV):a8:=[zf (.int c),zf (nd k),zf (nd m),a,b]
theorem gD (c:Int) (k m:Nat) (o:k<=1000) (hm:0<m):∃r:Nat,aO [.int c,nd k,nd m]= .ok (.fz (nd r))/\r<m:=by
 have a:∀x:Int,∃r:Nat,qH (.int x) (nd m)=QB (.fz (nd r))/\r<m:=fun x=>by have h1:0<=x % (m:Int):=ab3 _ (by omega);have h2:x % (m:Int)<m:=aaE _ (by omega);refine⟨(x % (m:Int)).toNat,?_,by omega⟩;rw[vf (by omega),nd,WH h1]
 have g:∃rv,gC 5 gh [.int c,nd k,nd m]= .ok rv/\∃r:Nat,rv= .fz (nd r)/\r<m:=by
  refine rd (T:=fun rv=>∃r:Nat,rv= .fz (nd r)/\r<m) (ρ:=ET c k m QF QF) rfl ?_;unfold gh;have f:=KN;refine mz (b:=decide (c<0)||decide ((10:Int)^18<=c)) (ρ1:=ET c k m QF QF) (Fb (cF (aW (rv:= .fz (.bool (decide (c<0)))) (ah rfl) aH rfl rfl (lO _ _)) rfl) fun _=>cF (aW (rv:= .fz (.bool (decide ((10:Int)^18<=c)))) (ah rfl) (aW (rv:= .fz (.int ((10:Int)^18))) aH aH rfl rfl f) rfl rfl (yu _ _)) rfl) (fun _=>GI ?_) (fun _=>fW ?_)
  ·have A:=jq (n:=k) (by omega)
   refine uR (fun _ ρ=>∃(x:Int) (t:Option PV),ρ=ET x k m t QF) (ds:=bO (Q2 k)) (ρ1:=ET c k m QF QF) (by walk_at "ev") ⟨c,QF,rfl⟩ ?_ ?_
   ·rintro i d ρ hi ⟨x,t,rfl⟩;have e:CZ (.int x) (.int 1000)=QB (.fz (.int (x/1000))):=Gb ⟨by decide,by decide⟩;exact⟨_,rfl,GF (ρ2:=ET (x/1000) k m (zf d) QF) (aW (rv:= .fz (.int (x/1000))) (ah rfl) aH rfl rfl e) rfl ⟨_,_,rfl⟩⟩
   ·rintro ρ ⟨x,t,rfl⟩;obtain⟨r,l,j⟩:=a x;exact iE (pv:= .fz (nd r)) (rv:= .fz (nd r)) (ρ1:=ET x k m t QF) (aW (rv:= .fz (nd r)) (ah rfl) (ah rfl) rfl rfl l) rfl ⟨r,rfl,j⟩
  ·have b1:0<=c % 1000033/\c % 1000033<1000033:=⟨ab3 _ (by decide),aaE _ (by decide)⟩
   have G:(k:Int)*k<=1000000:=by
    have:k*k<=1000*1000:=Ws o o;have e:(k:Int)*k=((k*k:Nat):Int):=by rw[Int.natCast_mul]
    omega
   have v:0<=(k:Int)*k:=Int.mul_nonneg (by omega) (by omega);have m1:qH (.int c) (.int 1000033)=QB (.fz (.int (c % 1000033))):=vf (by decide);have F:gU (.int 77) (nd k)=QB (.fz (.int (77*k))):=mQ ⟨by omega,by omega⟩;have E:gU (nd k) (nd k)=QB (.fz (.int (k*k))):=mQ ⟨by omega,by omega⟩;have u:gU (.int (c % 1000033+77*k+5)) (.int (k*k+40009))=QB (.fz (.int ((c % 1000033+77*k+5)*(k*k+40009)))):=mQ ⟨by omega,by omega⟩;generalize hx:(c % 1000033+77*(k:Int)+5)*(k*k+40009)=x at u;have C:qH (.int x) (.int 998857)=QB (.fz (.int (x % 998857))):=vf (by decide);have q:gU (.int (x % 998857)) (.int 30011)=QB (.fz (.int (x % 998857*30011))):=FP ⟨by omega,by omega⟩;generalize x % 998857*30011=y at q;have p:qH (.int (y+k)) (.int 999983)=QB (.fz (.int ((y+k) % 999983))):=vf (by decide);generalize (y+(k:Int)) % 999983=z at p;have B:CZ (.int z) (.int 3)=QB (.fz (.int (z/3))):=Gb ⟨by omega,by omega⟩;obtain⟨r,l,j⟩:=a (z/3);refine eF (ρ3:=ET c k m QF (zf (.int x))) (by walk_at "ev") rfl rfl ?_;exact eY (pv:= .fz (nd r)) (rv:= .fz (nd r)) (ρ1:=ET c k m QF (zf (.int x))) (aW (rv:= .fz (nd r)) (by walk_at "ev") (ah rfl) rfl rfl l) rfl ⟨r,rfl,j⟩
 obtain⟨rv,h,r,rfl,w⟩:=g;exact⟨r,h,w⟩
theorem Nw {z:Str} {cs:List Nat} (hz:z.cps.toList=cs.map (97+·)) (a:z.length<=1000000) {r:Int} {c:Nat} (b:0<=r) (h:cs[r.toNat]? =QB c):L3.g9 (.str z) (.int r)=QB (.fz (.str (jG c))):=by show(if z.length<=1000000 then(kZ z.cps.toList r).map (fun c=>RV.fz (.str ⟨#[c]⟩)) else QF)=_;rw[if_pos a,hz,vA (v:=97+c) b (by rw[QT,h];rfl)];rfl
theorem DU {z:Str} (cs:List Nat) (hz:z.cps.toList=cs.map (97+·)) (b:z.length<=1000000) (e:∀c∈cs,c<26) {r:Int} (f:0<=r) (h1:r<cs.length):∃c,c<26/\L3.g9 (.str z) (.int r)=QB (.fz (.str (jG c))):=by
 have a:r.toNat<cs.length:=by omega
 exact⟨cs[r.toNat],e _ (Xv a),Nw hz b f (QR a)⟩
theorem xt {n i k:Nat} (h:(Q2 n)[i]? =QB k):k=i/\i<n:=by obtain⟨h1,h2⟩:=QK.mp h;rw[aaw] at h2;rw[Rz] at h1;exact⟨h2.symm,h1⟩
theorem Ik {n nL:Int} {ls:List (List Mn)} {a:List Mn} (h:VL n nL ls) (h1:(a.length:Int)=n) (h2:∀m∈a,VM ls.length nL m):VL n nL (ls++[a]):=by
 intro i l hi;rcases L10.bx hi with h'|⟨rfl,rfl⟩
 ·exact h i l h'
 ·exact⟨h1,h2⟩
theorem uo (c:Int) (k:Nat) (e:k<=1000):∃l,l<26/\cT [.int c,nd k]= .ok (.fz (.str (jG l))):=by obtain⟨r,er,g⟩:=gD c k 3 e (by decide);have a:aO [.int c,nd k,.int 3]= .ok (.fz (nd r)):=er;obtain⟨l,b,f⟩:=DU (z:= "abz") [0,1,25] (by decide+kernel) (by decide+kernel) (by decide) (show(0:Int)<=(r:Int) by omega) (show(r:Int)<3 by omega);exact⟨l,b,iA (ρ:=[zf (.int c),zf (nd k)]) rfl (eY (pv:= .fz (.str (jG l))) (rv:= .fz (.str (jG l))) (ρ1:=[zf (.int c),zf (nd k)]) (aW (rv:= .fz (.str (jG l))) aH (cB (rv:= .fz (nd r)) (ds:=[.int c,nd k,.int 3]) (ai (ah rfl) (ai (ah rfl) (ai aH aI))) rfl rfl a) rfl rfl f) rfl rfl)⟩
theorem MX {a:Nat} (h1:1<=a):∃M:Nat,AW [.int 1,.int ((a:Int) - 1)]=QB (.fz (nd M))/\1<=M/\(1<a->M=a - 1):=by
 by_cases h:1<a
 ·refine⟨a - 1,?_,by omega,fun _=>rfl⟩;show QB (RV.fz (.int (if(1:Int)<(a:Int) - 1 then(a:Int) - 1 else 1)))=QB (RV.fz (.int ((a - 1:Nat):Int)));congr 3;split<;>omega
 ·obtain rfl:a=1:=by omega
  exact⟨1,rfl,by omega,fun h=>by omega⟩
noncomputable abbrev E5 (c:Int) (L e:Nat) (a b:Option PV):a8:=[zf (.int c),zf (nd L),zf (nd e),a,b]
theorem HE (c:Int) (L a:Nat) (h1:1<=a) (I:a<=1000):∃m:Mn,VM L a m/\dU [.int c,nd L,nd a]= .ok (.fz (mD m)):=by
 obtain⟨g,e0,B⟩:=gD c 11 12 (by decide) (by decide);obtain⟨w1,p,A⟩:=gD c 12 4 (by decide) (by decide);obtain⟨M,H,M1,M2⟩:=MX h1;obtain⟨lv,o,C⟩:=gD c 13 M (by decide) (by omega);obtain⟨j,F,u⟩:=uo c 14 (by decide);obtain⟨i,E,t⟩:=uo c 15 (by decide);have e0:aO [.int c,.int 11,.int 12]= .ok (.fz (nd g)):=e0;have p:aO [.int c,.int 12,.int 4]= .ok (.fz (nd w1)):=p;have o:aO [.int c,.int 13,nd M]= .ok (.fz (nd lv)):=o;have u:cT [.int c,.int 14]= .ok (.fz (.str (jG j))):=u;have t:cT [.int c,.int 15]= .ok (.fz (.str (jG i))):=t;have l:∃rv,gC 5 dM [.int c,nd L,nd a]= .ok rv/\∃m:Mn,VM L a m/\rv= .fz (mD m):=by
  refine rd (T:=fun rv=>∃m:Mn,VM L a m/\rv= .fz (mD m)) (ρ:=E5 c L a QF QF) rfl ?_;unfold dM;refine eF (ρ3:=E5 c L a (zf (nd g)) QF) (cB (rv:= .fz (nd g)) (ds:=[.int c,.int 11,.int 12]) (ai (ah rfl) (ai aH (ai aH aI))) rfl rfl e0) rfl rfl ?_;refine EL (Go.imp (N:=fun r=>∃w:Int,(a=1->w=1\/w=8)/\r=E5 c L a (zf (.int w)) QF) (Gr (b:=decide ((a:Int)=1)) (ρ1:=E5 c L a (zf (nd g)) QF) (cF (aW (rv:= .fz (.bool (decide ((a:Int)=1)))) (ah rfl) aH rfl rfl (jn _ _)) rfl) (fun q=> ?_) (fun q=> ?_)) (fun r ⟨w,n,e⟩=> ?_) (fun _ h=>h) (fun _ h=>h))
  ·obtain⟨x,y,ex⟩:∃x:Int,(x=1\/x=8)/\bA (.list [.int 1,.int 1,.int 1,.int 8]) (nd w1)=QB (.fz (.int x)):=by
    have:w1=0\/w1=1\/w1=2\/w1=3:=by omega
    rcases this with rfl|rfl|rfl|rfl
    ·exact⟨1,.inl rfl,BC rfl⟩
    ·exact⟨1,.inl rfl,BC rfl⟩
    ·exact⟨1,.inl rfl,BC rfl⟩
    ·exact⟨8,.inr rfl,BC rfl⟩
   exact GF (pv:= .fz (.int x)) (ρ2:=E5 c L a (zf (.int x)) QF) (aW (rv:= .fz (.int x)) (by walk_at "ev") (cB (rv:= .fz (nd w1)) (ds:=[.int c,.int 12,.int 4]) (ai (ah rfl) (ai aH (ai aH aI))) rfl rfl p) rfl rfl ex) rfl ⟨x,fun _=>y,rfl⟩
  ·have q:=of_decide_eq_false q;exact vd ⟨g,fun z=>by omega,rfl⟩
  subst e;refine eF (ρ3:=E5 c L a (zf (.int w)) (zf (.int (1+(lv:Int))))) (aW (rv:= .fz (.int (1+(lv:Int)))) aH (cB (rv:= .fz (nd lv)) (ds:=[.int c,.int 13,nd M]) (ai (ah rfl) (ai aH (ai (eR (rv:= .fz (nd M)) (ds:=[.int 1,.int ((a:Int) - 1)]) (ai aH (ai (aW (rv:= .fz (.int ((a:Int) - 1))) (ah rfl) aH rfl rfl (oa _ _)) aI)) rfl H) aI))) rfl rfl o) rfl rfl (gp _ _)) rfl rfl ?_;have f:1<a->(1:Int)<=1+(lv:Int)/\1+(lv:Int)<a:=fun z=>by have:=M2 z;omega
  refine mz (b:=decide (w=4)||decide (w=5)) (ρ1:=E5 c L a (zf (.int w)) (zf (.int (1+(lv:Int))))) (by walk_at "ev") (fun q=> ?_) (fun _=>fW ?_)
  ·refine iE (pv:= .fz (mD (.T8 (1+(lv:Int))))) (rv:= .fz (mD (.T8 (1+(lv:Int))))) (ρ1:=E5 c L a (zf (.int w)) (zf (.int (1+(lv:Int))))) (show _=Res.ok (PV.fz (.tuple [.str "layer",.int (1+(lv:Int))]),_) by walk_at "ev") rfl ⟨_,?_,rfl⟩;rw[VW,decide_eq_true_eq,decide_eq_true_eq] at q;exact f (W2 h1 fun z=>by have:=n z.symm;omega)
  refine mz (b:=decide (w=6)||decide (w=7)) (ρ1:=E5 c L a (zf (.int w)) (zf (.int (1+(lv:Int))))) (by walk_at "ev") (fun q=> ?_) (fun _=>fW ?_)
  ·refine iE (pv:= .fz (mD (.W3 j (1+(lv:Int))))) (rv:= .fz (mD (.W3 j (1+(lv:Int))))) (ρ1:=E5 c L a (zf (.int w)) (zf (.int (1+(lv:Int))))) (show _=Res.ok (PV.fz (.tuple [.str "tap",.str (jG j),.int (1+(lv:Int))]),_) by walk_at "ev") rfl ⟨_,?_,rfl⟩;rw[VW,decide_eq_true_eq,decide_eq_true_eq] at q;exact⟨F,f (W2 h1 fun z=>by have:=n z.symm;omega)⟩
  refine mz (b:=decide (w=8)) (ρ1:=E5 c L a (zf (.int w)) (zf (.int (1+(lv:Int))))) (by walk_at "ev") (fun q=> ?_) (fun _=>fW ?_)
  ·exact iE (pv:= .fz (mD .none)) (rv:= .fz (mD .none)) (ρ1:=E5 c L a (zf (.int w)) (zf (.int (1+(lv:Int))))) (show _=Res.ok (PV.fz (.tuple [.str "none"]),_) by walk_at "ev") rfl ⟨.none,trivial,rfl⟩
  refine mz (b:=decide (w=9)) (ρ1:=E5 c L a (zf (.int w)) (zf (.int (1+(lv:Int))))) (by walk_at "ev") (fun q=> ?_) (fun _=>fW ?_)
  ·refine iE (pv:= .fz (mD (.once (1+(lv:Int))))) (rv:= .fz (mD (.once (1+(lv:Int))))) (ρ1:=E5 c L a (zf (.int w)) (zf (.int (1+(lv:Int))))) (show _=Res.ok (PV.fz (.tuple [.str "once",.int (1+(lv:Int))]),_) by walk_at "ev") rfl ⟨_,?_,rfl⟩;rw[decide_eq_true_eq] at q;exact f (W2 h1 fun z=>by have:=n z.symm;omega)
  have G:MF (nd L) (.int 0)=QB (.fz (.bool (decide ((0:Int)<L)))):=rfl;refine mz (b:=(decide (9<w)&&decide ((0:Int)<L))) (ρ1:=E5 c L a (zf (.int w)) (zf (.int (1+(lv:Int))))) (by walk_at "ev") (fun q=> ?_) (fun _=>fW ?_)
  ·rw[Rn] at q;have q1:=of_decide_eq_true q.2;exact iE (pv:= .fz (mD .below)) (rv:= .fz (mD .below)) (ρ1:=E5 c L a (zf (.int w)) (zf (.int (1+(lv:Int))))) (show _=Res.ok (PV.fz (.tuple [.str "below"]),_) by walk_at "ev") rfl ⟨.below,by show(L:Int)≠0;omega,rfl⟩
  exact eY (pv:= .fz (mD (.RJ i))) (rv:= .fz (mD (.RJ i))) (ρ1:=E5 c L a (zf (.int w)) (zf (.int (1+(lv:Int))))) (show _=Res.ok (PV.fz (.tuple [.str "letter",.str (jG i)]),_) by walk_at "ev") rfl ⟨.RJ i,E,rfl⟩
 obtain⟨rv,h,m,v,rfl⟩:=l;exact⟨m,v,h⟩
structure CsV (l0:List Mn) (cs:List (List Nat×Nat)):Prop where
 vc:∀c∈cs,VC l0 c
 un:cs.Pairwise fun a c=>a.1≠c.1
theorem CsV.nil (l0:List Mn):CsV l0 []:=⟨fun c a=>(by cases a),VU⟩
theorem CsV.add (h:CsV l0 cs) (h2:2<=s.length) (hp:s.Pairwise (·<·)) (g:∀k∈s,Ds l0 k=QG) (f:l<26) (e:s∉cs.map (·.1)):CsV l0 (cs++[(s,l)]):=by
 refine⟨fun c b=>(R9.mp b).elim (h.vc c) fun z=> ?_,List.pairwise_append.mpr ⟨h.un,List.pairwise_singleton _ _,fun a ha c b=> ?_⟩⟩
 ·rw[Ri.mp z];exact⟨h2,hp,g,f⟩
 ·rw[Ri.mp b];exact fun z=>e (R0.mpr ⟨a,ha,z⟩)
theorem No (a:k<l0.length):∃d,bA (jL l0) (nd k)=QB (.fz d)/\∃w,bA d (.int 0)=QB (.fz (.str w))/\dA (.str w) (.str "letter")=QB (.fz (.bool (Ds l0 k))):=by
 have b:Ds l0 k=l0[k].isL:=by unfold Ds;rw[QR a];rfl
 rw[b];exact⟨mD l0[k],LO (by rw[QT,QR a];rfl),_,tK _,kK _⟩
theorem Os (i:Int) (k:Nat):Jn (.int i) (nd k)=QB (.fz (.int (i/2^k))):=by show(if P7 i (k:Int)=QG then QB (RV.fz (.int (i/2^((k:Nat):Int).toNat))) else QF)=_;rw[if_pos (by unfold P7;exact decide_eq_true (by omega)),Sj]
noncomputable def M8 (x:Int) (k:Nat):Bool:=decide (RY.bitAnd (x/2^k) 1=1)
noncomputable def ph (n m:Nat):List Nat:=(Q2 n).filter (M8 m)
theorem JK:∀n,n<4->∀a,a<2^n->∀b,b<2^n->ph n a=ph n b->a=b:=by decide+kernel
theorem kz (p:α->Bool):∀l:List α,oS (l.map fun c=>QJ.bool (p c))=QB (l.map p)
 |[]=>rfl
 |c::r=>by show(oS (r.map fun c=>QJ.bool (p c))).map (p c::·)=_;rw[kz p r];rfl
theorem mS (p:α->Bool) (l:List α):qY [.list (l.map fun c=>QJ.bool (p c))]=QB (.fz (.bool (l.all p))):=by show(oS _).map (fun bs=>RV.fz (.bool (bs.all id)))=_;rw[kz];show QB (RV.fz (.bool _))=_;rw[adh];rfl
noncomputable abbrev E7 (c:Int) (n:Nat) (l0:List Mn) (cs:List (List Nat×Nat)) (a b d:Option PV):a8:=[zf (.int c),zf (nd n),zf (jL l0),zo (cs.map fK),a,b,d]
theorem C4 (c:Int) (n:Nat) (hn:n<4) (l0:List Mn) (hl:l0.length=n):∃cs,CsV l0 cs/\cs.length<=4/\fV [.int c,nd n,jL l0]= .ok (.fz (.tuple (cs.map fK))):=by
 have p8:2^n<=8:=Rx (Nat.pow_le_pow_right (by decide) (show n<=3 by omega)) (by decide);have T:jH [nd (2^n)]=QB (bO (Q2 (2^n))):=jq (by omega);have S:jH [nd n]=QB (bO (Q2 n)):=jq (by omega);have R:=IQ n (by omega);have C:∃rv,gC 7 fP [.int c,nd n,jL l0]= .ok rv/\∃cs,CsV l0 cs/\cs.length<=4/\rv= .fz (.tuple (cs.map fK)):=by
  refine rd rfl ?_;unfold fP;refine eF (ρ3:=E7 c n l0 [] QF QF QF) (by walk_at "ev") rfl rfl ?_;refine uR (fun i ρ=>∃(cs:List (List Nat×Nat)) (y o g:Option PV),CsV l0 cs/\cs.length<=4/\(∀s∈cs.map (·.1),∃m,m<i/\m<2^n/\s=ph n m)/\ρ=E7 c n l0 cs y o g) (by walk_at "ev") ⟨[],QF,QF,QF,CsV.nil _,RF _,(fun s E=>by cases E),rfl⟩ ?_ ?_
  ·rintro i d ρ hi ⟨cs,y,o,g,q1,v,r,rfl⟩
   obtain⟨k,U,rfl⟩:=pU hi;obtain⟨rfl,e⟩:=xt U;refine⟨E7 c n l0 cs (zf (nd k)) o g,rfl,?_⟩;have f:ku (dm (gN 0) (aU (aR dA (aR BK (aR Jn (ad 1) (ad 0)) (pC (.int 1))) (pC (.int 1)))) (ad 0) (bO (Q2 n)) [QF,QB (.fz (nd k))] [])= .ok ((ph n k).map nd):=vv nd nd (M8 k) (Q2 n) (by rw[Rz];omega) rfl (fun j p=>by have s1:=Os (k:Int) j;have s2:BK (.int ((k:Int)/2^j)) (.int 1)=QB (.fz (.int (RY.bitAnd ((k:Int)/2^j) 1))):=rfl;exact cF (aW (aW (aW (ah rfl) (ah rfl) rfl rfl s1) aH rfl rfl s2) aH rfl rfl (jn _ _)) rfl) fun j _ _=>ah rfl;have sp:(ph n k).Pairwise (·<·):=adZ _ Zd;have M:∀j∈ph n k,j<n:=fun j p=>Tq.mp (TF.mp p).1;have sl:(ph n k).length<=n:=by have:=V9 (M8 k) (Q2 n);rw[Rz] at this;exact this
   have sn:ph n k∉cs.map (·.1):=fun z=>by obtain⟨m,m1,B,A⟩:=r _ z;have:=JK n hn k e m B A;omega
   have b:∀s∈cs.map (·.1),∃m,m<k+1/\m<2^n/\s=ph n m:=fun s E=>by obtain⟨m,m1,B,A⟩:=r s E;exact⟨m,by omega,B,A⟩
   have N:∃m,m<k+1/\m<2^n/\ph n k=ph n m:=⟨k,by omega,e,rfl⟩;generalize ph n k=s at f sp M sl sn N;refine eF (eR (ai (eB (by walk_at "ev") rfl f) aI) rfl rfl) rfl rfl ?_;have F:dS [.tuple (bO s)]=QB (.fz (nd s.length)):=(jT _).trans (by rw[fQ]);have K:ku (dm (gN 0) dr (aR dA (aR bA (aR bA (ad 1) (ad 0)) (pC (.int 0))) (pC (.str "letter"))) (bO s) [QF,QB (.fz (jL l0))] [])= .ok (s.map fun j=> .bool (Ds l0 j)):=jt nd (fun j=> .bool (Ds l0 j)) s (by omega) rfl (fun j p=>by obtain⟨d,e1,w,Z,Y⟩:=No (l0:=l0) (k:=j) (by have:=M j p;omega);exact aW (aW (aW (ah rfl) (ah rfl) rfl rfl e1) aH rfl rfl Z) aH rfl rfl Y);refine eF (vi (cF (aW (eR (ai (ah rfl) aI) rfl F) aH rfl rfl (Bj _ _)) rfl) fun _=>eR (ai (eB (by walk_at "ev") rfl K) aI) rfl (mS _ _)) rfl rfl ?_;obtain⟨t,J,ht⟩:=gD c (20+k) 3 (by omega) (by decide);have J:=J;obtain⟨u,I,hu⟩:=gD c (40+k) 4 (by omega) (by decide);have I:=I;obtain⟨l,L,X⟩:=DU (z:= "abcz") [0,1,2,25] (by decide+kernel) (by decide+kernel) (by decide) (show(0:Int)<=(u:Int) by omega) (show(u:Int)<4 by omega);have G:dS [.list (cs.map fK)]=QB (.fz (nd cs.length)):=(eX _).trans (by rw[QH]);generalize hg:(decide ((1:Int)<(s.length:Int))&&s.all (Ds l0))=gd;refine Gr
    (vC (cF (ah rfl) rfl) fun _=>vC (cF (aW (eR (ai (jy rfl) aI) rfl G) aH rfl rfl (lO _ _)) rfl) fun _=>cF (aW (cB (ai (ah rfl) (ai (aW aH (ah rfl) rfl rfl (gp _ _)) (ai aH aI))) rfl rfl J) aH rfl rfl (jn _ _)) rfl) (fun q=> ?_) fun _=>vd ⟨cs,_,_,_,q1,v,b,rfl⟩
   rw[Rn,Rn] at q;obtain⟨H,O,_⟩:=q;have O:=of_decide_eq_true O;rw[<-hg,Rn,Ts] at H;have g3:=of_decide_eq_true H.1;exact pH (v7 rfl (fy (ai (ah rfl) (ai (aW aH (cB (ai (ah rfl) (ai (aW aH (ah rfl) rfl rfl (gp _ _)) (ai aH aI))) rfl rfl I) rfl rfl X) aI)) rfl (QO rfl)) rfl rfl (by rw[QH];omega) (by show _=[zf (.int c),zf (nd n),zf (jL l0),zo ((cs++[(s,l)]).map fK),_,_,_];rw[Q3];rfl)) ⟨cs++[(s,l)],_,_,_,q1.add (by omega) sp H.2 L sn,by rw[QM];show cs.length+1<=4;omega,fun x a=>by
    rw[Q3,R9] at a;rcases a with a|a
    ·exact b x a
    ·rw[Ri.mp a];exact N,rfl⟩
  ·rintro ρ ⟨cs,y,o,g,q1,v,r,rfl⟩;exact eY (eR (ai (jy rfl) aI) rfl rfl) rfl ⟨cs,q1,v,rfl⟩
 obtain⟨rv,h,cs,Q,P,rfl⟩:=C;exact⟨cs,Q,P,h⟩
theorem Pa (n1:1<=n) (n5:n<=5) (f:rs.length<=3) (b:rs[0]? =QB l0) (e:VL n rs.length rs) (a:CsV l0 cs) (c4:cs.length<=4) (w1:1<=w) (w4:w<=4):VB ⟨n,rs,cs,w⟩:=by
 cases rs with
 |nil=>cases b
 |cons x r=>cases QX b;exact⟨n1,n5,by show 1<=r.length+1;omega,f,e,c4,a.vc,a.un,w1,w4⟩
noncomputable abbrev E9 (ns:List Int) (a n:Nat) (c:Int) (f:Nat) (g o6 e b:Option PV):a8:=[zf (.list (ns.map .int)),zf (nd a),zf (nd n),zf (.int c),zf (nd f),g,o6,e,b]
theorem Qp {n:Nat} (hn:n=1\/n=2\/n=3):∃w:Nat,0<w/\w<=4/\bA (.list [.int 4,.int 4,.int 2]) (.int ((n:Int) - 1))=QB (.fz (nd w)):=by
 rcases hn with rfl|rfl|rfl
 ·exact⟨4,by decide,by decide,Iu (by decide) rfl⟩
 ·exact⟨4,by decide,by decide,Iu (by decide) rfl⟩
 ·exact⟨2,by decide,by decide,Iu (by decide) rfl⟩
theorem Qu {r:Nat} (a:r<5):∃w:Nat,1<=w/\w<=3/\bA (.list [.int 1,.int 2,.int 2,.int 2,.int 3]) (nd r)=QB (.fz (nd w)):=by
 have:r=0\/r=1\/r=2\/r=3\/r=4:=by omega
 rcases this with rfl|rfl|rfl|rfl|rfl
 ·exact⟨1,by decide,by decide,BC rfl⟩
 ·exact⟨2,by decide,by decide,BC rfl⟩
 ·exact⟨2,by decide,by decide,BC rfl⟩
 ·exact⟨2,by decide,by decide,BC rfl⟩
 ·exact⟨3,by decide,by decide,BC rfl⟩
theorem JN (ns:List Int):∃n:Nat,(n=1\/n=2\/n=3)/\ii [.list (ns.map .int)]= .ok (.fz (nd n)):=by
 obtain⟨c,a⟩:=pS ns 0;have a:bW [.list (ns.map .int),.int 0]= .ok (.fz (.int c)):=a;obtain⟨r,er,e⟩:=gD c 1 4 (by decide) (by decide);have er:aO [.int c,.int 1,.int 4]= .ok (.fz (nd r)):=er;obtain⟨n,hn,b⟩:∃n:Nat,(n=1\/n=2\/n=3)/\bA (.list [.int 1,.int 2,.int 2,.int 3]) (nd r)=QB (.fz (nd n)):=by
  have:r=0\/r=1\/r=2\/r=3:=by omega
  rcases this with rfl|rfl|rfl|rfl
  ·exact⟨1,by decide,BC rfl⟩
  ·exact⟨2,by decide,BC rfl⟩
  ·exact⟨2,by decide,BC rfl⟩
  ·exact⟨3,by decide,BC rfl⟩
 exact⟨n,hn,iA (ρ:=[zf (.list (ns.map .int))]) rfl (eY (pv:= .fz (nd n)) (rv:= .fz (nd n)) (ρ1:=[zf (.list (ns.map .int))]) (aW (rv:= .fz (nd n)) (by walk_at "ev") (cB (rv:= .fz (nd r)) (ds:=[.int c,.int 1,.int 4]) (ai (cB (rv:= .fz (.int c)) (ds:=[.list (ns.map .int),.int 0]) (ai (ah rfl) (ai aH aI)) rfl rfl a) (ai aH (ai aH aI))) rfl rfl er) rfl rfl b) rfl rfl)⟩
theorem MA (ns:List Int) (a n:Nat) (hn:n=1\/n=2\/n=3):∃b:Bd,VB b/\b.n=n/\jv [.list (ns.map .int),nd a,nd n]= .ok (.fz (bD b)):=by
 obtain⟨l,e0⟩:=pS ns a;obtain⟨P,O,h5⟩:=gD l 5 5 (by decide) (by decide);have O:aO [.int l,.int 5,.int 5]= .ok (.fz (nd P)):=O;obtain⟨g,l1,l3,el⟩:=Qu h5;obtain⟨w,R,w4,ew⟩:=Qp hn;obtain⟨r6,N,h6⟩:=gD l 6 w (by decide) R;have N:aO [.int l,.int 6,nd w]= .ok (.fz (nd r6)):=N;obtain⟨G,v⟩:=pS ns (a+10);have v:bW [.list (ns.map .int),.int ((a:Int)+10)]= .ok (.fz (.int G)):=v;have n1:(1:Int)<=(n:Int):=by rcases hn with rfl|rfl|rfl<;>decide
 have Z:(n:Int)<=3:=by rcases hn with rfl|rfl|rfl<;>decide
 have U:jH [nd n]=QB (bO (Q2 n)):=jq (by omega);have X:jH [nd g]=QB (bO (Q2 g)):=jq (by omega);have J:∃rv,gC 9 jx [.list (ns.map .int),nd a,nd n]= .ok rv/\∃b:Bd,(VB b/\b.n=n)/\rv= .fz (bD b):=by
  refine rd (T:=fun rv=>∃b:Bd,(VB b/\b.n=n)/\rv= .fz (bD b)) (ρ:=[zf (.list (ns.map .int)),zf (nd a),zf (nd n),QF,QF,QF,QF,QF,QF]) rfl ?_;unfold jx;refine eF (ρ3:=[zf (.list (ns.map .int)),zf (nd a),zf (nd n),zf (.int l),QF,QF,QF,QF,QF]) (by walk_at "ev") rfl rfl ?_;refine eF (ρ3:=E9 ns a n l g QF QF QF QF) (aW (rv:= .fz (nd g)) (by walk_at "ev") (cB (rv:= .fz (nd P)) (ds:=[.int l,.int 5,.int 5]) (ai (ah rfl) (ai aH (ai aH aI))) rfl rfl O) rfl rfl el) rfl rfl ?_;refine eF (ρ3:=E9 ns a n l g (zo []) QF QF QF) (by walk_at "ev") rfl rfl ?_;refine uR (fun i ρ=>∃(e:List (List Mn)) (A z:Option PV),e.length=i/\VL n g e/\ρ=E9 ns a n l g (zo (e.map jL)) A z QF) (ds:=bO (Q2 g)) (ρ1:=E9 ns a n l g (zo []) QF QF QF) (by walk_at "ev") ⟨[],QF,QF,rfl,(fun j r h=>by cases h),rfl⟩ ?_ ?_
  ·rintro i d ρ hi ⟨e,A,z,C,F,rfl⟩
   obtain⟨L,hL,rfl⟩:=pU hi;obtain⟨rfl,hin⟩:=xt hL;refine⟨E9 ns a n l g (zo (e.map jL)) (zf (nd L)) z QF,rfl,?_⟩;have mu:gU (nd n) (nd L)=QB (.fz (.int ((n:Int)*L))):=mQ ⟨by omega,by omega⟩;obtain⟨xs,c1,c2,c3⟩:=xV (gt:=gN 0) (ft:=dr) (fe:=dI bW 2 (aa (ad 1) (aa (aR dB (aR dB (aR dB (ad 2) (pC (.int 1))) (aR gU (ad 3) (ad 4))) (ad 0)) au))) (ds:=bO (Q2 n)) (ρ:=[QF,zf (.list (ns.map .int)),zf (nd a),zf (nd n),zf (nd L)]) (fun ρ=>∃o,ρ=[o,zf (.list (ns.map .int)),zf (nd a),zf (nd n),zf (nd L)]) (fun _ x=>∃y:Int,x= .int y/\True) ⟨QF,rfl⟩ (by rw[fQ,Rz];omega) (by rintro j d u ρ ⟨o,rfl⟩;obtain⟨k,hk,rfl⟩:=pU u;obtain⟨c,E⟩:=pS ns (a+1+n*L+k);have E:bW [.list (ns.map .int),.int ((a:Int)+1+(n:Int)*L+k)]= .ok (.fz (.int c)):=E;refine⟨.int c,_,Ij (ρ1:=[zf (nd k),zf (.list (ns.map .int)),zf (nd a),zf (nd n),zf (nd L)]) rfl rfl (cB (rv:= .fz (.int c)) (ds:=[.list (ns.map .int),.int ((a:Int)+1+(n:Int)*L+k)]) (ai (ah rfl) (ai (aW (rv:= .fz (.int ((a:Int)+1+(n:Int)*L+k))) (aW (rv:= .fz (.int ((a:Int)+1+(n:Int)*L))) (aW (rv:= .fz (.int ((a:Int)+1))) (ah rfl) aH rfl rfl (gp _ _)) (aW (rv:= .fz (.int ((n:Int)*L))) (ah rfl) (ah rfl) rfl rfl mu) rfl rfl (gp _ _)) (ah rfl) rfl rfl (gp _ _)) aI)) rfl rfl E) rfl rfl,⟨_,rfl⟩,c,rfl,trivial⟩);obtain⟨cs,rfl,_⟩:=uL (f:=QJ.int) (Q:=fun _ (_:Int)=>True) xs 0 c3;rw[fQ,Rz,QH] at c2;refine eF (pv:= .ow (cs.map .int)) (ρ3:=E9 ns a n l g (zo (e.map jL)) (zf (nd L)) (zo (cs.map .int)) QF) (eB (cs:=[.list (ns.map .int),nd a,nd n,nd L]) (ds:=bO (Q2 n)) (by walk_at "ev") rfl c1) rfl rfl ?_;obtain⟨ys,c4,c5,c6⟩:=xV (gt:=gN 0) (ft:=dr) (fe:=dI dU 3 (aa (ad 0) (aa (ad 1) (aa (ad 2) au)))) (ds:=cs.map .int) (ρ:=[QF,zf (nd L),zf (nd g)]) (fun ρ=>∃o,ρ=[o,zf (nd L),zf (nd g)]) (fun _ x=>∃y:Mn,x=mD y/\VM L g y) ⟨QF,rfl⟩ (by rw[QH];omega) (by
    rintro j d u ρ ⟨o,rfl⟩;obtain⟨c,rfl⟩:∃c:Int,d= .int c:=by
     rw[QT] at u;cases q:cs[j]? with
     |none=>rw[q] at u;cases u
     |some x=>rw[q] at u;exact⟨x,(QX u).symm⟩
    obtain⟨m,H,em⟩:=HE c L g l1 (by omega);exact⟨mD m,_,Ij (ρ1:=[zf (.int c),zf (nd L),zf (nd g)]) rfl rfl (cB (rv:= .fz (mD m)) (ds:=[.int c,nd L,nd g]) (ai (ah rfl) (ai (ah rfl) (ai (ah rfl) aI))) rfl rfl em) rfl rfl,⟨_,rfl⟩,m,rfl,H⟩)
   obtain⟨p,rfl,Y⟩:=uL (f:=mD) (Q:=fun _ y=>VM L g y) ys 0 c6;rw[QH,QH] at c5;have I:hV [.list (p.map mD)]=QB (.fz (jL p)):=rfl;have K:(e.map jL).length<1000000:=by rw[QH];omega
   refine pH (pv:= .fz .none) (ρ1:=E9 ns a n l g (zo (e.map jL++[jL p])) (zf (nd L)) (zf (.list (cs.map .int))) QF) (v7 (pa:= .fz (jL p)) (d:=jL p) rfl (eR (rv:= .fz (jL p)) (ds:=[.list (p.map mD)]) (ai (eB (cs:=[nd L,nd g]) (ds:=cs.map .int) (kI (jy rfl) rfl rfl) rfl c4) aI) rfl I) rfl rfl K rfl) ⟨e++[p],_,_,by rw[QM,C];rfl,Ik F (by omega) (fun m hm=> ?_),by rw[Q3];rfl⟩;obtain⟨t,ht⟩:=UH.mp hm;rw[C];exact Y t m ht
  ·rintro ρ ⟨e,A,z,C,F,rfl⟩;rw[fQ,Rz] at C;obtain⟨l0,M⟩:∃l0,e[0]? =QB l0:=⟨_,QR (show 0<e.length by omega)⟩;have hl0:=(F 0 l0 M).1;obtain⟨cs,H,S,E⟩:=C4 G n (by omega) l0 (by omega);have i0:bA (.list (e.map jL)) (.int 0)=QB (.fz (jL l0)):=Iu (by decide) (by show(e.map jL)[0]? =_;rw[QT,M];rfl);refine eF (ρ3:=E9 ns a n l g (zo (e.map jL)) A z (zf (.tuple (cs.map fK)))) (cB (rv:= .fz (.tuple (cs.map fK))) (ds:=[.int G,nd n,jL l0]) (ai (cB (rv:= .fz (.int G)) (ds:=[.list (ns.map .int),.int ((a:Int)+10)]) (ai (ah rfl) (ai (aW (rv:= .fz (.int ((a:Int)+10))) (ah rfl) aH rfl rfl (gp _ _)) aI)) rfl rfl v) (ai (ah rfl) (ai (aW (rv:= .fz (jL l0)) (dx:= .list (e.map jL)) (jy rfl) aH rfl rfl i0) aI))) rfl rfl E) rfl rfl ?_;have I:hV [.list (e.map jL)]=QB (.fz (.tuple (e.map jL))):=rfl;refine eY (pv:= .fz (bD ⟨n,e,cs,1+(r6:Int)⟩)) (rv:= .fz (bD ⟨n,e,cs,1+(r6:Int)⟩)) (ρ1:=E9 ns a n l g (zo (e.map jL)) A z (zf (.tuple (cs.map fK)))) (fy (ds:=[nd n,.tuple (e.map jL),.tuple (cs.map fK),.int (1+(r6:Int))]) (ai (ah rfl) (ai (eR (rv:= .fz (.tuple (e.map jL))) (ds:=[.list (e.map jL)]) (ai (jy rfl) aI) rfl I) (ai (ah rfl) (ai (aW (rv:= .fz (.int (1+(r6:Int)))) aH (cB (rv:= .fz (nd r6)) (ds:=[.int l,.int 6,nd w]) (ai (ah rfl) (ai aH (ai (aW (rv:= .fz (nd w)) (dx:= .list [.int 4,.int 4,.int 2]) (by walk_at "ev") (aW (rv:= .fz (.int ((n:Int) - 1))) (ah rfl) aH rfl rfl (oa _ _)) rfl rfl ew) aI))) rfl rfl N) rfl rfl (gp _ _)) aI)))) rfl (QO rfl)) rfl ⟨_,⟨Pa n1 (Int.le_trans Z (by decide)) (by omega) M (by rw[C];exact F) H S (by omega) (by omega),rfl⟩,rfl⟩
 obtain⟨rv,h,b,⟨B,hb⟩,rfl⟩:=J;exact⟨b,B,hb,h⟩
section
variable {ρ ρ1:bu} {Z Z1 Z2 Z3:aX} {x y z:SV} {i:Nat} {d:D} {Rc:List (D×D)}
theorem GA (h:Z[i]? =QB (.dd Rc)):ti Z (.rf i)=QB (i,Rc):=by unfold ti;dsimp only;rw[h]
theorem Bk (a:fk ρ Z= .ok x Z1) (hd:fd ρ Z1= .ok (.rf i) Z2) (h1:jE x=QB k) (h2:Z2[i]? =QB (.dd Rc)):yn neg fk fd ρ Z= .ok (.fz (.bool ((gx Rc k).isSome !=neg))) Z2:=by unfold yn;rw[a,RS.bind_ok,hd,RS.bind_ok,h1];show((RS.RO Z2 (ti Z2 (.rf i))).bind _)=_;rw[GA h2];rfl
theorem He (hd:fd ρ Z= .ok (.rf i) Z1) (a:fk ρ Z1= .ok x Z2) (h1:jE x=QB k) (h2:Z2[i]? =QB (.dd Rc)) (b:gx Rc k=QB d):qL fd fk ρ Z= .ok (.fz d) Z2:=by unfold qL;rw[hd,RS.bind_ok,a,RS.bind_ok,h1];show((RS.RO Z2 (ti Z2 (.rf i))).bind _)=_;rw[GA h2];show((RS.RO Z2 (gx Rc k)).bind _)=_;rw[b];rfl
theorem xM (a:fv ρ Z= .ok (.fz d) Z1) (hd:fd ρ Z1= .ok (.rf i) Z2) (e:fk ρ Z2= .ok x Z3) (h1:jE x=QB k) (h2:Z3[i]? =QB (.dd Rc)) (b:Rc.length<1000000):sd fd fk fv ρ Z= .ok (.nx ρ) (Z3.set i (.dd (iV Rc k d))):=by unfold sd;rw[a,RS.bind_ok,hd,RS.bind_ok,e,RS.bind_ok,h1];show((RS.RO Z3 (ti Z3 (.rf i))).bind _)=_;rw[GA h2];show(if Rc.length<1000000 then _ else _)=_;rw[if_pos b]
theorem vP (ha:fa ρ Z= .ok xs Z1) (hn:xs.length=n) (a:F xs Z1= .ok x Z2):tT F n fa ρ Z= .ok x Z2:=by unfold tT;rw[ha,RS.bind_ok,if_pos hn,a,my]
end
theorem j4 {l r:aX}:(l++r)[l.length+t]? =r[t]? :=by rw[Ru (by omega),VP]
theorem sR {l r:aX}:(l++r).set (l.length+t) c=l++r.set t c:=by rw[List.set_append_right _ _ (by omega),VP]
structure Pl where
 p:D
 b:D
 e:D
noncomputable def lW (q:Pl):D:= .tuple [q.p,q.b,q.e]
noncomputable def e9:List Pl->D->Option Nat
 |[],_=>QF
 |q::r,p=>if QJ.eqv q.p p=QG then QB 0 else(e9 r p).map (·+1)
noncomputable def iS:Nat->List Pl->List (D×D)
 |_,[]=>[]
 |k,q::r=>(q.p,nd k)::iS (k+1) r
theorem mL:∀(k:Nat) (fs:List Pl) (p:D),gx (iS k fs) p=(e9 fs p).map fun i=>nd (k+i)
 |_,[],_=>rfl
 |k,q::r,p=>by
  have a:=mL (k+1) r p;unfold gx at a⊢;unfold iS e9;rw[RB];cases QJ.eqv q.p p with
  |true=>rfl
  |false=>dsimp only;rw[a,if_neg QV,Option.map_map];congr 1;funext i;show nd (k+1+i)=nd (k+(i+1));rw[UR,Xq 1 i]
theorem xW:∀(k:Nat) (fs:List Pl) (q:Pl),iS k (fs++[q])=iS k fs++[(q.p,nd (k+fs.length))]
 |k,[],q=>rfl
 |k,a::r,q=>by show(a.p,nd k)::iS (k+1) (r++[q])=(a.p,nd k)::(iS (k+1) r++[(q.p,nd (k+(r.length+1)))]);rw[xW (k+1) r q,UR,Xq 1 r.length]
theorem AI:∀(k:Nat) (fs:List Pl),(iS k fs).length=fs.length
 |_,[]=>rfl
 |k,q::r=>congrArg (·+1) (AI (k+1) r)
theorem Kf (h:e9 fs p=QF):iV (iS 0 fs) p (nd fs.length)=iS 0 (fs++[⟨p,b,e⟩]):=by
 have g:=mL 0 fs p;rw[h] at g;unfold gx at g;have f:((iS 0 fs).find? fun a=>QJ.eqv a.1 p)=QF:=by
  cases q:(iS 0 fs).find? fun a=>QJ.eqv a.1 p with
  |none=>rfl
  |some x=>rw[q] at g;cases g
 unfold iV;rw[f,xW,Td];rfl
theorem wL (h:e9 fs q.p=QF) (b:QJ.eqv q.p q.p=QG):e9 (fs++[q]) q.p=QB fs.length:=by
 induction fs with
 |nil=>show(if QJ.eqv q.p q.p=QG then QB 0 else _)=_;rw[if_pos b];rfl
 |cons a r ih=>
  unfold e9 at h;show(if QJ.eqv a.p q.p=QG then QB 0 else(e9 (r++[q]) q.p).map (·+1))=_;by_cases e:QJ.eqv a.p q.p=QG
  ·rw[if_pos e] at h;cases h
  ·rw[if_neg e] at h⊢;rw[ih (by cases k:e9 r q.p with|none=>rfl|some _=>rw[k] at h;cases h)];rfl
theorem A5 (h:LD.keyD p=QG):QJ.eqv p p=QG:=by
 refine Vv p (LD.kd_lay p ?_);cases p with
 |tuple xs=>unfold LD.keyD at h;rw[Rn] at h;unfold LD.kd;exact h.1
 |_=>simp[LD.keyD] at h
noncomputable def pF (m:Int) (j k:Nat):List (Str×SV):=[("most",.fz (.int m)),("found",.rf j),("numbers",.rf k)]
structure PSt (i j k:Nat) (m:Int) (fs:List Pl) (Z:aX):Prop where
 o:Z[i]? =QB (.obj "Places" (pF m j k))
 f:Z[j]? =QB (.lst ((fs.map lW).map .fz))
 n:Z[k]? =QB (.dd (iS 0 fs))
 jk:j≠k
 ij:i≠j
 ik:i≠k
 lt:fs.length<100000
noncomputable def tf (j k:Nat) (fs:List Pl) (Z:aX):aX:=(Z.set k (.dd (iS 0 fs))).set j (.lst ((fs.map lW).map .fz))
section
variable {i j k:Nat} {m:Int} {fs:List Pl} {Z:aX} {p b e:D}
theorem PSt.ent (h:PSt i j k m fs Z) (e:fs.length+1<100000):PSt i j k m (fs++[q]) (tf j k (fs++[q]) Z):=by
 have b:=(QK.mp h.f).1;have a:=(QK.mp h.n).1;refine⟨?_,?_,?_,h.jk,h.ij,h.ik,by rw[QM];exact e⟩
 ·unfold tf;rw[RA (Ne.symm h.ij),RA (Ne.symm h.ik)];exact h.o
 ·unfold tf;rw[Sh (by rw[R8];exact b)]
 ·unfold tf;rw[RA h.jk,Sh a]
theorem D6:(pF m j k).lookup ("most":Str)=QB (.fz (.int m)):=by rfl
theorem ur:(pF m j k).lookup ("found":Str)=QB (.rf j):=by rfl
theorem xk:(pF m j k).lookup ("numbers":Str)=QB (.rf k):=by rfl
theorem uc:(pF m j k).lookup ("enter":Str)=QF:=by rfl
theorem sB (hp:LD.keyD p=QG):jE (.fz p)=QB p:=if_pos hp
theorem tW (h:PSt i j k m fs Z) (hm:L9.OQ (.int m)=QG) (I:m<=1000) (hp:LD.keyD p=QG):bJ [.rf i,.fz p,.fz b,.fz e] Z=(match e9 fs p with
  |some t=> .ok (.fz (nd t)) Z
  |none=>if m<=(fs.length:Int) then .er ⟨"TooMany",[("most",.int m)]⟩ Z else .ok (.fz (nd fs.length)) (tf j k (fs++[⟨p,b,e⟩]) Z)):=by
 have r:=sB hp;have fn:∀{Z':aX},Z'[i]? =QB (.obj "Places" (pF m j k))->bj "Places" "numbers" (aq 0) [QB (.rf i),QB (.fz p),QB (.fz b),QB (.fz e)] Z'= .ok (.rf k) Z':=fun z=>jf (a9 rfl) z xk;have y:∀{Z':aX},Z'[i]? =QB (.obj "Places" (pF m j k))->bj "Places" "found" (aq 0) [QB (.rf i),QB (.fz p),QB (.fz b),QB (.fz e)] Z'= .ok (.rf j) Z':=fun z=>jf (a9 rfl) z ur;have v:∀{Z':aX},Z'[i]? =QB (.obj "Places" (pF m j k))->bj "Places" "most" (aq 0) [QB (.rf i),QB (.fz p),QB (.fz b),QB (.fz e)] Z'= .ok (.fz (.int m)) Z':=fun z=>jf (a9 rfl) z D6;have g:∀{Z':aX},ae (ad 1) [QB (.rf i),QB (.fz p),QB (.fz b),QB (.fz e)] Z'= .ok (.fz p) Z':=af (ah rfl);have a:=Bk (neg:=QG) g (fn h.o) r h.n;rw[mL] at a;have get:∀{fs':List Pl} {Z':aX} {t:Nat},Z'[i]? =QB (.obj "Places" (pF m j k))->Z'[k]? =QB (.dd (iS 0 fs'))->e9 fs' p=QB t->gn (qL (bj "Places" "numbers" (aq 0)) (ae (ad 1))) [QB (.rf i),QB (.fz p),QB (.fz b),QB (.fz e)] Z'= .ok (.rt (.fz (nd t))) Z':=fun F E C=>by refine gW (He (fn F) g r E ?_);rw[mL,C];show QB (nd (0+_))=_;rw[Td]
 have l:=tN (ao (y h.o) aM) (by unfold aJ;rw[cS h.f];rfl) ((eX _).trans (by rw[QH]));cases q:e9 fs p with
 |some t=>rw[q] at a;refine jo rfl ?_;exact cK (gc (aQ a) fY) (get h.o h.n q)
 |none=>
  rw[q] at a;dsimp only;by_cases hl:m<=(fs.length:Int)
  ·rw[if_pos hl]
   have u:=aQ (cx l (v h.o) (b9 ((yu _ _).trans (by rw[decide_eq_true hl]))));show cY 4 db _ _=_;unfold cY;show((db [QB (.rf i),QB (.fz p),QB (.fz b),QB (.fz e)] Z).bind _)=_;have H:db [QB (.rf i),QB (.fz p),QB (.fz b),QB (.fz e)] Z= .er ⟨"TooMany",[("most",.int m)]⟩ Z:=by unfold db;unfold aL;rw[d9 (aQ a) rfl,d9 u rfl,C6 (v h.o) hm];rfl
   rw[H];rfl
  ·rw[if_neg hl]
   have u:=aQ (cx l (v h.o) (b9 ((yu _ _).trans (by rw[decide_eq_false hl]))));have w:=xM l (fn h.o) g r h.n (by rw[AI];have:=h.lt;omega);rw[Kf q] at w;have G:(Z.set k (.dd (iS 0 (fs++[⟨p,b,e⟩]))))[i]? =QB (.obj "Places" (pF m j k)):=(RA (Ne.symm h.ik)).trans h.o;have A:(Z.set k (.dd (iS 0 (fs++[⟨p,b,e⟩]))))[j]? =QB (.lst ((fs.map lW).map .fz)):=(RA (Ne.symm h.jk)).trans h.f;have B:=rB (fe:=ae (b7 (aa (ad 1) (aa (ad 2) (aa (ad 3) au))))) (x:= .fz (lW ⟨p,b,e⟩)) (y G) A (af (fy (ai (ah rfl) (ai (ah rfl) (ai (ah rfl) aI))) rfl (QO rfl))) A (by rw[QH,QH];have:=h.lt;omega);have es:(Z.set k (.dd (iS 0 (fs++[⟨p,b,e⟩])))).set j (.lst ((fs.map lW).map SV.fz++[.fz (lW ⟨p,b,e⟩)]))=tf j k (fs++[⟨p,b,e⟩]) Z:=by unfold tf;rw[Q3,Q3];rfl
   rw[es] at B;have P:=h.ent (q:=⟨p,b,e⟩) (by omega);refine jo rfl ?_;exact cK (d9 (aQ a) (cK (gc u fY) (cK w (fX B)))) (get P.o P.n (wL q (A5 hp)))
end
noncomputable def lu (Z:aX) (m:Int) (fs:List Pl) (J:aX):aX:=Z++(Cell.obj "Places" (pF m (Z.length+1) (Z.length+2)):: .lst ((fs.map lW).map .fz):: .dd (iS 0 fs)::J)
theorem zO (h:fs.length<100000):PSt Z.length (Z.length+1) (Z.length+2) m fs (lu Z m fs J):=
 ⟨by have:=j4 (l:=Z) (r:=Cell.obj "Places" (pF m (Z.length+1) (Z.length+2)):: .lst ((fs.map lW).map .fz):: .dd (iS 0 fs)::J) (t:=0);exact this,j4,j4,by omega,by omega,by omega,h⟩
theorem AN:tf (Z.length+1) (Z.length+2) fs' (lu Z m fs J)=lu Z m fs' J:=by unfold tf lu;rw[sR,sR];rfl
noncomputable def TM (m:Int):Xc:=⟨"TooMany",[("most",.int m)]⟩
theorem xC (a:0<=m) (h:m<=1000):L9.OQ (.int m)=QG:=by refine decide_eq_true (WY (Nat.log2_le_self m.natAbs) ?_);omega
theorem Fh (hp:LD.keyD p=QG) (h:0<=m) (f:m<=1000):cM [.rf Z.length,.fz p,.fz (.int m)] (Z++[.obj "Places" []])=if m<=0 then .er (TM m) (lu Z m [] []) else .ok (.fz .none) (lu Z m [⟨p,.none,.none⟩] []):=by
 have s1:fu "Places" "most" (aq 0) (ae (ad 2)) [QB (.rf Z.length),QB (.fz p),QB (.fz (.int m))] (Z++[.obj "Places" []])= .ok (.nx [QB (.rf Z.length),QB (.fz p),QB (.fz (.int m))]) (Z++[.obj "Places" [("most",.fz (.int m))]]):=
  (nr (af (ah rfl)) (a9 rfl) bh (by decide)).trans (by rw[iW];rfl)
 have s2:fu "Places" "found" (aq 0) (ae (cZ au)) [QB (.rf Z.length),QB (.fz p),QB (.fz (.int m))] (Z++[.obj "Places" [("most",.fz (.int m))]])= .ok (.nx [QB (.rf Z.length),QB (.fz p),QB (.fz (.int m))]) (Z++[.obj "Places" [("most",.fz (.int m)),("found",.rf (Z.length+1))],.lst []]):=by refine(nr (dL (by walk_at "ev")) (a9 rfl) (by rw[Rj];exact j4 (t:=0)) (QO rfl)).trans ?_;rw[Rj,show Z.length=Z.length+0 from rfl,sR,QM];rfl
 have g:fu "Places" "numbers" (aq 0) yX [QB (.rf Z.length),QB (.fz p),QB (.fz (.int m))] (Z++[.obj "Places" [("most",.fz (.int m)),("found",.rf (Z.length+1))],.lst []])= .ok (.nx [QB (.rf Z.length),QB (.fz p),QB (.fz (.int m))]) (lu Z m [] []):=by refine(nr rfl (a9 rfl) (by rw[Rj];exact j4 (t:=0)) (QO rfl)).trans ?_;rw[Rj,show Z.length=Z.length+0 from rfl,sR,QM];rfl
 have P:PSt Z.length (Z.length+1) (Z.length+2) m [] (lu Z m [] []):=zO (by decide);have i:=tW (b:= .none) (e:= .none) P (xC h f) f hp;have a:=BF (F:=bJ) (fo:=aq 0) (fa:=aj (ae (ad 1)) (aj (ae (pC .none)) (aj (ae (pC .none)) aN))) (ρ:=[QB (.rf Z.length),QB (.fz p),QB (.fz (.int m))]) (a9 rfl) P.o uc (ao (af (ah rfl)) (ao (af aH) (ao (af aH) aM))) rfl;rw[i] at a;have a:ox "Places" "enter" bJ 4 (aq 0) (aj (ae (ad 1)) (aj (ae (pC .none)) (aj (ae (pC .none)) aN))) [QB (.rf Z.length),QB (.fz p),QB (.fz (.int m))] (lu Z m [] [])=if m<=0 then .er (TM m) (lu Z m [] []) else .ok (.fz (nd 0)) (tf (Z.length+1) (Z.length+2) [⟨p,.none,.none⟩] (lu Z m [] [])):=a
 rw[AN] at a;show cY 3 cO _ _=_;unfold cY;show((cO [QB (.rf Z.length),QB (.fz p),QB (.fz (.int m))] (Z++[.obj "Places" []])).bind _)=_;unfold cO;rw[cK s1 rfl,cK s2 rfl,cK g rfl];unfold bK;rw[a];split<;>rfl
theorem vM:∀{l:List α},(∀a∈l,LD.kd (f a)=QG)->LD.kds (l.map f)=QG
 |[],_=>by rw[T6,LD.kds]
 |a::r,h=>by rw[QY,LD.kds,h a Q8,vM fun x b=>h x (Q4 _ b)];rfl
theorem Hw:∀ks:List Nat,LD.kds (bO ks)=QG:=fun ks=>vM fun a _=>by show LD.kd (.int a)=QG;rw[LD.kd]
theorem KM (h:LB m):LD.kd (mD m)=QG:=by
 cases m with
 |RJ c=>show LD.kd (.tuple [.str "letter",.str (jG c)])=QG;simp only[LD.kd,LD.kds];rw[rY h,show QJ.strOk "letter"=QG by decide+kernel];rfl
 |T8 n=>show LD.kd (.tuple [.str "layer",.int n])=QG;simp only[LD.kd,LD.kds];rw[show QJ.strOk "layer"=QG by decide+kernel];rfl
 |W3 c n=>show LD.kd (.tuple [.str "tap",.str (jG c),.int n])=QG;simp only[LD.kd,LD.kds];rw[rY h,show QJ.strOk "tap"=QG by decide+kernel];rfl
 |once n=>show LD.kd (.tuple [.str "once",.int n])=QG;simp only[LD.kd,LD.kds];rw[show QJ.strOk "once"=QG by decide+kernel];rfl
 |none=>show LD.kd (.tuple [.str "none"])=QG;simp only[LD.kd,LD.kds];rw[show QJ.strOk "none"=QG by decide+kernel];rfl
 |below=>show LD.kd (.tuple [.str "below"])=QG;simp only[LD.kd,LD.kds];rw[show QJ.strOk "below"=QG by decide+kernel];rfl
theorem Lh (h:SW b s):LD.kd (cz s)=QG/\QJ.depth (cz s)<=4:=by
 have l1:LD.kds ((gO s.ac).map pD)=QG:=vM fun q e=>by show LD.kd (.tuple [nd q.1,mD q.2])=QG;simp only[LD.kd,LD.kds];rw[KM (h.sa.ac _ _ (kN.mp e).2).2.lb];rfl
 have f:∀m:Mn,QJ.depth (mD m)<=1:=fun m=>by cases m<;>exact QO rfl
 have d1:QJ.depthAll ((gO s.ac).map pD)<=2:=pK fun q _=>by show max 0 (max (QJ.depth (mD q.2)) 0)+1<=2;have:=f q.2;omega
 have a:LD.kd (jj s.wt)=QG/\QJ.depth (jj s.wt)<=2:=by
  cases q:s.wt with
  |none=>exact⟨by show LD.kd .none=QG;rw[LD.kd],RF _⟩
  |some x=>
   obtain⟨ks,g,w⟩:=x;have v:=(h.wt ks g w q).1;constructor
   ·show LD.kd (.tuple [.tuple (bO ks),.int g,tj w])=QG
    simp only[LD.kd,LD.kds];rw[Hw];cases w with
    |none=>show(QG&&(QG&&(LD.kd (.tuple [.str "chord"])&&QG)))=QG;simp only[LD.kd,LD.kds];rw[show QJ.strOk "chord"=QG by decide+kernel];rfl
    |some cn=>obtain⟨c,n⟩:=cn;have lb:LB (.W3 c n):=(v.tp c n rfl).1;show(QG&&(QG&&(LD.kd (mD (.W3 c n))&&QG)))=QG;rw[KM lb];rfl
   ·show max (QJ.depthAll (bO ks)+1) (max 0 (max (QJ.depth (tj w)) 0))+1<=2
    rw[pT];cases w with
    |none=>exact QO rfl
    |some cn=>exact QO rfl
 have l3:LD.kd (sN s.oc)=QG/\QJ.depth (sN s.oc)=0:=by cases s.oc<;>exact⟨by show LD.kd _=QG;unfold sN;simp only[LD.kd],rfl⟩
 constructor
 ·show LD.kd (.tuple [.tuple ((gO s.ac).map pD),jj s.wt,sN s.oc])=QG;simp only[LD.kd,LD.kds];rw[l1,a.1,l3.1];rfl
 ·show max (QJ.depthAll ((gO s.ac).map pD)+1) (max (QJ.depth (jj s.wt)) (max (QJ.depth (sN s.oc)) 0))+1<=4;rw[l3.2];have:=a.2;omega
theorem sE (h:SW b s):LD.keyD (cz s)=QG:=by obtain⟨h1,h2⟩:=Lh h;unfold cz at h1 h2⊢;rw[LD.kd] at h1;rw[LD.keyD];rw[h1,decide_eq_true (show _<=8 by omega)];rfl
noncomputable def i7 (n:Nat):List VN:=(Q2 n).map .down++(Q2 n).map .up++[.turn]
theorem yP {b:Bd} {n:Nat} (hn:b.n=n):∀e∈i7 n,EV b e:=by
 intro e a;rcases R9.mp a with a|a
 ·rcases R9.mp a with a|a
  ·obtain⟨k,f,rfl⟩:=R0.mp a;have:=Tq.mp f;show(k:Int)<b.n;omega
  ·obtain⟨k,f,rfl⟩:=R0.mp a;have:=Tq.mp f;show(k:Int)<b.n;omega
 ·rw[Ri.mp a];trivial
theorem LX (h:xs.length+ys.length<=1000000):dB (.list xs) (.list ys)=QB (.ow (xs++ys)):=if_pos h
theorem Og (b:Bd):bA (bD b) (.int 0)=QB (.fz (.int b.n)):=iX
theorem Hb {b:Bd} {n:Nat} (hn:b.n=n) (i:n<=5):cP [bD b]= .ok (.ow ((i7 n).map cH)):=by
 have g:jH [.int b.n]=QB (bO (Q2 n)):=by rw[hn];exact jq (by omega)
 have h:=Og b;have a:(Q2 n).length<=1000:=by rw[Rz];omega
 have c1:ku (dm (gN 0) dr (b7 (aa (pC (.str "down")) (aa (ad 0) au))) (bO (Q2 n)) [QF] [])= .ok ((Q2 n).map fun k=>cH (.down k)):=jt nd (fun k=>cH (.down k)) (Q2 n) a rfl fun k _=>fy (ai aH (ai (ah rfl) aI)) rfl (QO rfl);have e:ku (dm (gN 0) dr (b7 (aa (pC (.str "up")) (aa (ad 0) au))) (bO (Q2 n)) [QF] [])= .ok ((Q2 n).map fun k=>cH (.up k)):=jt nd (fun k=>cH (.up k)) (Q2 n) a rfl fun k _=>fy (ai aH (ai (ah rfl) aI)) rfl (QO rfl);have a1:dB (.list ((Q2 n).map fun k=>cH (.down k))) (.list ((Q2 n).map fun k=>cH (.up k)))=QB (.ow (((Q2 n).map fun k=>cH (.down k))++(Q2 n).map fun k=>cH (.up k))):=LX (by rw[QH,QH];omega);have f:dB (.list (((Q2 n).map fun k=>cH (.down k))++(Q2 n).map fun k=>cH (.up k))) (.list [cH .turn])=QB (.ow ((i7 n).map cH)):=(LX (by rw[QM,QH,QH];show _+1<=_;omega)).trans (by unfold i7;rw[Q3,Q3,RI,RI];rfl);refine iA rfl ?_;unfold j7;refine eF (eB (by walk_at "ev") rfl c1) rfl rfl ?_;refine eF (eB (by walk_at "ev") rfl e) rfl rfl ?_;exact eY (aW (aW (jy rfl) (jy rfl) rfl rfl a1) (nG (ai (fy (ai aH (ai aH aI)) rfl (QO rfl)) aI) rfl (QO rfl)) rfl rfl f) rfl rfl
noncomputable def wk (w:Str) (k:Nat):D:= .tuple [.str w,nd k]
theorem B0 {b:Bd} {n:Nat} (hn:b.n=n) (r:n<=5):bQ [bD b]= .ok (.ow ((i7 n).map cH)):=by
 have u:jH [.int b.n]=QB (bO (Q2 n)):=by rw[hn];exact jq (by omega)
 have v:=Og b;have t:dB (.list ((Q2 n).map (wk "down")++(Q2 n).map (wk "up"))) (.list [cH .turn])=QB (.ow ((i7 n).map cH)):=(LX (by rw[QM,QH,QH,Rz];show _+1<=_;omega)).trans (by unfold i7;rw[Q3,Q3,RI,RI];rfl);refine iA rfl ?_;unfold fU;refine eF (by walk_at "ev") rfl rfl ?_;refine uR (fun i ρ=>∃f a:Option PV,ρ=[zf (bD b),zo (((["down","up"]:List Str).take i).flatMap fun w=>(Q2 n).map (wk w)),f,a]) (kI (by walk_at "ev") rfl rfl) ⟨QF,QF,rfl⟩ ?_ ?_
 ·rintro i d ρ hi ⟨f,a,rfl⟩
  obtain⟨w,h,hd⟩:∃w,(["down","up"]:List Str)[i]? =QB w/\d= .str w:=by
   have:i=0\/i=1:=by have:=(QK.mp hi).1;simp at this;omega
   rcases this with rfl|rfl
   ·exact⟨"down",rfl,(QX hi).symm⟩
   ·exact⟨"up",rfl,(QX hi).symm⟩
  subst hd;have nx:((["down","up"]:List Str).take (i+1)).flatMap (fun w=>(Q2 n).map (wk w))=((["down","up"]:List Str).take i).flatMap (fun w=>(Q2 n).map (wk w))++(Q2 n).map (wk w):=by rw[TV,h,List.flatMap_append];simp
  have y:i<2:=(QK.mp h).1;have pl:((["down","up"]:List Str).take i).flatMap (fun w=>(Q2 n).map (wk w))=[]\/((["down","up"]:List Str).take i).flatMap (fun w=>(Q2 n).map (wk w))=(Q2 n).map (wk "down"):=by
   have:i=0\/i=1:=by omega
   rcases this with rfl|rfl
   ·exact .inl rfl
   ·exact .inr (by simp)
  rw[nx];generalize ((["down","up"]:List Str).take i).flatMap (fun w=>(Q2 n).map (wk w))=pre at pl;have l:pre.length<=5:=by
   rcases pl with rfl|rfl
   ·exact RF _
   ·rw[QH,Rz];exact r
  refine⟨[zf (bD b),zo pre,zf (.str w),a],rfl,?_⟩;refine Fi (fun j ρ=>∃a:Option PV,ρ=[zf (bD b),zo (pre++(Q2 j).map (wk w)),zf (.str w),a]) (by walk_at "ev") ⟨a,by rw[List.range_zero,T6,Rf]⟩ ?_ ?_
  ·rintro j d ρ q ⟨a,rfl⟩
   obtain⟨k,o,rfl⟩:=pU q;obtain⟨g,p⟩:k=j/\j<n:=by obtain⟨h1,h2⟩:=QK.mp o;rw[aaw] at h2;rw[Rz] at h1;exact⟨h2.symm,h1⟩
   subst g;refine⟨[zf (bD b),zo (pre++(Q2 k).map (wk w)),zf (.str w),zf (nd k)],rfl,?_⟩;have m:(pre++(Q2 k).map (wk w)).length<1000000:=by rw[QM,QH,Rz];omega
   exact pH (v7 rfl (fy (ai (ah rfl) (ai (ah rfl) aI)) rfl (QO rfl)) rfl rfl m (by rw[X1,Q3,<-Rj];rfl)) ⟨_,rfl⟩
  ·rintro ρ ⟨a,rfl⟩;rw[fQ,Rz];exact⟨_,_,rfl⟩
 ·rintro ρ ⟨f,a,rfl⟩
  have e:((["down","up"]:List Str).take 2).flatMap (fun w=>(Q2 n).map (wk w))=(Q2 n).map (wk "down")++(Q2 n).map (wk "up"):=by simp
  show Go (dW _ [zf (bD b),zo (((["down","up"]:List Str).take 2).flatMap fun w=>(Q2 n).map (wk w)),f,a]) _ _ _;rw[e];exact eY (aW (jy rfl) (nG (ai (fy (ai aH (ai aH aI)) rfl (QO rfl)) aI) rfl (QO rfl)) rfl rfl t) rfl rfl
section
variable {ρ:bu} {Z Z1:aX} {i:Nat} {fe:dh} {T:SV->aX->Prop} {X:Xc->Prop}
theorem xh (h:Z[i]? =QB (.lst xs)):fq Z (.rf i)=QB (i,xs):=by unfold fq;dsimp only;rw[h]
theorem Jh (a:fo ρ Z= .ok (.rf i) Z) (h1:Z[i]? =QB (.lst xs)) (b:Out (fe ρ Z) (fun x Z2=>∃ys,Z2[i]? =QB (.lst ys)/\ys.length<1000000/\T (.fz .none) (Z2.set i (.lst (ys++[x])))) X):Out (k6 fo fe ρ Z) T X:=by
 refine .eq (show k6 fo fe ρ Z=(fe ρ Z).bind fun x Z2=>(RS.RO Z2 (fq Z2 (.rf i))).bind fun p Z3=>if p.2.length<1000000 then .ok (.fz .none) (Z3.set p.1 (.lst (p.2++[x]))) else .bad from ?_) (Out.bind (b.imp fun x Z2 k=> ?_))
 ·unfold k6;rw[a,RS.bind_ok,xh h1];rfl
 ·obtain⟨ys,h2,f,e⟩:=k;refine .eq (r':=RS.ok (SV.fz .none) (Z2.set i (.lst (ys++[x])))) ?_ ⟨e⟩;rw[xh h2];show(if ys.length<1000000 then _ else _)=_;rw[if_pos f]
theorem HA (a:Out (fe ρ Z) (fun x Z2=>∃ds,sh Z2 x=QB (.list ds)/\T (.fz (.tuple ds)) Z2) X):Out (sO hV (aj fe aN) ρ Z) T X:=by
 refine .eq (show sO hV (aj fe aN) ρ Z=(fe ρ Z).bind fun x Z2=>EJ hV [x] Z2 from ?_) (Out.bind (a.imp fun x Z2 k=> ?_))
 ·unfold sO aj;cases fe ρ Z<;>rfl
 ·obtain⟨ds,h1,h2⟩:=k;refine .eq (r':=RS.ok (SV.fz (.tuple ds)) Z2) ?_ ⟨h2⟩;unfold EJ aJ aJ;rw[h1];rfl
end
structure Rm where
 s:T3
 b:D
 e:D
noncomputable def d5 (r:Rm):Pl:=⟨cz r.s,r.b,r.e⟩
noncomputable def iC (fs:List Rm) (s:T3) (b e:D):List Rm:=if(e9 (fs.map d5) (cz s)).isSome=QG then fs else fs++[⟨s,b,e⟩]
noncomputable def hW (fs:List Rm) (s:T3):Nat:=(e9 (fs.map d5) (cz s)).getD fs.length
noncomputable def ez (b:Bd) (s:T3) (r:Nat) (fs:List Rm) (es:List VN):List Rm:=es.foldl (fun fs e=>iC fs (aD b s e).1 (nd r) (cH e)) fs
theorem xj {es:List VN} (h:es[i]? =QB e):ez b s r fs (es.take (i+1))=iC (ez b s r fs (es.take i)) (aD b s e).1 (nd r) (cH e):=by unfold ez;rw[TV,h,aaF];rfl
theorem JU (fs:List Rm) (s:T3) (b e:D):fs<+:iC fs s b e:=by
 unfold iC;split
 ·exact VI _
 ·exact List.prefix_append _ _
theorem pG:∀(es:List VN) (fs:List Rm),fs<+:ez b s r fs es
 |[],fs=>VI _
 |e::es,fs=>(JU fs _ _ _).trans (pG es _)
theorem DH (es:List VN) (fs:List Rm) (i:Nat):ez b s r fs (es.take i)<+:ez b s r fs es:=by
 have e:ez b s r fs es=ez b s r (ez b s r fs (es.take i)) (es.drop i):=by unfold ez;rw[<-aaF,List.take_append_drop]
 rw[e];exact pG _ _
theorem Bv:∀{fs b:List Pl},e9 fs p=QB t->e9 (fs++b) p=QB t
 |[],_,h=>by cases h
 |a::r,b,h=>by
  unfold e9 at h;show(if QJ.eqv a.p p=QG then QB 0 else(e9 (r++b) p).map (·+1))=_;split
  ·rename_i e;rw[if_pos e] at h;exact h
  ·rename_i e
   rw[if_neg e] at h;cases q:e9 r p with
   |none=>rw[q] at h;cases h
   |some j=>rw[q] at h;rw[Bv q];exact h
theorem HC (h:fs<+:gs) (hi:e9 (fs.map d5) (cz s)=QB t):hW gs s=t:=by obtain⟨l,rfl⟩:=h;unfold hW;rw[Q3,Bv hi];rfl
theorem Lz (h:SW b s):QJ.eqv (cz s) (cz s)=QG:=A5 (sE h)
theorem Jt (h:SW b s) (x y:D):e9 ((iC fs s x y).map d5) (cz s)=QB (hW fs s):=by
 unfold iC hW;cases q:e9 (fs.map d5) (cz s) with
 |some t=>show e9 (fs.map d5) (cz s)=_;rw[q];rfl
 |none=>show e9 ((fs++[(⟨s,x,y⟩:Rm)]).map d5) (cz s)=QB fs.length;rw[Q3];have:=wL (q:=⟨cz s,x,y⟩) q (Lz h);rw[QH] at this;exact this
theorem L8 (h:SW b s) (e:∀r∈fs,SW b r.s):∀r∈iC fs s x y,SW b r.s:=by
 unfold iC;split
 ·exact e
 ·intro r a
  rcases R9.mp a with a|a
  ·exact e r a
  ·rw[Ri.mp a];exact h
theorem Ae (vb:VB b) (a:SW b s):∀(es:List VN) (fs:List Rm),(∀e∈es,EV b e)->(∀r∈fs,SW b r.s)->∀q∈ez b s r fs es,SW b q.s
 |[],fs,_,hf=>hf
 |e::es,fs,he,hf=>Ae vb a es _ (fun x f=>he x (Q4 _ f)) (L8 (wa vb a (he e Q8)) hf)
noncomputable def cA (b:Bd) (es:List VN):Nat->List Rm
 |0=>[⟨yZ,.none,.none⟩]
 |i+1=>match(cA b es i)[i]? with
  |some r=>ez b r.s i (cA b es i) es
  |none=>cA b es i
theorem rc (h:(cA b es i)[i]? =QB r):cA b es (i+1)=ez b r.s i (cA b es i) es:=by show(match(cA b es i)[i]? with|some r=>ez b r.s i (cA b es i) es|none=>cA b es i)=_;rw[h]
theorem wc (h:(cA b es i).length<=i):cA b es (i+1)=cA b es i:=by show(match(cA b es i)[i]? with|some r=>ez b r.s i (cA b es i) es|none=>cA b es i)=_;rw[List.getElem?_eq_none h]
theorem xO (b:Bd) (es:List VN) (i:Nat):cA b es i<+:cA b es (i+1):=by
 by_cases h:i<(cA b es i).length
 ·rw[rc (QR h)];exact pG _ _
 ·rw[wc (by omega)];exact VI _
theorem Bz (b:Bd) (es:List VN) (i k:Nat):cA b es i<+:cA b es (i+k):=by
 induction k with
 |zero=>exact VI _
 |succ k ih=>exact ih.trans (xO b es (i+k))
theorem HR (h:(cA b es N).length<=N) (k:Nat):cA b es (N+k)=cA b es N:=by
 induction k with
 |zero=>rfl
 |succ k ih=>rw[<-UR,wc (by rw[ih];omega),ih]
theorem wg (h:(cA b es N).length<=N) (i:Nat):(cA b es i).length<=(cA b es N).length:=by
 by_cases hi:i<=N
 ·obtain⟨k,rfl⟩:=acz hi;exact(Bz b es i k).length_le
 ·obtain⟨k,rfl⟩:=acz (show N<=i by omega);rw[HR h];exact QS _
theorem BJ (h:(cA b es N).length=N) (h':(cA b es M).length=M):N=M:=by have h1:=wg (U7 h) M;have h2:=wg (U7 h') N;omega
theorem nK (vb:VB b) (a:∀e∈es,EV b e):∀i,∀r∈cA b es i,SW b r.s
 |0=>fun r f=>by rw[Ri.mp f];exact vO b
 |i+1=>by
  by_cases h:i<(cA b es i).length
  ·rw[rc (QR h)];exact Ae vb (nK vb a i _ (Xv h)) es _ a (nK vb a i)
  ·rw[wc (by omega)];exact nK vb a i
theorem JX (b:Bd) (es:List VN) (i:Nat):1<=(cA b es i).length:=by have:=(Bz b es 0 i).length_le;rw[Td] at this;exact this
theorem Gh (h:i<(cA b es i).length):i+1<=(cA b es (i+1)).length:=Rx h (xO b es i).length_le
noncomputable def hJ (b:Bd) (s:T3) (e:VN):D:= .tuple [.list ((aD b s e).2.map sQ),cz (aD b s e).1]
noncomputable def i6 (b:Bd) (s:T3) (e:VN):Cell:= .lst (((aD b s e).2.map sQ).map .fz)
noncomputable def Ci (b:Bd) (s:T3):Nat->List VN->List SV
 |_,[]=>[]
 |n,e::r=> .tp [.rf n,.fz (cz (aD b s e).1)]::Ci b s (n+1) r
theorem wX (b:Bd) (s:T3):∀(es:List VN) (n:Nat) (e:VN),Ci b s n (es++[e])=Ci b s n es++[.tp [.rf (n+es.length),.fz (cz (aD b s e).1)]]
 |[],n,e=>rfl
 |a::r,n,e=>by show _::Ci b s (n+1) (r++[e])=_::(Ci b s (n+1) r++_);rw[wX b s r (n+1) e,UR,Xq 1 r.length];rfl
theorem AJ (b:Bd) (s:T3):∀(es:List VN) (n:Nat),(Ci b s n es).length=es.length
 |[],_=>rfl
 |_::r,n=>congrArg (·+1) (AJ b s r (n+1))
theorem An (b:Bd) (s:T3):∀(es:List VN) (Z R:aX),mh (frz 3) (Z++(es.map (i6 b s)++R)) (Ci b s Z.length es)=QB (es.map (hJ b s),Z++(QP es.length .dead++R))
 |[],Z,R=>rfl
 |e::r,Z,R=>by
  have g:(Z++(i6 b s e::(r.map (i6 b s)++R)))[Z.length]? =QB (i6 b s e):=j4 (t:=0);have i:frz 2 (Z++(i6 b s e::(r.map (i6 b s)++R))) (.rf Z.length)=QB (.list ((aD b s e).2.map sQ),Z++(.dead::(r.map (i6 b s)++R))):=by unfold frz;rw[g];unfold i6;dsimp only;rw[wu];dsimp only;have:=sR (l:=Z) (r:=i6 b s e::(r.map (i6 b s)++R)) (t:=0) (c:= .dead);exact congrArg (fun z=>QB (QJ.list ((aD b s e).2.map sQ),z)) this
  have h:frz 3 (Z++(i6 b s e::(r.map (i6 b s)++R))) (.tp [.rf Z.length,.fz (cz (aD b s e).1)])=QB (hJ b s e,Z++(.dead::(r.map (i6 b s)++R))):=by
   have f:mh (frz 2) (Z++(i6 b s e::(r.map (i6 b s)++R))) [.rf Z.length,.fz (cz (aD b s e).1)]=QB ([.list ((aD b s e).2.map sQ),cz (aD b s e).1],Z++(.dead::(r.map (i6 b s)++R))):=by unfold mh;rw[i];rfl
   unfold frz;rw[show([AV.rf Z.length,AV.fz (cz (aD b s e).1)].map AV.sv)=[.rf Z.length,.fz (cz (aD b s e).1)] from rfl,f];rfl
  have a:=An b s r (Z++[.dead]) R;rw[QM,Rj,Rj] at a;show(match frz 3 (Z++(i6 b s e::(r.map (i6 b s)++R))) (.tp [.rf Z.length,.fz (cz (aD b s e).1)]) with
   |some (d,Z1)=>(match mh (frz 3) Z1 (Ci b s (Z.length+1) r) with
    |some (ds,Z2)=>QB (d::ds,Z2)
    |none=>QF)
   |none=>QF)=_
  rw[h];dsimp only;rw[show Z++(Cell.dead::(r.map (i6 b s)++R))=Z++([Cell.dead]++(r.map (i6 b s)++R)) from rfl,show Z.length+1=Z.length+[Cell.dead].length from rfl,a];rfl
theorem z8 (vb:VB b) (h:SW b s) {es:List VN} (j:∀e∈es,EV b e) (r:es.length<=1000) (n:ρ[0]? =QB (QB (.fz (bD b)))) (h2:ρ[2]? =QB (QB (.fz (.list (es.map cH))))) (m:ρ[7]? =QB (QB (.fz (cz s)))):
  ∃J,sA (l9 1 [0,7] (im (ib (ad 2))) (gA 0) jC (mE STP.g6 3 (aj (ae (ad 1)) (aj (ae (ad 2)) (aj (ae (ad 0)) aN))))) ρ Z= .ok (.fz (.list (es.map (hJ b s)))) (Z++J):=by
 have hi:im (ib (ad 2)) ρ Z= .ok (es.map cH) Z:=mK (kI (ah (by unfold bF;rw[QT,h2];rfl)) rfl rfl);have f:gz 1 [0,7] ρ=[QF,QB (.fz (bD b)),QB (.fz (cz s))]:=by unfold gz;show QF::[(ρ[0]?).join,(ρ[7]?).join]=_;rw[n,m];rfl
 have l:=ng (X:=fun _=>False) (gt:=gA 0) (ft:=jC) (fe:=mE STP.g6 3 (aj (ae (ad 1)) (aj (ae (ad 2)) (aj (ae (ad 0)) aN)))) (fun i ρ' Z' a=>∃o,ρ'=[o,QB (.fz (bD b)),QB (.fz (cz s))]/\Z'=Z++(es.take i).map (i6 b s)/\a=Ci b s Z.length (es.take i)) (es.map cH) 0 (gz 1 [0,7] ρ) Z [] ⟨QF,f,by rw[List.take_zero,T6,Rf],rfl⟩ (by
  rintro i d ρ' Z' a hd ⟨o,rfl,rfl,rfl⟩;rw[Td];rw[QT] at hd;cases q:es[i]? with
  |none=>rw[q] at hd;cases hd
  |some e=>
   rw[q] at hd;cases QX hd;have p:=(QK.mp q).1;refine⟨by rw[AJ,SE];omega,[QB (.fz (cH e)),QB (.fz (bD b)),QB (.fz (cz s))],rfl,rfl,?_⟩;have st:qQ STP.g6 3 [.fz (bD b),.fz (cz s),.fz (cH e)] (Z++(es.take i).map (i6 b s))= .ok (.tp [.rf (Z++(es.take i).map (i6 b s)).length,.fz (cz (aD b s e).1)]) ((Z++(es.take i).map (i6 b s))++[i6 b s e]):=Ld vb h (j e (RD q));refine .eq (r':=RS.ok (SV.tp [.rf (Z++(es.take i).map (i6 b s)).length,.fz (cz (aD b s e).1)]) ((Z++(es.take i).map (i6 b s))++[i6 b s e])) ?_ ⟨_,rfl,?_,?_⟩
   ·unfold mE;rw[ao (af (ah rfl)) (ao (af (ah rfl)) (ao (af (ah rfl)) aM)),RS.bind_ok,st];rfl
   ·rw[TV,q,Q3,Rj];rfl
   ·rw[TV,q];show Ci b s Z.length (es.take i)++_=Ci b s Z.length (es.take i++[e]);rw[wX,QM,QH])
 obtain⟨xs,Z2,g,ρ',o,_,rfl,rfl⟩:=l.all;rw[Td,QH,Xy] at g;have cm:=vt hi g;have fz:frz 4 ((Z++es.map (i6 b s))++[Cell.lst (Ci b s Z.length es)]) (.rf (Z++es.map (i6 b s)).length)=QB (.list (es.map (hJ b s)),(Z++(QP es.length Cell.dead++[Cell.lst (Ci b s Z.length es)])).set (Z++es.map (i6 b s)).length .dead):=by unfold frz;rw[bh];dsimp only;rw[Rj,An b s es Z [Cell.lst (Ci b s Z.length es)]]
 rw[QM,sR] at fz;exact⟨_,rZ cm (by rw[QM];exact fz)⟩
theorem Cc (f g:α->D):∀l:List α,kj (l.map f) (l.map g)=l.map fun x=> .tuple [f x,g x]
 |[]=>rfl
 |x::r=>by show QJ.tuple [f x,g x]::kj (r.map f) (r.map g)=_;rw[Cc f g r];rfl
theorem Dl {b:Bd} (vb:VB b) {s:T3} (y:SW b s) {es:List VN} (A:∀e∈es,EV b e) (R:es.length<=1000) {ρ:bu} {Z J:aX} {m:Int} {r:Nat} {fs:List Rm} (C:0<=m) (z:m<=1000) (N:(fs.length:Int)<=m)
  (h2:ρ[2]? =QB (QB (.fz (.list (es.map cH))))) (L:ρ[3]? =QB (QB (.rf Z.length))) (K:ρ[6]? =QB (QB (.fz (nd r)))) (I:ρ[8]? =QB (QB (.fz (.list (es.map (hJ b s)))))):
  Out (sH 2 [3,6] (im (xo (aa (ad 2) (aa (ad 8) au)))) (N5 2 (sg (gA 0) (sg (gA 1) Dj))) jC (ox "Places" "enter" bJ 4 (aq 2) (aj (ae (aR bA (ad 1) (pC (.int 1)))) (aj (ae (ad 3)) (aj (ae (ad 0)) aN)))) ρ (lu Z m (fs.map d5) J))
   (fun x Z'=>x= .rf (lu Z m ((ez b s r fs es).map d5) J).length/\Z'=lu Z m ((ez b s r fs es).map d5) (J++[.lst ((es.map fun e=>nd (hW (ez b s r fs es) (aD b s e).1)).map .fz)])/\((ez b s r fs es).length:Int)<=m)
   (fun x=>x=TM m/\m<((ez b s r fs es).length:Int)):=by
 have hi:im (xo (aa (ad 2) (aa (ad 8) au))) ρ (lu Z m (fs.map d5) J)= .ok (es.map fun e=> .tuple [cH e,hJ b s e]) (lu Z m (fs.map d5) J):=by
  have p2:(bF ρ)[2]? =QB (QB (.fz (.list (es.map cH)))):=by unfold bF;rw[QT,h2];rfl
  have B:(bF ρ)[8]? =QB (QB (.fz (.list (es.map (hJ b s))))):=by unfold bF;rw[QT,I];rfl
  rw[<-Cc];exact mK (u7 (d:= .list (es.map cH)) (e:= .list (es.map (hJ b s))) (ai (ah p2) (ai (ah B) aI)) rfl rfl rfl)
 have w:gz 2 [3,6] ρ=[QF,QF,QB (.rf Z.length),QB (.fz (nd r))]:=by unfold gz;show QF::QF::[(ρ[3]?).join,(ρ[6]?).join]=_;rw[L,K];rfl
 refine z6 hi (Out.imp (ng (fun i ρ' Z' g=>∃l j,ρ'=[l,j,QB (.rf Z.length),QB (.fz (nd r))]/\Z'=lu Z m ((ez b s r fs (es.take i)).map d5) J/\g=((es.take i).map fun e=>nd (hW (ez b s r fs es) (aD b s e).1)).map .fz/\((ez b s r fs (es.take i)).length:Int)<=m) (es.map fun e=> .tuple [cH e,hJ b s e]) 0 (gz 2 [3,6] ρ) (lu Z m (fs.map d5) J) [] ⟨QF,QF,w,rfl,rfl,N⟩ ?_) ?_)
 ·rintro i d ρ' Z' g hd ⟨l,j,rfl,rfl,rfl,hle⟩
  rw[Td] at hle⊢;rw[QT] at hd;cases q:es[i]? with
  |none=>rw[q] at hd;cases hd
  |some e=>
   rw[q] at hd;cases QX hd;have Q:=(QK.mp q).1;have u:=A e (RD q);have f:=wa vb y u;have rt:=xj (b:=b) (s:=s) (r:=r) (fs:=fs) q;have pre:=DH (b:=b) (s:=s) (r:=r) es fs (i+1);have M:=Ae vb y (r:=r) (es.take i) fs (fun x H=>A x (List.mem_of_mem_take H));generalize hF:ez b s r fs (es.take i)=F at hle rt;refine⟨by rw[QH,QH,SE];omega,[QB (.fz (cH e)),QB (.fz (hJ b s e)),QB (.rf Z.length),QB (.fz (nd r))],rfl,rfl,?_⟩;have E:(F.map d5).length<100000:=by rw[QH];omega
   have P:PSt Z.length (Z.length+1) (Z.length+2) m (F.map d5) (lu Z m (F.map d5) J):=zO E;have O:=tW (b:=nd r) (e:=cH e) P (xC C z) z (sE f);have G:bA (hJ b s e) (.int 1)=QB (.fz (cz (aD b s e).1)):=lL;have a:=BF (n:=4) (m:= "enter") (F:=bJ) (fo:=aq 2) (fa:=aj (ae (aR bA (ad 1) (pC (.int 1)))) (aj (ae (ad 3)) (aj (ae (ad 0)) aN))) (ρ:=[QB (.fz (cH e)),QB (.fz (hJ b s e)),QB (.rf Z.length),QB (.fz (nd r))]) (xs:=[.fz (cz (aD b s e).1),.fz (nd r),.fz (cH e)]) (a9 rfl) P.o uc (ao (af (aW (rv:= .fz (cz (aD b s e).1)) (ah rfl) aH rfl rfl G)) (ao (af (ah rfl)) (ao (af (ah rfl)) aM))) rfl;rw[O] at a;have p:=HC pre (s:=(aD b s e).1) (t:=hW F (aD b s e).1) (by rw[rt];exact Jt f _ _);have ac:((es.take (i+1)).map fun e=>nd (hW (ez b s r fs es) (aD b s e).1)).map SV.fz=((es.take i).map fun e=>nd (hW (ez b s r fs es) (aD b s e).1)).map .fz++[.fz (nd (hW F (aD b s e).1))]:=by rw[TV,q,Q3,Q3];show _++[SV.fz (nd (hW (ez b s r fs es) (aD b s e).1))]=_;rw[p]
   rw[ac,rt];cases q2:e9 (F.map d5) (cz (aD b s e).1) with
   |some t=>
    rw[q2] at a;have h:iC F (aD b s e).1 (nd r) (cH e)=F:=by unfold iC;rw[q2];rfl
    have v:hW F (aD b s e).1=t:=by unfold hW;rw[q2];rfl
    rw[h,v];exact .eq a ⟨_,_,rfl,rfl,rfl,hle⟩
   |none=>
    rw[q2] at a;have h:iC F (aD b s e).1 (nd r) (cH e)=F++[⟨(aD b s e).1,nd r,cH e⟩]:=by unfold iC;rw[q2];rfl
    have v:hW F (aD b s e).1=F.length:=by unfold hW;rw[q2];rfl
    dsimp only at a;rw[QH] at a;by_cases hm:m<=(F.length:Int)
    ·rw[if_pos hm] at a;refine .eq a ⟨rfl,?_⟩;have:=pre.length_le;rw[rt,h,QM] at this;have this:F.length+1<=_:=this;omega
    ·rw[if_neg hm,AN] at a;rw[h,v];refine .eq a ⟨_,_,rfl,by rw[Q3];rfl,rfl,?_⟩;rw[QM];show((F.length+1:Nat):Int)<=m;omega
 ·rintro xs Z' ⟨ρ',l,j,_,rfl,rfl,hle⟩;rw[Td,QH,Xy] at*;refine⟨rfl,?_,hle⟩;unfold lu;rw[Rj];rfl
theorem rh (h:Out r T X) (k:∀a Z,T a Z->T' a Z) (b:∀x,X x->X' x):Out r T' X':=by
 refine⟨?_⟩;have h:=h.out;cases r with
 |bad=>exact h
 |er x o=>exact b x h
 |ok a o=>exact k a o h
noncomputable def Kr (b:Bd) (es:List VN) (j:Nat):D:=match(cA b es j)[j]? with
 |some r=> .tuple (es.map fun e=>nd (hW (cA b es (j+1)) (aD b r.s e).1))
 |none=> .none
noncomputable def Ei (b:Bd) (es:List VN) (j:Nat):D:=match(cA b es j)[j]? with
 |some r=> .tuple (es.map fun e=> .tuple ((aD b r.s e).2.map sQ))
 |none=> .none
noncomputable def i4 (b:Bd) (es:List VN) (n:Nat):List D:=(Q2 n).map (Kr b es)
noncomputable def ky (b:Bd) (es:List VN) (n:Nat):List D:=(Q2 n).map (Ei b es)
noncomputable def tD (Z:aX) (m:Int) (b:Bd) (es:List VN) (n:Nat) (J:aX):aX:=lu Z m ((cA b es n).map d5) (.lst ((i4 b es n).map .fz):: .lst ((ky b es n).map .fz)::J)
theorem pM:lu Z m fs (J++K)=lu Z m fs J++K:=by unfold lu;rw[Rj];rfl
theorem Ce:(lu Z m fs J).length=Z.length+3+J.length:=by unfold lu;rw[QM];show Z.length+(J.length+1+1+1)=_;omega
theorem PM {xs:List SV} {n:Nat} {v:SV} (h:xs[n]? =QB v):kZ xs (n:Int)=QB v:=vA (by omega) (by rw[Sj];exact h)
noncomputable abbrev W9 (b:Bd) (m:Int) (es:List VN) (l:Nat) (o6 e a:Option SV):bu:=[QB (.fz (bD b)),QB (.fz (.int m)),QB (.fz (.list (es.map cH))),QB (.rf l),QB (.rf (l+3)),QB (.rf (l+4)),o6,e,a]
theorem zq (vb:VB b) {n:Nat} (hn:b.n=n) (h5:n<=5) (Q:0<=m) (O:m<=1000) (a:aX):Out (jY [.fz (bD b),.fz (.int m)] a) (fun v Z'=>∃N J,(cA b (i7 n) N).length=N/\(N:Int)<=m/\v= .tp [.rf (a.length+2),.rf (a.length+4),.rf (a.length+5)]/\Z'=tD (a++[.dead]) m b (i7 n) N J) (fun x=>x=TM m/\∃i,m<((cA b (i7 n) i).length:Int)):=by
 have p:(i7 n).length<=1000:=by unfold i7;rw[QM,QM,QH,QH,Rz];show n+n+1<=_;omega
 have l:=yP hn;have ev:=Hb hn h5;generalize i7 n=es at p l ev;refine uQ rfl ?_;unfold rN;have e1:sA (ae (dI cP 1 (aa (ad 0) au))) [QB (.fz (bD b)),QB (.fz (.int m)),QF,QF,QF,QF,QF,QF,QF] a= .ok (.fz (.list (es.map cH))) (a++[.dead]):=by refine rZ (dL (cB (ai (ah rfl) aI) rfl rfl ev)) ?_;rw[pR bh,iW]
 refine eD e1 rfl ?_;have S:(a++[Cell.dead]).length=a.length+1:=by rw[QM];rfl
 have Y:a.length+2=(a++[Cell.dead]).length+1:=by omega
 have X:a.length+4=(a++[Cell.dead]).length+3:=by omega
 have U:a.length+5=(a++[Cell.dead]).length+4:=by omega
 rw[Y,X,U];generalize a++[Cell.dead]=base;have M:=Nt (C:= "Places") (F:=cM) (fa:=aj (ae (pC (.tuple [(.tuple []),.none,.none]))) (aj (ae (ad 1)) aN)) (ρ:=[QB (.fz (bD b)),QB (.fz (.int m)),QB (.fz (.list (es.map cH))),QF,QF,QF,QF,QF,QF]) (Z:=base) (ao (af (d:=cz yZ) (show _=Res.ok (PV.fz (.tuple [.tuple [],.none,.none]),_) from aH)) (ao (af (ah rfl)) aM)) rfl;rw[Fh (sE (vO b)) Q O] at M;refine Kd (.eq M ?_);by_cases hm:m<=0
 ·rw[if_pos hm];exact⟨rfl,0,by show m<1;omega⟩
 rw[if_neg hm];refine Out.eq rfl ⟨?_⟩;show k8 _ _ _ _;refine eD (ρ1:=[QB (.fz (bD b)),QB (.fz (.int m)),QB (.fz (.list (es.map cH))),QB (.rf base.length),QB (.rf (base.length+3)),QF,QF,QF,QF]) ((dL (by walk_at "ev")).trans (by rw[Ce,<-pM];rfl)) rfl ?_;refine eD (ρ1:=W9 b m es base.length QF QF QF) ((dL (by walk_at "ev")).trans (by rw[Ce,<-pM];rfl)) rfl ?_;refine jZ (xa (fun n ρ Z=>∃J j h g,ρ=W9 b m es base.length j h g/\Z=tD base m b es n J/\n<=(cA b es n).length/\((cA b es n).length:Int)<=m) 1000 (by decide) ⟨[],QF,QF,QF,rfl,rfl,RF _,by show(1:Int)<=m;omega⟩ ?_);rintro n ρ Z ⟨J,j,h,g,rfl,rfl,hle,hlm⟩;have I:=nK vb l n;have lF:((cA b es n).map d5).length<100000:=by rw[QH];omega
 have P:PSt base.length (base.length+1) (base.length+2) m ((cA b es n).map d5) (tD base m b es n J):=zO lF;have g3:(tD base m b es n J)[base.length+3]? =QB (.lst ((i4 b es n).map .fz)):=j4;have sl:(i4 b es n).length=n:=by unfold i4;rw[QH,Rz]
 have dl:(ky b es n).length=n:=by unfold ky;rw[QH,Rz]
 have w:∀{j h g:Option SV},sO dS (aj (aq 4) aN) (W9 b m es base.length j h g) (tD base m b es n J)= .ok (.fz (nd n)) (tD base m b es n J):=tN (ao (a9 rfl) aM) (by unfold aJ;rw[cS g3];rfl) ((eX _).trans (by rw[sl]));have G:∀{j h g:Option SV},bj "Places" "found" (aq 3) (W9 b m es base.length j h g) (tD base m b es n J)= .ok (.rf (base.length+1)) (tD base m b es n J):=jf (a9 rfl) P.o ur;have K:sO dS (aj (bj "Places" "found" (aq 3)) aN) (W9 b m es base.length j h g) (tD base m b es n J)= .ok (.fz (nd (cA b es n).length)) (tD base m b es n J):=tN (ao G aM) (by unfold aJ;rw[cS P.f];rfl) ((eX _).trans (by rw[QH,QH]));have z:=aQ (cx w K (b9 (lO (n:Int) ((cA b es n).length:Int))));by_cases U4:n<(cA b es n).length
 case neg=>
  rw[decide_eq_false (by omega)] at z;refine .inl ⟨_,z,?_⟩;have nN:(cA b es n).length=n:=by omega
  refine uY (K4 (ao G (ao (a9 rfl) (ao (a9 rfl) aM))) (QO rfl) rfl rfl) ⟨n,J,nN,by omega,rfl,rfl⟩
 case pos=>
  rw[decide_eq_true (by omega)] at z;refine .inr ⟨by omega,_,z,?_⟩;obtain⟨r,u⟩:∃r,(cA b es n)[n]? =QB r:=⟨_,QR U4⟩;have q:=I r (RD u);refine eD (x:= .fz (nd n)) (ρ1:=W9 b m es base.length (QB (.fz (nd n))) h g) w rfl ?_;have st:g9 (g9 (bj "Places" "found" (aq 3)) (ae (ad 6))) (ae (pC (.int 0))) (W9 b m es base.length (QB (.fz (nd n))) h g) (tD base m b es n J)= .ok (.fz (cz r.s)) (tD base m b es n J):=cC (dx:=lW (d5 r)) (Ak G (af (d:=nd n) (ah rfl)) rfl P.f (PM (by rw[QT,QT,QT,u];rfl))) (af aH) iX;refine eD (x:= .fz (cz r.s)) (ρ1:=W9 b m es base.length (QB (.fz (nd n))) (QB (.fz (cz r.s))) g) st rfl ?_;obtain⟨L,ha⟩:=z8 vb q l p (ρ:=W9 b m es base.length (QB (.fz (nd n))) (QB (.fz (cz r.s))) g) (Z:=tD base m b es n J) rfl rfl rfl;refine eD (x:= .fz (.list (es.map (hJ b r.s)))) (ρ1:=W9 b m es base.length (QB (.fz (nd n))) (QB (.fz (cz r.s))) (QB (.fz (.list (es.map (hJ b r.s)))))) ha rfl ?_;have eJ:tD base m b es n J++L=tD base m b es n (J++L):=by unfold tD;rw[<-pM];rfl
  rw[eJ];generalize J++L=J;have y:=Dl vb q l p (ρ:=W9 b m es base.length (QB (.fz (nd n))) (QB (.fz (cz r.s))) (QB (.fz (.list (es.map (hJ b r.s)))))) (Z:=base) (J:= .lst ((i4 b es n).map .fz):: .lst ((ky b es n).map .fz)::J) (m:=m) (r:=n) (fs:=cA b es n) Q O hlm rfl rfl rfl rfl;rw[<-rc u] at y;have B:Kr b es n= .tuple (es.map fun e=>nd (hW (cA b es (n+1)) (aD b r.s e).1)):=by unfold Kr;rw[u]
  have E:Ei b es n= .tuple (es.map fun e=> .tuple ((aD b r.s e).2.map sQ)):=by unfold Ei;rw[u]
  have A:i4 b es (n+1)=i4 b es n++[Kr b es n]:=by unfold i4;rw[X1,Q3];rfl
  have H:ky b es (n+1)=ky b es n++[Ei b es n]:=by unfold ky;rw[X1,Q3];rfl
  have y:=rh y (T':=fun x Z'=>∃ds,sh Z' x=QB (.list ds)/\(∃ys,Z'[base.length+3]? =QB (.lst ys)/\ys.length<1000000/\k8 (bK (k6 (aq 5) (ae (gy hV (aa (dZ 1 [] (ib (ad 8)) (gN 0) dr (gy hV (aa (aR bA (ad 0) (pC (.int 0))) au))) au)))) (W9 b m es base.length (QB (.fz (nd n))) (QB (.fz (cz r.s))) (QB (.fz (.list (es.map (hJ b r.s)))))) (Z'.set (base.length+3) (.lst (ys++[.fz (.tuple ds)])))) (fun ρ Z=>∃J j h g,ρ=W9 b m es base.length j h g/\Z=tD base m b es (n+1) J/\n+1<=(cA b es (n+1)).length/\((cA b es (n+1)).length:Int)<=m) (fun v Z'=>∃N J,(cA b es N).length=N/\(N:Int)<=m/\v= .tp [.rf (base.length+1),.rf (base.length+3),.rf (base.length+4)]/\Z'=tD base m b es N J) (fun x=>x=TM m/\∃i,m<((cA b es i).length:Int)))) (X':=fun x=>x=TM m/\∃i,m<((cA b es i).length:Int)) ?_ (fun x R=>⟨R.1,n+1,R.2⟩)
  ·exact D8 (Jh (i:=base.length+3) (a9 rfl) (j4 (t:=3)) (HA y))
  rintro x Z' ⟨rfl,rfl,hm'⟩;refine⟨es.map fun e=>nd (hW (cA b es (n+1)) (aD b r.s e).1),?_,(i4 b es n).map .fz,j4 (t:=3),by rw[QH,sl];omega,?_⟩
  ·refine cS ?_;rw[pM];exact bh
  ·have w1:(lu base m ((cA b es (n+1)).map d5) ((.lst ((i4 b es n).map .fz):: .lst ((ky b es n).map .fz)::J)++[.lst ((es.map fun e=>nd (hW (cA b es (n+1)) (aD b r.s e).1)).map .fz)])).set (base.length+3) (.lst ((i4 b es n).map SV.fz++[.fz (.tuple (es.map fun e=>nd (hW (cA b es (n+1)) (aD b r.s e).1)))]))=lu base m ((cA b es (n+1)).map d5) (.lst ((i4 b es (n+1)).map .fz):: .lst ((ky b es n).map .fz)::(J++[.lst ((es.map fun e=>nd (hW (cA b es (n+1)) (aD b r.s e).1)).map .fz)])):=by
    unfold lu;rw[sR,A,B,Q3];rfl
   rw[w1];generalize J++[Cell.lst ((es.map fun e=>nd (hW (cA b es (n+1)) (aD b r.s e).1)).map .fz)]=J;have cm:ku (dm (gN 0) dr (gy hV (aa (aR bA (ad 0) (pC (.int 0))) au)) (es.map (hJ b r.s)) [QF] [])= .ok (es.map fun e=> .tuple ((aD b r.s e).2.map sQ)):=jt (cp:=[]) (hJ b r.s) (fun e=> .tuple ((aD b r.s e).2.map sQ)) es p rfl fun e _=>by have i0:bA (hJ b r.s e) (.int 0)=QB (.fz (.list ((aD b r.s e).2.map sQ))):=iX;exact eR (rv:= .fz (.tuple ((aD b r.s e).2.map sQ))) (ds:=[.list ((aD b r.s e).2.map sQ)]) (ai (aW (rv:= .fz (.list ((aD b r.s e).2.map sQ))) (ah rfl) aH rfl rfl i0) aI) rfl rfl
   have T:(lu base m ((cA b es (n+1)).map d5) (.lst ((i4 b es (n+1)).map .fz):: .lst ((ky b es n).map .fz)::J))[base.length+4]? =QB (.lst ((ky b es n).map .fz)):=j4 (t:=4);have ap:=rB (ρ:=W9 b m es base.length (QB (.fz (nd n))) (QB (.fz (cz r.s))) (QB (.fz (.list (es.map (hJ b r.s)))))) (fo:=aq 5) (fe:=ae (gy hV (aa (dZ 1 [] (ib (ad 8)) (gN 0) dr (gy hV (aa (aR bA (ad 0) (pC (.int 0))) au))) au))) (x:= .fz (Ei b es n)) (a9 rfl) T (by rw[E];exact af (eR (rv:= .fz (.tuple (es.map fun e=> .tuple ((aD b r.s e).2.map sQ)))) (ds:=[.list (es.map fun e=> .tuple ((aD b r.s e).2.map sQ))]) (ai (eB (cs:=[]) (ds:=es.map (hJ b r.s)) (kI (d:= .list (es.map (hJ b r.s))) (ah rfl) rfl rfl) rfl cm) aI) rfl rfl)) T (by rw[QH,dl];omega);refine Nq (fX ap) ⟨J,_,_,_,rfl,?_,Gh U4,hm'⟩;unfold tD lu;rw[sR,H,Q3];rfl
theorem ug (vb:VB b) {n:Nat} (hn:b.n=n) (h:n<=5) (f:0<=m) (e:m<=1000) (a:aX):Out (cX [.fz (bD b),.fz (.int m)] a) (fun v Z'=>∃N i K,(cA b (i7 n) N).length=N/\(N:Int)<=m/\v= .rf (a.length+i)/\Z'=a++K/\K[i]? =QB (.lst ((((cA b (i7 n) N).map d5).map lW).map .fz))) (fun x=>x=TM m/\∃i,m<((cA b (i7 n) i).length:Int)):=by refine uQ rfl ?_;unfold vB;refine Hq ?_;have j:=GQ (F:=jY) (es:=[]) (fa:=aj (ae (ad 0)) (aj (ae (ad 1)) aN)) (ρ:=[QB (.fz (bD b)),QB (.fz (.int m))]) (Z:=a) (ao (af (ah rfl)) (ao (af (ah rfl)) aM)) rfl;refine Out.bind (.eq j ((zq vb hn h f e a).imp fun v Z' g=> ?_));obtain⟨N,J,h1,h2,rfl,rfl⟩:=g;refine .eq (r':=RS.ok (SV.rf (a.length+2)) (tD (a++[.dead]) m b (i7 n) N J)) ?_ ⟨N,2,_,h1,h2,rfl,(by unfold tD lu;rw[Rj]),rfl⟩;rw[af aH,RS.bind_ok];rfl
section
variable {ρ:bu} {Z Z1 Z2:aX} {x y:SV}
theorem EH (ha:fa ρ Z= .ok xs Z1) (a:qQ F n xs Z1= .ok x Z2):mE F n fa ρ Z= .ok x Z2:=by unfold mE;rw[ha,RS.bind_ok,a];rfl
theorem Hv (ha:fa ρ Z= .ok (.tp l) Z1) (e:fb ρ Z1= .ok y Z2) (hn:Cu y=QB i) (b:kZ l i=QB a):L10.g9 fa fb ρ Z= .ok a.sv Z2:=by unfold L10.g9;rw[ha,RS.bind_ok,e,RS.bind_ok];unfold Ht;dsimp only;rw[hn];show RS.RO Z2 ((kZ l i).map AV.sv)=_;rw[b];rfl
end
noncomputable def Du (fs:List Pl):List (D×D):=fs.map fun q=>(q.p,.bool QG)
theorem zE:∀(fs:List Pl) (p:D),(gx (Du fs) p).isSome=(e9 fs p).isSome
 |[],_=>rfl
 |q::r,p=>by
  have a:=zE r p;unfold gx at a⊢;unfold Du e9;rw[QY,RB];cases QJ.eqv q.p p with
  |true=>rfl
  |false=>dsimp only;rw[if_neg QV,S7,S7];rw[S7] at a;exact a
theorem L6 (h:e9 fs p=QF):iV (Du fs) p (.bool QG)=Du (fs++[⟨p,b,e⟩]):=by have g:=zE fs p;rw[h] at g;unfold gx at g;rw[S7] at g;unfold iV;rw[g,if_neg (by decide)];unfold Du;rw[Q3];rfl
noncomputable def sM (Z:aX) (fs:List Pl) (J:aX):aX:=Z++(Cell.lst ((fs.map lW).map .fz):: .dd (Du fs)::J)
theorem Jb:sM Z fs (J++K)=sM Z fs J++K:=by unfold sM;rw[Rj];rfl
theorem Bu:∀(es:List VN) (fs:List Rm),(ez b s r fs es).length<=fs.length+es.length
 |[],fs=>QS _
 |e::es,fs=>by
  have h1:=Bu (b:=b) (s:=s) (r:=r) es (iC fs (aD b s e).1 (nd r) (cH e));have h2:(iC fs (aD b s e).1 (nd r) (cH e)).length<=fs.length+1:=by
   unfold iC;split
   ·omega
   ·rw[QM];exact QS _
  rw[Q0];exact Rx h1 (by omega)
noncomputable abbrev W7 (b:Bd) (l n:Nat) (o5 o6:Option SV):bu:=[QB (.fz (bD b)),QB (.fz (.int 90)),QB (.rf l),QB (.rf (l+1)),QB (.fz (nd n)),o5,o6]
theorem zw (vb:VB b) {n:Nat} (hn:b.n=n) (T:n<=5) (g:aX):Out (gG [.fz (bD b),.fz (.int 90)] g) (fun v Z'=>(v= .fz .none/\∃i,90<(cA b (i7 n) i).length)\/∃N J,(cA b (i7 n) N).length=N/\N<=90/\v= .rf g.length/\Z'=sM g ((cA b (i7 n) N).map d5) J) (fun _=>False):=by
 have G:(i7 n).length<=1000:=by unfold i7;rw[QM,QM,QH,QH,Rz];show n+n+1<=_;omega
 have h:=yP hn;have ev:=B0 hn T;generalize i7 n=es at G h ev;refine uQ rfl ?_;unfold jz;refine eD (dL (show _=Res.ok (PV.ow [.tuple [.tuple [.tuple [],.none,.none],.none,.none]],_) by walk_at "ev")) rfl ?_;have R:g9 (g9 (aq 2) (ae (pC (.int 0)))) (ae (pC (.int 0))) [QB (.fz (bD b)),QB (.fz (.int 90)),QB (.rf g.length),QF,QF,QF,QF] (g++[.lst [.fz (lW ⟨cz yZ,.none,.none⟩)]])= .ok (.fz (cz yZ)) (g++[.lst [.fz (lW ⟨cz yZ,.none,.none⟩)]]):=cC (Ak (a9 rfl) (af aH) rfl bh (PM rfl)) (af aH) iX;have kd:Ga (g9 (g9 (aq 2) (ae (pC (.int 0)))) (ae (pC (.int 0)))) (ae (pC (.bool QG))) [QB (.fz (bD b)),QB (.fz (.int 90)),QB (.rf g.length),QF,QF,QF,QF] (g++[.lst [.fz (lW ⟨cz yZ,.none,.none⟩)]])= .ok (.rf (g.length+1)) (sM g ((cA b es 0).map d5) []):=by unfold Ga;rw[R,my,RS.bind_ok,af aH,my,RS.bind_ok,sB (sE (vO b)),QM];show RS.ok _ ((g++[_])++[_])=_;rw[Rj];rfl
 refine eD kd rfl ?_;refine eD (af aH) rfl ?_;refine jZ (xa (fun n ρ Z=>∃J o5 o6,ρ=W7 b g.length n o5 o6/\Z=sM g ((cA b es n).map d5) J/\n<=(cA b es n).length/\(cA b es n).length<=90) 91 (by decide) ⟨[],QF,QF,rfl,rfl,RF _,by show 1<=90;decide⟩ ?_);rintro n ρ Z ⟨J,o5,o6,rfl,rfl,hle,hlm⟩;have I:=nK vb h n;have u:∀{F:List Rm} {n:Nat} {o5 o6:Option SV} {J:aX},sO dS (aj (aq 2) aN) (W7 b g.length n o5 o6) (sM g (F.map d5) J)= .ok (.fz (nd F.length)) (sM g (F.map d5) J):=fun{F n o5 o6 J}=>tN (ao (a9 rfl) aM) (by unfold aJ;rw[cS (j4 (t:=0))];rfl) ((eX _).trans (by rw[QH,QH]));have z:=aQ (cx (af (f:=ad 4) (ah rfl)) (u (o5:=o5) (o6:=o6) (J:=J)) (b9 (lO (n:Int) ((cA b es n).length:Int))));by_cases U4:n<(cA b es n).length
 case neg=>
  rw[decide_eq_false (by omega)] at z;exact .inl ⟨_,z,uY (a9 rfl) (.inr ⟨n,J,by omega,by omega,rfl,rfl⟩)⟩
 case pos=>
  rw[decide_eq_true (by omega)] at z;refine .inr ⟨by omega,_,z,?_⟩;obtain⟨r,E⟩:∃r,(cA b es n)[n]? =QB r:=⟨_,QR U4⟩;have j:=I r (RD E);have K:∀{Z:aX},im (ib (dI bQ 1 (aa (ad 0) au))) (W7 b g.length n o5 o6) Z= .ok (es.map cH) Z:=mK (kI (cB (ai (ah rfl) aI) rfl rfl ev) rfl rfl);refine jZ (NV (fun i ρ Z=>∃J o5 o6,ρ=W7 b g.length n o5 o6/\Z=sM g ((ez b r.s n (cA b es n) (es.take i)).map d5) J) K ⟨J,o5,o6,rfl,rfl⟩ ?_ ?_)
  ·rintro i d ρ Z hd ⟨J,o5,o6,rfl,rfl⟩
   rw[QT] at hd;cases q:es[i]? with
   |none=>rw[q] at hd;cases hd
   |some e=>
    rw[q] at hd;cases QX hd;have m:=h e (RD q);have A:=wa vb j m;have rt:=xj (b:=b) (s:=r.s) (r:=n) (fs:=cA b es n) q;have M:=Bu (b:=b) (s:=r.s) (r:=n) (es.take i) (cA b es n);have Y:=(QK.mp q).1;rw[SE] at M;have p:(ez b r.s n (cA b es n) (es.take i))[n]? =QB r:=by obtain⟨l,S⟩:=pG (es.take i) (cA b es n);rw[<-S,Rg U4];exact E
    rw[rt];generalize ez b r.s n (cA b es n) (es.take i)=F at M p;refine⟨W7 b g.length n (QB (.fz (cH e))) o6,_,rfl,?_⟩;have g0:∀{J:aX},(sM g (F.map d5) J)[g.length]? =QB (.lst (((F.map d5).map lW).map .fz)):=fun{J}=>j4 (t:=0);have Q:∀{J:aX},(sM g (F.map d5) J)[g.length+1]? =QB (.dd (Du (F.map d5))):=fun{J}=>j4 (t:=1);have B:g9 (g9 (aq 2) (ae (ad 4))) (ae (pC (.int 0))) (W7 b g.length n (QB (.fz (cH e))) o6) (sM g (F.map d5) J)= .ok (.fz (cz r.s)) (sM g (F.map d5) J):=cC (dx:=lW (d5 r)) (Ak (a9 rfl) (af (d:=nd n) (ah rfl)) rfl g0 (PM (by rw[QT,QT,QT,p];rfl))) (af aH) iX;have sc:=Ld vb j m (Z:=sM g (F.map d5) J);have be:sA (g9 (mE STP.g6 3 (aj (ae (ad 0)) (aj (g9 (g9 (aq 2) (ae (ad 4))) (ae (pC (.int 0)))) (aj (ae (ad 5)) aN)))) (ae (pC (.int 1)))) (W7 b g.length n (QB (.fz (cH e))) o6) (sM g (F.map d5) J)= .ok (.fz (cz (aD b r.s e).1)) (sM g (F.map d5) (J++[i6 b r.s e])):=by refine rZ (x:= .fz (cz (aD b r.s e).1)) (Z1:=sM g (F.map d5) (J++[i6 b r.s e])) ?_ rfl;rw[Jb];exact Hv (i:=1) (a:= .fz (cz (aD b r.s e).1)) (EH (xs:=[.fz (bD b),.fz (cz r.s),.fz (cH e)]) (ao (af (ah rfl)) (ao B (ao (af (ah rfl)) aM))) sc) (af (d:= .int 1) aH) rfl rfl
    refine eD (ρ1:=W7 b g.length n (QB (.fz (cH e))) (QB (.fz (cz (aD b r.s e).1)))) be rfl ?_;have O:=sB (sE A);have L:∀{Z:aX},ae (ad 6) (W7 b g.length n (QB (.fz (cH e))) (QB (.fz (cz (aD b r.s e).1)))) Z= .ok (.fz (cz (aD b r.s e).1)) Z:=af (ah rfl);have P:=Bk (neg:=QG) (fd:=aq 3) L (a9 rfl) O (Q (J:=J++[i6 b r.s e]));rw[zE] at P;have w:=aQ P;cases q2:e9 (F.map d5) (cz (aD b r.s e).1) with
    |some t=>
     rw[q2] at w;have H:iC F (aD b r.s e).1 (nd n) (cH e)=F:=by unfold iC;rw[q2];rfl
     rw[H];exact .eq (gc w fY) ⟨_,_,_,rfl,rfl⟩
    |none=>
     rw[q2] at w;have H:iC F (aD b r.s e).1 (nd n) (cH e)=F++[⟨(aD b r.s e).1,nd n,cH e⟩]:=by unfold iC;rw[q2];rfl
     rw[H];have C:=xM (fv:=ae (pC (.bool QG))) (fk:=ae (ad 6)) (fd:=aq 3) (ρ:=W7 b g.length n (QB (.fz (cH e))) (QB (.fz (cz (aD b r.s e).1)))) (d:= .bool QG) (af aH) (a9 rfl) L O (Q (J:=J++[i6 b r.s e])) (by unfold Du;rw[QH,QH];omega);rw[L6 (b:=nd n) (e:=cH e) q2] at C;have U:(sM g (F.map d5) (J++[i6 b r.s e])).set (g.length+1) (.dd (Du (F.map d5++[⟨cz (aD b r.s e).1,nd n,cH e⟩])))=g++(Cell.lst (((F.map d5).map lW).map .fz):: .dd (Du (F.map d5++[⟨cz (aD b r.s e).1,nd n,cH e⟩]))::(J++[i6 b r.s e])):=by unfold sM;rw[sR];rfl
     rw[U] at C;have o:(g++(Cell.lst (((F.map d5).map lW).map .fz):: .dd (Du (F.map d5++[⟨cz (aD b r.s e).1,nd n,cH e⟩]))::(J++[i6 b r.s e])))[g.length]? =QB (.lst (((F.map d5).map lW).map .fz)):=j4 (t:=0);have X:=rB (fo:=aq 2) (fe:=ae (b7 (aa (ad 6) (aa (ad 4) (aa (ad 5) au))))) (ρ:=W7 b g.length n (QB (.fz (cH e))) (QB (.fz (cz (aD b r.s e).1)))) (x:= .fz (lW ⟨cz (aD b r.s e).1,nd n,cH e⟩)) (a9 rfl) o (af (fy (ds:=[cz (aD b r.s e).1,nd n,cH e]) (ai (ah rfl) (ai (ah rfl) (ai (ah rfl) aI))) rfl (QO rfl))) o (by rw[QH,QH,QH];omega);refine .eq (d9 w (cK C (fX X))) ⟨J++[i6 b r.s e],_,_,rfl,?_⟩;have:=sR (l:=g) (r:=Cell.lst (((F.map d5).map lW).map .fz):: .dd (Du (F.map d5++[⟨cz (aD b r.s e).1,nd n,cH e⟩]))::(J++[i6 b r.s e])) (t:=0) (c:= .lst (((F.map d5).map lW).map .fz++[.fz (lW ⟨cz (aD b r.s e).1,nd n,cH e⟩)]));refine Eq.trans this ?_;unfold sM;rw[Q3,Q3,Q3];rfl
  ·rintro ρ Z ⟨J,o5,o6,rfl,rfl⟩
   rw[QH,Xy,<-rc E];refine eD (x:= .fz (nd (n+1))) (ρ1:=W7 b g.length (n+1) o5 o6) (af (d:=nd (n+1)) (aW (rv:= .fz (nd (n+1))) (ah rfl) aH rfl rfl (gp (n:Int) 1))) rfl ?_;have y:=aQ (cx (u (F:=cA b es (n+1)) (n:=n+1) (o5:=o5) (o6:=o6) (J:=J)) (af (f:=ad 1) (d:= .int 90) (ah rfl)) (b9 (Bj ((cA b es (n+1)).length:Int) 90)));by_cases h9:90<(cA b es (n+1)).length
   ·rw[decide_eq_true (by omega)] at y;exact .eq (d9 y (gW (af (d:= .none) aH))) ⟨.inl ⟨rfl,n+1,h9⟩⟩
   ·rw[decide_eq_false (by omega)] at y;exact .eq (gc y fY) ⟨⟨J,_,_,rfl,rfl,Gh U4,by omega⟩⟩
theorem rE (h:cX [.fz (bD b),.fz (.int m)] Z= .er (TM m) Z'):cb [.fz (bD b),.fz (.int m)] Z= .ok (.fz (.bool QG)) Z':=by
 show(match cX [.fz (bD b),.fz (.int m)] Z with
  | .er x Z'=>if x.cls=("TooMany":Str) then(match x.fs with
   |[(f,.int k)]=>if f=("most":Str)/\k=m then RS.ok (SV.fz (.bool QG)) Z' else .bad
   |_=> .bad) else .bad
  |_=> .bad)=_
 rw[h];show(if("TooMany":Str)= "TooMany" then(if("most":Str)= "most"/\m=m then RS.ok (SV.fz (.bool QG)) Z' else .bad) else .bad)=_;rw[if_pos rfl,if_pos ⟨rfl,rfl⟩]
theorem z4:QJ.canLay0 (cH e)=QG/\QJ.depth (cH e)<=1:=by
 cases e with
 |down k=>exact⟨by show(QJ.strOk "down"&&(QG&&QG))=QG;decide+kernel,QO rfl⟩
 |up k=>exact⟨by show(QJ.strOk "up"&&(QG&&QG))=QG;decide+kernel,QO rfl⟩
 |turn=>exact⟨by show(QJ.strOk "turn"&&(QG&&QG))=QG;decide+kernel,QO rfl⟩
theorem JD (es:List VN):lw (.list (es.map cH))=QG:=by refine Lm (vn fun q a=>z4.1) ?_;show QJ.depthAll (es.map cH)+1<=64;have:=pK (f:=cH) (l:=es) fun q _=>z4.2;omega
def BE (x:D):Prop:=QJ.canLay0 x=QG/\QJ.depth x<=1
theorem Hj:∀(es:List VN) (fs:List Rm),(∀q∈fs,BE q.b/\BE q.e)->∀q∈ez b s r fs es,BE q.b/\BE q.e
 |[],fs,hf=>hf
 |e::es,fs,hf=>Hj es (iC fs (aD b s e).1 (nd r) (cH e)) (by
  unfold iC;split
  ·exact hf
  ·intro q a
   rcases R9.mp a with a|a
   ·exact hf q a
   ·rw[Ri.mp a];exact⟨⟨rfl,RF _⟩,z4⟩)
theorem yH (b:Bd) (es:List VN):∀i,∀q∈cA b es i,BE q.b/\BE q.e
 |0=>fun r a=>by rw[Ri.mp a];exact⟨⟨rfl,RF _⟩,rfl,RF _⟩
 |i+1=>by
  by_cases h:i<(cA b es i).length
  ·rw[rc (QR h)];exact Hj es _ (yH b es i)
  ·rw[wc (by omega)];exact yH b es i
theorem Lx (vb:VB b) (h:∀e∈es,EV b e) (i:Nat):lw (.list (((cA b es i).map d5).map lW))=QG:=by
 have a:∀q∈(cA b es i).map d5,QJ.canLay0 (lW q)=QG/\QJ.depth (lW q)<=5:=by
  intro q f;obtain⟨r,g,rfl⟩:=R0.mp f;obtain⟨k1,k2⟩:=Lh (nK vb h i r g);obtain⟨⟨b1,m⟩,j,l⟩:=yH b es i r g;constructor
  ·show(QJ.canLay0 (cz r.s)&&(QJ.canLay0 r.b&&(QJ.canLay0 r.e&&QG)))=QG;rw[LD.kd_lay _ k1,b1,j];rfl
  ·show max (QJ.depth (cz r.s)) (max (QJ.depth r.b) (max (QJ.depth r.e) 0))+1<=5;omega
 refine Lm (vn fun q f=>(a q f).1) ?_;show QJ.depthAll (((cA b es i).map d5).map lW)+1<=64;have:=pK fun q f=>(a q f).2;omega
theorem EE:∀{l:List α} {i:Nat} {x:α},l[i]? =QB x->l.set i x=l
 |[],_,_,h=>by simp at h
 |a::r,0,x,h=>by simp at h;rw[h];rfl
 |a::r,i+1,x,h=>by show a::r.set i x=_;rw[EE (by simpa using h)]
theorem za (h:Z[i]? =QB (.lst (ds.map .fz))):uT 6 Z (.rf i)=QB (.list ds):=by
 unfold uT;rw[h];dsimp only;have:∀l:List D,aJ (uT 5 Z) (l.map .fz)=QB l:=fun l=>by
  induction l with
  |nil=>rfl
  |cons a r ih=>rw[QY];unfold aJ;rw[show uT 5 Z (.fz a)=QB a from rfl];dsimp only;rw[ih]
 rw[this];rfl
theorem EX (vb:VB b) {n:Nat} (hn:b.n=n) (j:n<=5) (g:0<=m) (f:m<=1000) (h:∀N,(cA b (i7 n) N).length=N->m<(N:Int)) (Z:aX):∃Z',cX [.fz (bD b),.fz (.int m)] Z= .er (TM m) Z':=by obtain⟨x,o,e,a⟩:=(rh (ug vb hn j g f Z) (fun v Z' ⟨N,i,K,h1,h2,_⟩=>by have:=h N h1;omega) fun x a=>a.1).er;subst a;exact⟨o,e⟩
theorem Fc (vb:VB b) {n N:Nat} (hn:b.n=n) (a:n<=5) (j:0<=m) (g:m<=1000) (f:(cA b (i7 n) N).length=N) (h:(N:Int)<=m) (Z:aX):∃i K,cX [.fz (bD b),.fz (.int m)] Z= .ok (.rf (Z.length+i)) (Z++K)/\K[i]? =QB (.lst ((((cA b (i7 n) N).map d5).map lW).map .fz)):=by obtain⟨v,o,e,p,i,K,h1,h2,rfl,rfl,a⟩:=(rh (ug vb hn a j g Z) (fun v Z' l=>l) fun x ⟨_,i,hi⟩=>by have:=wg (U7 f) i;omega).all;rw[BJ h1 f] at a;exact⟨i,K,e,a⟩
noncomputable abbrev G5 (ns:List Int) (b:Bd) (f e a:Option SV):bu:=[QB (.fz (.list (ns.map .int))),QB (.fz (bD b)),f,e,a]
theorem Qc:∀l:List D,qY [.list (l.map fun _=>QJ.bool QG)]=QB (.fz (.bool QG)):=fun l=>(mS (fun _=>QG) l).trans (by rw[Ts.mpr (fun _ _=>rfl)])
theorem main (ns:List Int) (Y:ns.length<=63):L10.OC F_law [.list (ns.map .int)]= .ok (.fz (.bool QG)):=by
 obtain⟨n,hn,ek⟩:=JN ns;obtain⟨b,vb,bn,y⟩:=MA ns 1 n hn;have y:=y;have n5:n<=5:=by omega
 have I:=Hb bn n5;have H:=B0 bn n5;have u:=yP bn;have g:=Ch (JD (i7 n));have p:Out (F_law [.fz (.list (ns.map .int))] []) (fun x _=>x= .fz (.bool QG)) (fun _=>False):=by
  refine uQ rfl ?_;unfold DD;refine eD (af (cB (ai (ah rfl) (ai aH (ai (cB (ai (ah rfl) aI) rfl rfl ek) aI))) rfl rfl y)) rfl ?_;refine eD (dL (cB (ai (ah rfl) aI) rfl rfl I)) rfl ?_;have O:xi (mx (bq (zh "list" (aq 2)))) (bq (jJ sL (aq 2) (ae (dI bQ 1 (aa (ad 1) au))))) (G5 ns b (QB (.rf 0)) QF QF) [.lst (((i7 n).map cH).map .fz)]= .ok QN [.lst (((i7 n).map cH).map .fz),.lst (((i7 n).map cH).map .fz)]:=by refine gS (kP (aQ (GS (a9 rfl) (za rfl) rfl))) ?_;exact aQ (cx (a9 rfl) (dL (cB (ai (ah rfl) aI) rfl rfl H)) (lY (cS rfl) (cS rfl) g))
  refine uX O (pw ?_);have S:((((i7 n).map cH).map SV.fz)).getLast? =QB (.fz (cH .turn)):=by unfold i7;rw[Q3,Q3];exact List.getLast?_concat
  refine Gn (fX (Ig (a9 rfl) rfl S)) ?_;have L:∀{Z:aX},ci (aU (aR sL (dI cP 1 (aa (ad 1) au)) (dI bQ 1 (aa (ad 1) au)))) (G5 ns b (QB (.rf 0)) QF QF) Z= .ok QN Z:=cr (cF (aW (cB (ai (ah rfl) aI) rfl rfl I) (cB (ai (ah rfl) aI) rfl rfl H) rfl rfl g) rfl);refine uX L (pw ?_);generalize List.set [Cell.lst (((i7 n).map cH).map SV.fz),Cell.lst (((i7 n).map cH).map SV.fz)] 0 (Cell.lst (((i7 n).map cH).map SV.fz).dropLast)=Z0;obtain⟨v,Z1,er,X⟩:=(zw vb bn n5 Z0).all;refine eD (vP (ao (af (ah rfl)) (ao (af aH) aM)) rfl er) rfl ?_;rcases X with⟨rfl,i,hi⟩|⟨N,J,f,h90,rfl,rfl⟩
  ·obtain⟨Z',w⟩:=EX vb bn n5 (m:=90) (by decide) (by decide) (fun N f=>by have:=wg (U7 f) i;omega) Z1;exact NX (aQ (cx (a9 rfl) (af aH) (b9 rfl))) (JW (vP (ao (af (ah rfl)) (ao (af aH) aM)) rfl (rE w)) rfl)
  ·have e:=Lx vb u N
   have E:=Ch e;have C:=STP.IZ e;have isL:=JX b (i7 n) N;generalize hR:((cA b (i7 n) N).map d5).map lW=R at e E C;have U:R.length=N:=by rw[<-hR,QH,QH,f]
   have g0:(sM Z0 ((cA b (i7 n) N).map d5) J)[Z0.length]? =QB (.lst (R.map .fz)):=by rw[<-hR];exact j4 (t:=0)
   generalize sM Z0 ((cA b (i7 n) N).map d5) J=Z1 at g0;have l0:=(QK.mp g0).1;generalize Z0.length=d0 at g0 l0;refine uX (aQ (cx (a9 rfl) (af aH) (lY (cS g0) rfl rfl))) (pw ?_);have l:∀{Q:Option SV} {Z:aX},Z[d0]? =QB (.lst (R.map .fz))->sO dS (aj (aq 3) aN) (G5 ns b (QB (.rf 0)) (QB (.rf d0)) Q) Z= .ok (.fz (.int (N:Int))) Z:=fun h=>tN (ao (a9 rfl) aM) (by unfold aJ;rw[cS h];rfl) ((eX _).trans (by rw[U]));obtain⟨i1,B,r1,k1⟩:=Fc vb bn n5 (by omega) (by omega) f (Vs _) Z1;rw[hR] at k1;refine eD (tL (ao (af (ah rfl)) (ao (l g0) aM)) rfl r1) rfl ?_;have o:(Z1++B)[d0]? =QB (.lst (R.map .fz)):=(Rg l0).trans g0;have a:(Z1++B)[Z1.length+i1]? =QB (.lst (R.map .fz)):=j4.trans k1;have j:d0≠Z1.length+i1:=by omega
   have F:=(QK.mp a).1;have l1:=(QK.mp o).1;generalize Z1.length+i1=d1 at a j F;generalize Z1++B=Z2 at o a l1 F;have z:ku (dm (gN 0) dr (v3 "tuple" (ad 0)) R [QF] [])= .ok (R.map fun _=> .bool QG):=by rw[<-hR,RI];have:=jt (cp:=[]) (fe:=v3 "tuple" (ad 0)) (fun r=>lW (d5 r)) (fun _=>QJ.bool QG) (cA b (i7 n) N) (by omega) rfl fun r _=>Ft (dx:=lW (d5 r)) (ah rfl) rfl rfl;rw[RI];exact this
   have T:qZ 4 (gy qY (aa (dZ 1 [] (tS 4) (gN 0) dr (v3 "tuple" (ad 0))) au)) (G5 ns b (QB (.rf 0)) (QB (.rf d0)) (QB (.rf d1))) Z2= .ok (.fz (.bool QG)) Z2:=by refine(G2 rfl a (eR (ai (eB (by unfold tS;rfl) rfl z) aI) rfl (Qc R)) rfl).trans ?_;rw[EE a]
   have K:xi (mx (bq (zh "list" (aq 4)))) (xi (bq (jJ sL (aq 4) (aq 3))) (mx (bq (qZ 4 (gy qY (aa (dZ 1 [] (tS 4) (gN 0) dr (v3 "tuple" (ad 0))) au)))))) (G5 ns b (QB (.rf 0)) (QB (.rf d0)) (QB (.rf d1))) Z2= .ok QN Z2:=
    gS (kP (aQ (GS (a9 rfl) (za a) rfl))) (gS (aQ (cx (a9 rfl) (a9 rfl) (lY (cS a) (cS o) E))) (kP (aQ T)))
   refine uX K (pw ?_);refine Gn (fX (rB (a9 rfl) a (af aH) a (by rw[QH];omega))) ?_;have q:(Z2.set d1 (.lst (R.map SV.fz++[.fz .none])))[d0]? =QB (.lst (R.map .fz)):=(RA (Ne.symm j)).trans o;generalize Z2.set d1 (.lst (R.map SV.fz++[.fz .none]))=Z3 at q;have l3:=(QK.mp q).1;obtain⟨i2,A,P,k2⟩:=Fc vb bn n5 (m:=400) (by decide) (by decide) f (by omega) Z3;rw[hR] at k2;have G:(Z3++A)[d0]? =QB (.lst (R.map .fz)):=(Rg l3).trans q;have g5:(Z3++A)[Z3.length+i2]? =QB (.lst (R.map .fz)):=j4.trans k2;obtain⟨Z',w⟩:=EX vb bn n5 (m:=(N:Int) - 1) (by omega) (by omega) (fun M hM=>by rw[BJ hM f];omega) (Z3++A);refine uY (tM (aQ (cx (tL (ao (af (ah rfl)) aM) rfl P) (a9 rfl) (lY (cS g5) (cS G) C))) (vP (ao (af (ah rfl)) (ao (cx (l G) (af aH) (b9 (oa _ _))) aM)) rfl (rE w))) rfl
 obtain⟨x,Z',h1,rfl⟩:=p.all;unfold L10.OC;rw[show[QJ.list (ns.map .int)].map SV.fz=[.fz (.list (ns.map .int))] from rfl,h1]
end K41
local macro_rules| `(tactic|walk_at "sc")=> `(tactic|exact⟨rfl,rfl,rfl,by decide+kernel,rfl,by decide+kernel,by decide+kernel⟩)
local macro_rules| `(tactic|walk_at "me")=> `(tactic|first
 |exact .head _
 |(apply List.Mem.tail;walk_at "me"))
local macro_rules| `(tactic|walk_at "cm")=> `(tactic|first
 |with_reducible exact L3.nY
 |with_reducible exact L3.Gw
 |with_reducible exact L3.zi
 |with_reducible exact L3.zX
 |with_reducible exact L3.FH
 |with_reducible exact L3.vh
 |with_reducible exact L3.Hs
 |with_reducible exact L3.Ks
 |with_reducible exact L3.AZ)
local macro_rules| `(tactic|walk_at "sp")=> `(tactic|first
 |walk_at "cm"
 |with_reducible exact L3.dC
 |with_reducible exact L3.mI
 |with_reducible exact L3.Bf
 |with_reducible exact L3.uN
 |with_reducible exact L3.wR
 |with_reducible exact L3.J4
 |with_reducible exact L3.Kv
 |with_reducible exact L3.Br
 |with_reducible exact L3.Au
 |with_reducible exact L3.HQ
 |with_reducible exact L3.BB
 |with_reducible exact L3.fL
 |with_reducible exact L3.gP
 |with_reducible exact L3.HL
 |with_reducible exact L3.uq
 |with_reducible exact L3.vV
 |with_reducible exact L3.IB
 |with_reducible exact L9.yG
 |with_reducible exact L10.Bt
 |with_reducible exact L3.uN)
local macro_rules| `(tactic|walk_at "eo")=> `(tactic|first
 |with_reducible exact L3.aw
 |with_reducible exact L3.bt
 |(with_reducible apply L3.cy);(·walk_at "sp");(·walk_at "eo");(·walk_at "eo")
 |with_reducible exact L3.nI
 |(with_reducible apply L3.jV);(·walk_at "ao")
 |(with_reducible apply L3.jD);(·walk_at "sp");(·walk_at "ao")
 |(with_reducible apply L3.jW);(·walk_at "ao")
 |(with_reducible apply L3.jP);(·walk_at "ao")
 |(with_reducible apply L3.DF);(·walk_at "eo")
 |with_reducible exact L3.iH
 |with_reducible exact L3.B1
 |(with_reducible apply L3.GD);(·simp);(·walk_at "eo")
 |(with_reducible apply L3.EA);(·walk_at "eo");(·walk_at "eo")
 |(with_reducible apply L3.C0);(·assumption))
local macro_rules| `(tactic|walk_at "ao")=> `(tactic|first
 |(with_reducible apply L3.aB);(·walk_at "eo");(·walk_at "ao")
 |with_reducible exact L3.bc)
local macro_rules| `(tactic|walk_at "tt")=> `(tactic|first
 |(with_reducible apply L3.jX);(with_reducible apply L3.cy);(·walk_at "cm");(·walk_at "eo");(·walk_at "eo")
 |(with_reducible apply L3.HB);(·walk_at "tt");(·walk_at "tt")
 |(with_reducible apply L3.ML);(·walk_at "tt");(·walk_at "tt")
 |(with_reducible apply L3.KY);(·walk_at "eo")
 |with_reducible exact L3.ei)
local macro_rules| `(tactic|walk_at "gg")=> `(tactic|first
 |with_reducible exact L3.b3
 |(with_reducible apply L3.v4);(·walk_at "gg");(·walk_at "gg")
 |with_reducible exact L3.FR
 |(with_reducible apply L3.EZ);(·walk_at "gg")
 |with_reducible exact L10.bL
 |(with_reducible apply L10.rj);(·walk_at "gg");(·walk_at "gg")
 |with_reducible exact L10.A3
 |(with_reducible apply L10.AM);(·walk_at "gg"))
local macro_rules| `(tactic|walk_at "io")=> `(tactic|first
 |(with_reducible apply L3.jd);(·walk_at "ao")
 |(with_reducible apply L3.iu);(·walk_at "eo")
 |(with_reducible apply L3.G0);(·walk_at "ao")
 |with_reducible exact L3.xX
 |(with_reducible apply L10.ma);(·walk_at "io")
 |(with_reducible apply L10.uG);(·walk_at "es"))
local macro_rules| `(tactic|walk_at "oo")=> `(tactic|fail)
local macro_rules| `(tactic|walk_at "es")=> `(tactic|first
 |(with_reducible apply L10.ar);(·walk_at "eo")
 |with_reducible exact L10.aG
 |(with_reducible apply L10.xg);(·walk_at "es");(·walk_at "es")
 |(with_reducible apply L10.fO);(·walk_at "sp");(·walk_at "es");(·walk_at "es")
 |(with_reducible apply L10.cj);(·assumption);(·walk_at "me");(·walk_at "es")
 |(with_reducible apply L10.uw);(·walk_at "as")
 |(with_reducible apply L10.m9);(·walk_at "as")
 |(with_reducible apply L10.AG);(·walk_at "as")
 |(with_reducible apply L10.mf);(·walk_at "es");(·walk_at "es")
 |(with_reducible apply L10.pI);(·walk_at "as")
 |(with_reducible apply L10.iB);(·walk_at "es");(·walk_at "es")
 |(with_reducible apply L10.Aq);(·assumption);(·walk_at "es");(·walk_at "as")
 |(with_reducible apply L10.yj);(·walk_at "es")
 |(with_reducible apply L10.yw);(·walk_at "es")
 |(with_reducible apply L10.Gp);(·walk_at "es");(·walk_at "es")
 |(with_reducible apply L10.JV);(·walk_at "es");(·walk_at "es")
 |(with_reducible apply L10.gr);(·walk_at "sp");(·walk_at "as")
 |(with_reducible apply L10.pz);(·walk_at "es")
 |(with_reducible apply L10.Be);(·simp);(·walk_at "es")
 |(with_reducible apply L10.vq);(·walk_at "es");(·walk_at "es")
 |(with_reducible apply L10.L5);(·walk_at "ts");(·walk_at "es");(·walk_at "es")
 |(with_reducible apply L10.IK);(·assumption);(·walk_at "as")
 |(with_reducible apply L10.Fm);(·walk_at "es"))
local macro_rules| `(tactic|walk_at "as")=> `(tactic|first
 |(with_reducible apply L10.aF);(·walk_at "es");(·walk_at "as")
 |with_reducible exact L10.bG)
local macro_rules| `(tactic|walk_at "ts")=> `(tactic|first
 |(with_reducible apply L10.fw);(with_reducible apply L10.fO);(·walk_at "cm");(·walk_at "es");(·walk_at "es")
 |(with_reducible apply L10.EY);(·walk_at "tt")
 |(with_reducible apply L10.Kl);(·walk_at "ts");(·walk_at "ts")
 |(with_reducible apply L10.yY);(·walk_at "ts");(·walk_at "ts")
 |(with_reducible apply L10.vT);(·walk_at "ts")
 |(with_reducible apply L10.xF);(·walk_at "es"))
local macro_rules| `(tactic|walk_at "so")=> `(tactic|first
 |(with_reducible apply L3.dz);(·walk_at "so");(·walk_at "so")
 |(with_reducible apply L3.l6);(·walk_at "eo");(·walk_at "gg")
 |(with_reducible apply L3.OY);(·walk_at "tt");(·walk_at "so");(·walk_at "so")
 |(with_reducible apply L3.kh);(·walk_at "eo")
 |(with_reducible apply L3.Bb);(·walk_at "eo")
 |with_reducible exact L3.IV
 |(with_reducible apply L3.zz);(·walk_at "io");(·walk_at "gg");(·walk_at "so")
 |(with_reducible apply L10.aK);(·walk_at "so");(·walk_at "so")
 |(with_reducible apply L10.dH);(·walk_at "es");(·walk_at "gg")
 |(with_reducible apply L10.lK);(·walk_at "ts");(·walk_at "so");(·walk_at "so")
 |(with_reducible apply L10.gj);(·walk_at "es")
 |(with_reducible apply L10.eU);(·walk_at "es")
 |(with_reducible apply L10.F1);(·walk_at "es");(·walk_at "es");(·walk_at "es")
 |(with_reducible apply L10.kG);(·assumption);(·walk_at "me");(·walk_at "es");(·walk_at "es")
 |with_reducible exact L10.gQ
 |(with_reducible apply L10.BW);(·walk_at "io");(·walk_at "gg");(·walk_at "so")
 |(with_reducible apply L10.na);(·walk_at "ts");(·walk_at "so")
 |with_reducible exact L10.Fp)
local macro_rules| `(tactic|walk_at "to")=> `(tactic|first
 |exact L2.b4
 |exact L2.nw (by assumption)
 |exact L2.GJ (by assumption)
 |exact L3.uI (by assumption)
 |exact L3.Hu (by assumption)
 |exact L9.vG
 |exact L3.mJ
 |exact L2.FY
 |exact L2.GP
 |exact L2.E8
 |exact L3.BM
 |exact L2.LI
 |exact L2.DK
 |exact L2.Nx
 |exact L2.vD
 |exact L2.Ll
 |exact L2.Mr
 |exact L2.F8
 |exact L2.Dy
 |exact L2.Hd
 |exact L2.dc
 |exact L2.cV
 |exact L2.v8
 |exact L3.nt
 |exact L2.fJ
 |exact L10.uA
 |exact L2.E6
 |exact acA
 |exact L2.iM
 |exact L2.ig
 |exact L2.z9
 |exact L2.KC
 |exact L2.K6
 |exact L2.wY
 |exact L2.Ar
 |exact L10.Md
 |exact L2.cR
 |with_reducible exact Sk
 |with_reducible exact Sx
 |with_reducible exact Sy
 |with_reducible exact PySem.F.slot_list_insert
 |with_reducible exact PySem.F.type_list_insert
 |with_reducible exact PySem.F.slot_list_extend
 |with_reducible exact PySem.F.type_list_extend
 |with_reducible exact Vk
 |with_reducible exact Vd
 |with_reducible exact X9
 |exact L2.CL rfl
 |exact L3.md rfl
 |exact L10.si rfl
 |exact L10.rD rfl
 |exact L10.zQ rfl
 |rfl)
local macro_rules| `(tactic|walk_at "pe")=> `(tactic|first
 |(with_reducible apply L2.pv);(·rfl);(·(first|exact Or.inl rfl|exact Or.inr (Or.inl rfl)|exact Or.inr (Or.inr rfl)));(·decide);(·decide)
 |with_reducible exact L2.bp
 |(with_reducible apply L2.c7);(·walk_at "to");(·walk_at "pe");(·walk_at "pe");(·exact fun _ _=>rfl)
 |with_reducible exact L2.nW
 |(with_reducible apply L2.lm);(·walk_at "to");(·walk_at "pe");(·walk_at "pe")
 |(with_reducible apply L2.Cj);(·assumption);(·walk_at "pe");(·walk_at "pe");(·exact fun _ _=>rfl)
 |(with_reducible apply L2.fH);(·assumption);(·assumption);(·walk_at "pa");(·decide);(·rfl);(·decide);(·rfl);(·rfl)
 |(with_reducible apply L2.gl);(·walk_at "pa")
 |with_reducible exact L2.gm
 |(with_reducible apply L2.j8);(·walk_at "pa")
 |(with_reducible apply L2.bz);(·walk_at "to");(·rfl);(·assumption);(·walk_at "to");(·walk_at "pa");(·decide);(·decide);(·rfl);(·rfl)
 |(with_reducible apply L2.eP);(·walk_at "to");(·rfl);(·assumption);(·walk_at "to");(·walk_at "pa");(·decide);(·decide);(·rfl);(·rfl)
 |(with_reducible apply L2.jm);(·rfl);(·assumption);(·(first|rfl|exact⟨_,rfl⟩));(·decide)
 |with_reducible exact L2.xz
 |(with_reducible apply L2.fR);(·walk_at "to");(·walk_at "pe");(·walk_at "pe");(·(first|rfl|with_unfolding_all rfl))
 |(apply L2.df);(·walk_at "pe");(·rfl)
 |(apply L2.um);(·walk_at "to");(·walk_at "to");(·walk_at "to");(·walk_at "to");(·walk_at "pe");(·walk_at "pa");(·rfl);(·rfl);(·decide);(·rfl);(·rfl)
 |(with_reducible apply L2.DZ);(·walk_at "pt");(·walk_at "pe");(·walk_at "pe")
 |(apply L2.zU);(·walk_at "to");(·walk_at "to");(·walk_at "to");(·walk_at "to");(·walk_at "pe");(·rfl);(·decide)
 |(with_reducible apply L2.nF);(·walk_at "pe")
 |(with_reducible apply L2.lC);(·walk_at "pe");(·walk_at "pe")
 |(with_reducible apply L2.Gq);(·walk_at "pe")
 |(apply L2.EI);(·walk_at "pe");(·walk_at "pe");(·exact⟨rfl,rfl,rfl,rfl⟩)
 |(with_reducible apply L2.kO);(·rfl);(·assumption);(·walk_at "to");(·(first|rfl|exact⟨_,rfl⟩));(·decide);(·decide)
 |(apply L10.Ew);(·assumption);(·walk_at "to");(·assumption);(·walk_at "pe");(·walk_at "pa");(·decide);(·rfl);(·rfl);(·rfl)
 |(apply L10.G1);(·assumption);(·walk_at "to");(·assumption);(·walk_at "pe");(·decide);(·rfl)
 |(apply L10.Lq);(·assumption);(·walk_at "to");(·assumption);(·walk_at "pa");(·decide);(·rfl);(·decide);(·rfl);(·rfl)
 |(apply L10.Ap);(·rfl);(·rfl);(·assumption);(·walk_at "pa");(·rfl))
local macro_rules| `(tactic|walk_at "pa")=> `(tactic|first
 |(with_reducible apply L2.ag);(·walk_at "pe");(·walk_at "pa");(·rfl)
 |with_reducible exact L2.az)
local macro_rules| `(tactic|walk_at "pt")=> `(tactic|first
 |(with_reducible apply L2.gI);(·walk_at "to");(·walk_at "pe");(·walk_at "pe");(·(first|rfl|with_unfolding_all rfl))
 |(with_reducible apply L2.sK);(·walk_at "pt")
 |(with_reducible apply L2.Aj);(·walk_at "pc");(·(first|rfl|with_unfolding_all rfl))
 |(with_reducible apply L2.PW.pt);(·walk_at "pw")
 |(with_reducible apply L2.lS);(·walk_at "pe");(·(intro _;rfl)))
local macro_rules| `(tactic|walk_at "pw")=> `(tactic|first
 |(with_reducible apply L2.HD);(·walk_at "pt")
 |(with_reducible apply L2.LC);(·walk_at "pt");(·walk_at "pw")
 |(with_reducible apply L2.yW);(·walk_at "pt")
 |(with_reducible apply L2.xY);(·walk_at "pt");(·walk_at "pw"))
local macro_rules| `(tactic|walk_at "pc")=> `(tactic|first
 |(with_reducible apply L2.NQ);(·assumption);(·walk_at "pe");(·walk_at "pe"))
local macro_rules| `(tactic|walk_at "pg")=> `(tactic|first
 |(with_reducible apply L2.bZ);(·(first|assumption|decide+kernel));(·rfl);(·(first|exact Or.inl rfl|exact Or.inr rfl|assumption|rfl));(·(first|exact Or.inl rfl|exact Or.inr rfl|assumption|rfl))
 |(with_reducible apply L2.jU);(·walk_at "pg");(·walk_at "pg");(·rfl)
 |with_reducible exact L2.ve
 |(apply L2.Ah);(·rfl);(·walk_at "pg");(·rfl);(·rfl))
local macro_rules| `(tactic|walk_at "pi")=> `(tactic|first
 |(with_reducible apply L2.fG);(·rfl);(·assumption);(·walk_at "pa");(·rfl)
 |(apply L3.GZ);(·rfl);(·assumption);(·walk_at "pa");(·rfl);(·rfl)
 |(apply L3.fM);(·walk_at "pe"))
local macro_rules| `(tactic|walk_at "po")=> `(tactic|fail)
local macro_rules| `(tactic|walk_at "te")=> `(tactic|first
 |(with_reducible apply L2.aV);(·walk_at "te")
 |with_reducible exact L2.io
 |(with_reducible apply L2.am);(·walk_at "te");(·walk_at "te")
 |(with_reducible apply L2.dD);(·(first|assumption|decide+kernel));(·rfl);(·(first|exact Or.inl rfl|exact Or.inr rfl|assumption|rfl));(·walk_at "pe");(·rfl);(·(first|exact Or.inl rfl|exact Or.inr rfl|assumption|rfl))
 |(with_reducible apply L2.fS);(·walk_at "pe");(·rfl)
 |(with_reducible apply L2.cU);(·walk_at "pe")
 |(with_reducible apply L2.oK);(·walk_at "pt");(·walk_at "te");(·walk_at "te")
 |(with_reducible apply L2.vJ);(·walk_at "to");(·rfl);(·walk_at "pi");(·walk_at "pg");(·walk_at "te");(·(intro _;rfl))
 |(apply L2.mZ);(·walk_at "pe");(·walk_at "pe");(·rfl)
 |(with_reducible apply L2.Jm);(·assumption);(·walk_at "pe");(·walk_at "pe");(·walk_at "pe");(·rfl)
 |with_reducible exact L2.Ka
 |(with_reducible apply L2.rX);(·walk_at "to");(·walk_at "pt");(·walk_at "te"))
local macro_rules| `(tactic|walk_at "ok")=> `(tactic|(intros;refine L3.Dk (by walk_at "so") ?_;first|(apply L2.am);(·walk_at "te");(·walk_at "te")|(apply L2.aV);(·walk_at "te")))
local macro_rules| `(tactic|walk_at "os")=> `(tactic|(intros;refine L3.GH (by walk_at "so") ?_;first|(apply L2.am);(·walk_at "te");(·walk_at "te")|(apply L2.aV);(·walk_at "te")))
namespace K41
open PySem L2 L3 STP
noncomputable def top (i:Nat):Tg:=PySem.Challenge.pw_chordbed_k41_rooms_as_they_come.main.body.getD i (.Pass ⟨0,0,0,0⟩)
noncomputable def fb:Tg->List Tg
 | .For _ _ b _ _=>b
 | .If _ b _ _=>b
 |_=>[]
noncomputable def av:Tg->RN
 | .Assign _ v _=>v
 |_=> .Name "" ⟨0,0,0,0⟩
noncomputable def ss:RN->RN
 | .Subscript _ v _=>v
 |e=>e
noncomputable def sP:RN->Pos
 | .Subscript _ _ p=>p
 |_=>⟨0,0,0,0⟩
noncomputable def lp:RN->Pos
 | .List _ p=>p
 |_=>⟨0,0,0,0⟩
noncomputable def iT:Tg->RN
 | .If c _ _ _=>c
 |_=> .Name "" ⟨0,0,0,0⟩
noncomputable def fI:Tg->RN
 | .For _ i _ _ _=>i
 |_=> .Name "" ⟨0,0,0,0⟩
noncomputable def iP:Tg->Pos
 | .If _ _ _ p=>p
 |_=>⟨0,0,0,0⟩
noncomputable def aP:Tg->Pos
 | .Assign _ _ p=>p
 |_=>⟨0,0,0,0⟩
noncomputable def nP:Tg->Pos
 | .Assign [.Name _ p] _ _=>p
 |_=>⟨0,0,0,0⟩
noncomputable def sv:RN->RN
 | .Subscript v _ _=>v
 |e=>e
noncomputable def le:RN->List RN
 | .List l _=>l
 |_=>[]
noncomputable def Qv:RN->Option RN
 | .Slice a _ _ _=>a
 |_=>QF
noncomputable def QA:RN->Option RN
 | .Slice _ a _ _=>a
 |_=>QF
noncomputable def Qw:RN->Pos
 | .Slice _ _ _ p=>p
 |_=>⟨0,0,0,0⟩
noncomputable def Qx:RN->List RN
 | .Tuple l _ _=>l
 |_=>[]
noncomputable def Qy:Tg->RN
 | .Return (QB e) _=>e
 |_=> .Name "" ⟨0,0,0,0⟩
noncomputable def rP:Tg->Pos
 | .Return _ p=>p
 |_=>⟨0,0,0,0⟩
noncomputable def bl:RN->RN
 | .BinOp a _ _ _=>a
 |e=>e
noncomputable def br:RN->RN
 | .BinOp _ _ b _=>b
 |e=>e
noncomputable def bP:RN->Pos
 | .BinOp _ _ _ p=>p
 |_=>⟨0,0,0,0⟩
noncomputable def dK:RN->List (Option RN)
 | .Dict k _ _=>k
 |_=>[]
noncomputable def dV:RN->List RN
 | .Dict _ v _=>v
 |_=>[]
noncomputable def dP:RN->Pos
 | .Dict _ _ p=>p
 |_=>⟨0,0,0,0⟩
noncomputable def DP:Tg:= .Pass ⟨0,0,0,0⟩
noncomputable def DE:RN:= .Name "" ⟨0,0,0,0⟩
theorem Pk {l p t n env}:Ss (.List l p) t n env=pure QN:=rfl
theorem OX {l k p t n env}:Ss (.Tuple l k p) t n env=pure QN:=rfl
theorem Pv {a b c p t n env}:Ss (.Call a b c p) t n env=pure QN:=rfl
theorem OH {a o b p t n env}:Ss (.BinOp a o b p) t n env=pure QN:=rfl
theorem IL {a b p t n env}:Ss (.Subscript a b p) t n env=pure QN:=rfl
theorem Pg {a p t n env}:Ss (.Name a p) t n env=pure QN:=rfl
theorem Lr {a b p t n env}:Ss (.Constant a b p) t n env=pure QN:=rfl
theorem NG {o a p t n env}:Ss (.UnaryOp o a p) t n env=pure QN:=rfl
theorem Lw {a b c p t n env}:Ss (.Compare a b c p) t n env=pure QN:=rfl
theorem NZ {a b p t n env}:Ss (.BoolOp a b p) t n env=pure QN:=rfl
theorem OP {a b c p t n env}:Ss (.IfExp a b c p) t n env=pure QN:=rfl
section
variable {P:Q7} {w:Rv} {K:QC} {mg:Str->Option QD} {base:Heap} {f:QI} {fd:RQ}
theorem yc (F:Up K "layer_of" "layer_of" (top 12) f fd) (b:mg "max"=QF):FnOk P w K mg base di 1 f fd ["standing"] (oP K 1 dk):=oh (N:=["standing"]) (g:=lQ) F (by walk_at "sc") rfl rfl rfl fun Sl A outer s H E nd h a j e=>GH (dz (by walk_at "so")
   (kh (jD L10.Bt (aB (fh rfl rfl (iu (cy dC aw bt)) (EZ (v4 b3 (v4 b3 FR))) (jX (cy nY (cy dC aw bt) nI)) (cy dC aw bt)) bc)))) (am (by walk_at "te")
   (aV (cU (L10.Ap rfl rfl b (ag (eW ["key","act"] [] rfl (fM (c7 b4 (pv 0) bp (fun _ _=>rfl))) (fun _ _ _ _=>(Ah rfl (jU (bZ (i:=0) (show Sb (["key","act"]:List Str) by decide+kernel) rfl (Or.inl rfl)) (jU (bZ (i:=1) (show Sb (["key","act"]:List Str) by decide+kernel) rfl (Or.inl rfl)) ve)))) (fun _ _ _ _=>(qK (gI (nw a) (c7 b4 (pv 1) bp (fun _ _=>rfl)) nW (eZ _)))) (fun _ _ _ _=>(c7 b4 (pv 1) bp (fun _ _=>rfl))) trivial rfl) az)))))
theorem v9 (F:Up K "looked_up" "looked_up" (top 15) f fd):FnOk P w K mg base di 1 f fd ["bed","layer","key"] (oP K 3 ic):=oh (N:=["bed","layer","key","meaning"]) (g:=ke) F (by walk_at "sc") rfl rfl rfl fun Sl A outer s H E nd e b h a=>GH (dz (by walk_at "so")
   (dz (by walk_at "so")
   (kh aw))) (am (by walk_at "te")
   (am (by walk_at "te")
   (aV (cU (pv 3)))))
theorem rT (F:Up K "chords_over" "chords_over" (top 16) f fd) (b:mg "all"=QF):FnOk P w K mg base di 1 f fd ["bed","keys"] (oP K 2 bE):=oh (N:=["bed","keys"]) (g:=iJ) F (by walk_at "sc") rfl rfl rfl fun Sl A outer s H E nd h e j a=>GH (kh (fh rfl rfl (iu (cy dC aw bt)) b3 (KY (jD vV (aB (fh rfl rfl (iu aw) b3 ei (cy vh aw (cy dC aw bt))) bc))) aw)) (aV (cU (eW ["chord"] [("keys",1)] rfl (fM (c7 b4 (pv 0) bp (fun _ _=>rfl))) (fun _ _ _ _=>(bZ (i:=0) (show Sb (["chord","keys"]:List Str) by decide+kernel) rfl (Or.inr rfl))) (fun _ _ _ _=>(qK (lS (bz (md rfl) rfl b Ar (ag (eW ["key"] [("chord",0)] rfl (fM (pv 1)) (fun _ _ _ _=>(bZ (i:=0) (show Sb (["key","chord"]:List Str) by decide+kernel) rfl (Or.inl rfl))) (fun _ _ _ _=>c9) (fun _ _ _ _=>(fR (uI a) (pv 0) (c7 b4 (pv 1) bp (fun _ _=>rfl)) (by with_unfolding_all rfl))) ⟨⟨rfl,rfl,Or.inl rfl⟩,trivial⟩ rfl) az))))) (fun _ _ _ _=>(pv 0)) ⟨⟨rfl,rfl,Or.inl rfl⟩,trivial⟩ rfl)))
theorem sX (F:Up K "chord_acts" "chord_acts" (top 17) f fd) (n:mg "list"=QF) (o:mg "sorted"=QF) (p:mg "len"=QF) {a:QI} (l:mg "NONE"=QB (.ref a)) (j:∀O H,DV O K H (.ref a) (.tuple [(.str "none")])):FnOk P w K mg base di 1 f fd ["bed","keys"] (oP K 2 eV):=oh (N:=["bed","keys","chord"]) (g:=je) F (by walk_at "sc") rfl rfl rfl fun Sl A outer s H E nd h e m b=>GH (dz (by walk_at "so")
   (kh (fh rfl rfl (iu aw) b3 ei (cy dC (cy dC (cy dC aw bt) bt) aw)))) (am (by walk_at "te")
   (aV (cU (eW ["key"] [("bed",0)] rfl (fM (pv 1)) (fun _ _ _ _=>(bZ (i:=0) (show Sb (["key","bed"]:List Str) by decide+kernel) rfl (Or.inl rfl))) (fun _ _ _ _=>c9) (fun _ _ _ _=>(c7 b4 (c7 b4 (c7 b4 (pv 1) bp (fun _ _=>rfl)) bp (fun _ _=>rfl)) (pv 0) (fun _ _=>rfl))) ⟨⟨rfl,rfl,Or.inl rfl⟩,trivial⟩ rfl))))
theorem vg (F:Up K "_law_cell" "_law_cell" (top 24) f fd) (i:mg "len"=QF):FnOk P w K mg base di 1 f fd ["_law_script","_law_k"] (oP K 2 bW):=oh (N:=["_law_script","_law_k"]) (g:=om) F (by walk_at "sc") rfl rfl rfl fun Sl A outer s H E nd e b h a=>GH (dz (by walk_at "so")
   (kh bt)) (am (by walk_at "te")
   (aV (cU bp)))
theorem wv (F:Up K "_law_take" "_law_take" (top 25) f fd) (a:mg "range"=QF):FnOk P w K mg base di 1 f fd ["_law_cell_here","_law_salt","_law_many"] (oP K 3 aO):=oh (N:=["_law_cell_here","_law_salt","_law_many","_law_turn","_law_number"]) (g:=gh) F (by walk_at "sc") rfl rfl rfl (by delta gh;walk_at "os")
theorem rL (F:Up K "_law_letter" "_law_letter" (top 26) f fd) (b:g7 P w K mg base 1 "_law_take" ["_law_cell_here","_law_salt","_law_many"] 3 aO):FnOk P w K mg base di 2 f fd ["_law_cell_here","_law_salt"] (oP K 2 cT):=oh (N:=["_law_cell_here","_law_salt"]) (g:=lh) F (by walk_at "sc") rfl rfl rfl fun Sl A outer s H E nd a h i e=>GH (kh (cy uN nI (jV (aB aw (aB aw (aB bt bc)))))) (aV (cU (c7 b4 nW (fH b a (ag (pv 0) (ag (pv 1) (ag bp az)))) (fun _ _=>rfl))))
theorem oQ (F:Up K "_law_meaning" "_law_meaning" (top 27) f fd) (e:g7 P w K mg base 1 "_law_take" ["_law_cell_here","_law_salt","_law_many"] 3 aO) (b:g7 P w K mg base 2 "_law_letter" ["_law_cell_here","_law_salt"] 2 cT) (a:mg "max"=QF):FnOk P w K mg base di 3 f fd ["_law_cell_here","_law_layer","_law_many"] (oP K 3 dU):=oh (N:=["_law_cell_here","_law_layer","_law_many","_law_way","_law_level"]) (g:=dM) F (by walk_at "sc") rfl rfl rfl (by delta dM;walk_at "os")
theorem p9 (F:Up K "_law_chords" "_law_chords" (top 28) f fd) (o:g7 P w K mg base 1 "_law_take" ["_law_cell_here","_law_salt","_law_many"] 3 aO) (b:mg "range"=QF) (j:mg "tuple"=QF) (h:mg "len"=QF) (e:mg "all"=QF):FnOk P w K mg base di 2 f fd ["_law_cell_here","_law_keys_here","_law_first"] (oP K 3 fV):=oh (N:=["_law_cell_here","_law_keys_here","_law_first","_law_found","_law_mask","_law_some","_law_good"]) (g:=fP) F (by walk_at "sc") rfl rfl rfl fun Sl A outer s H E nd m a n l=>GH (dz (by walk_at "so")
   (dz (zz (jd (aB (cy BB bt aw) bc)) b3 (dz (l6 (jD gP (aB (fh rfl rfl (jd (aB aw bc)) b3 (jX (cy nY (cy Br (cy Au aw aw) bt) bt)) aw) bc)) b3)
   (dz (l6 (EA (cy zX (jD fL (aB aw bc)) bt) (jD vV (aB (fh rfl rfl (iu aw) b3 ei (cy nY (cy dC (cy dC aw aw) bt) nI)) bc))) b3)
   (by walk_at "so"))))
   (by walk_at "so"))) (am (by walk_at "te")
   (am (vJ We.never rfl (fG rfl b (ag (lm Hd bp (pv 1)) az)) (bZ (i:=4) nd rfl (Or.inr rfl)) (am (dD (i:=5) nd rfl (Or.inl rfl) (eP cV rfl j ig (ag (eW ["_law_key"] [("_law_mask",4)] rfl (fG rfl b (ag (pv 1) az)) (fun _ _ _ _=>(bZ (i:=0) (show Sb (["_law_key","_law_mask"]:List Str) by decide+kernel) rfl (Or.inl rfl))) (fun _ _ _ _=>(qK (gI (nw a) (lm Dy (lm F8 (pv 1) (pv 0)) bp) bp (eZ _)))) (fun _ _ _ _=>(pv 0)) ⟨⟨rfl,rfl,Or.inl rfl⟩,trivial⟩ rfl) az)))
   (am (dD (i:=6) nd rfl (Or.inl rfl) (lC (fR GP (bz dc rfl h iM (ag (pv 5) az)) bp (eZ _)) (nF (bz (md rfl) rfl e Ar (ag (eW ["_law_key"] [("_law_first",2)] rfl (fM (pv 5)) (fun _ _ _ _=>(bZ (i:=0) (show Sb (["_law_key","_law_first"]:List Str) by decide+kernel) rfl (Or.inl rfl))) (fun _ _ _ _=>c9) (fun _ _ _ _=>(fR (nw a) (c7 b4 (c7 b4 (pv 1) (pv 0) (fun _ _=>rfl)) bp (fun _ _=>rfl)) nW (eZ _))) ⟨⟨rfl,rfl,Or.inl rfl⟩,trivial⟩ rfl) az)))))
   (aV (by walk_at "te")))))
   (aV (by walk_at "te"))))
theorem xD (F:Up K "_law_bed" "_law_bed" (top 29) f fd) (e:g7 P w K mg base 1 "_law_cell" ["_law_script","_law_k"] 2 bW) (p:g7 P w K mg base 1 "_law_take" ["_law_cell_here","_law_salt","_law_many"] 3 aO) (h:g7 P w K mg base 3 "_law_meaning" ["_law_cell_here","_law_layer","_law_many"] 3 dU) (o:g7 P w K mg base 2 "_law_chords" ["_law_cell_here","_law_keys_here","_law_first"] 3 fV) (b:mg "range"=QF) (j:mg "tuple"=QF):FnOk P w K mg base di 4 f fd ["_law_script","_law_at","_law_keys_here"] (oP K 3 jv):=oh (N:=["_law_script","_law_at","_law_keys_here","_law_cell_here","_law_many","_law_layers","_law_layer","_law_cells","_law_chords_here"]) (g:=jx) F (by walk_at "sc") rfl rfl rfl fun Sl A outer s H E nd a m n l=>GH (dz (by walk_at "so")
   (dz (by walk_at "so")
   (dz (l6 (jP bc) b3)
   (dz (zz (jd (aB aw bc)) b3 (dz (l6 (fh rfl rfl (jd (aB aw bc)) b3 ei (jV (aB aw (aB (cy mI (cy mI (cy mI aw bt) (cy wR aw aw)) aw) bc)))) b3)
   (Bb (DF (jD gP (aB (fh rfl rfl (iu aw) b3 ei (jV (aB aw (aB aw (aB aw bc))))) bc))))))
   (dz (by walk_at "so")
   (by walk_at "so")))))) (am (by walk_at "te")
   (am (by walk_at "te")
   (am (dD (i:=5) nd rfl (Or.inl rfl) (j8 az))
   (am (vJ We.never rfl (fG rfl b (ag (pv 4) az)) (bZ (i:=6) nd rfl (Or.inr rfl)) (am (pp (i:=7) ["_law_key"] [("_law_script",0),("_law_at",1),("_law_keys_here",2),("_law_layer",6)] nd rfl rfl rfl (fG rfl b (ag (pv 2) az)) (fun _ _ _ _=>(bZ (i:=0) (show Sb (["_law_key","_law_script","_law_at","_law_keys_here","_law_layer"]:List Str) by decide+kernel) rfl (Or.inl rfl))) (fun _ _ _ _=>c9) (fun _ _ _ _=>(fH e a (ag (pv 1) (ag (lm mJ (lm mJ (lm mJ (pv 2) bp) (lm BM (pv 3) (pv 4))) (pv 0)) az)))) ⟨⟨rfl,rfl,Or.inl rfl⟩,⟨⟨rfl,rfl,Or.inl rfl⟩,⟨⟨rfl,rfl,Or.inl rfl⟩,⟨⟨rfl,rfl,Or.inl rfl⟩,trivial⟩⟩⟩⟩ rfl)
   (aV (fS (um Sk Sx Sy fJ (pv 5) (ag (eP cV rfl j ig (ag (eW ["_law_one"] [("_law_layer",6),("_law_many",4)] rfl (fM (pv 7)) (fun _ _ _ _=>(bZ (i:=0) (show Sb (["_law_one","_law_layer","_law_many"]:List Str) by decide+kernel) rfl (Or.inl rfl))) (fun _ _ _ _=>c9) (fun _ _ _ _=>(fH h a (ag (pv 0) (ag (pv 1) (ag (pv 2) az))))) ⟨⟨rfl,rfl,Or.inl rfl⟩,⟨⟨rfl,rfl,Or.inl rfl⟩,trivial⟩⟩ rfl) az)) az))))))
   (am (by walk_at "te")
   (aV (by walk_at "te")))))))
theorem vW (F:Up K "_law_keys" "_law_keys" (top 30) f fd) (b:g7 P w K mg base 1 "_law_cell" ["_law_script","_law_k"] 2 bW) (e:g7 P w K mg base 1 "_law_take" ["_law_cell_here","_law_salt","_law_many"] 3 aO):FnOk P w K mg base di 2 f fd ["_law_script"] (oP K 1 ii):=oh (N:=["_law_script"]) (g:=ot) F (by walk_at "sc") rfl rfl rfl fun Sl A outer s H E nd a i j h=>GH (kh (cy dC (jP (aB bt (aB bt (aB bt (aB bt bc))))) (jV (aB (jV (aB aw (aB bt bc))) (aB bt (aB bt bc)))))) (aV (cU (c7 b4 (j8 (ag bp (ag bp (ag bp (ag bp az))))) (fH e a (ag (fH b a (ag (pv 0) (ag bp az))) (ag bp (ag bp az)))) (fun _ _=>rfl))))
theorem rz (F:Up K "_law_events" "_law_events" (top 31) f fd) (a:mg "range"=QF):FnOk P w K mg base di 1 f fd ["_law_bed_here"] (oP K 1 bQ):=oh (N:=["_law_bed_here","_law_found","_law_word","_law_key"]) (g:=fU) F (by walk_at "sc") rfl rfl rfl (by delta fU;walk_at "os")
theorem vK (F:Up K "events_of" "events_of" (top 19) f fd) (a:mg "range"=QF):FnOk P w K mg base di 1 f fd ["bed"] (oP K 1 cP):=oh (N:=["bed","downs","ups"]) (g:=j7) F (by walk_at "sc") rfl rfl rfl fun Sl A outer s H E nd h e j b=>GH (dz (l6 (fh rfl rfl (jd (aB (cy dC aw bt) bc)) b3 ei (jW (aB nI (aB aw bc)))) b3)
   (dz (l6 (fh rfl rfl (jd (aB (cy dC aw bt) bc)) b3 ei (jW (aB nI (aB aw bc)))) b3)
   (by walk_at "so"))) (am (pp (i:=1) ["key"] [] nd rfl rfl rfl (fG rfl a (ag (c7 b4 (pv 0) bp (fun _ _=>rfl)) az)) (fun _ _ _ _=>(bZ (i:=0) (show Sb (["key"]:List Str) by decide+kernel) rfl (Or.inl rfl))) (fun _ _ _ _=>c9) (fun _ _ _ _=>(gl (ag nW (ag (pv 0) az)))) trivial rfl)
   (am (pp (i:=2) ["key"] [] nd rfl rfl rfl (fG rfl a (ag (c7 b4 (pv 0) bp (fun _ _=>rfl)) az)) (fun _ _ _ _=>(bZ (i:=0) (show Sb (["key"]:List Str) by decide+kernel) rfl (Or.inl rfl))) (fun _ _ _ _=>c9) (fun _ _ _ _=>(gl (ag nW (ag (pv 0) az)))) trivial rfl)
   (aV (by walk_at "te"))))
end
end K41
namespace K41
open PySem L2 L3 L10 STP
section
variable {P:Q7} {w:Rv} {K:QC} {mg:Str->Option QD} {base:Heap} {f:QI} {fd:RQ}
theorem nZ (F:Up K "__init__" "Hand.__init__" (aZ (top 14) 0) f fd) (b:gu K "Hand" ["bed","acts","waiting","once","sent"]) (a:mg "dict"=QF):FnOk P w K mg base di 3 f fd ["self","bed","standing"] (dn K 3 dw):=kq (N:=["self","bed","standing"]) (g:=jA) F (by walk_at "sc") rfl rfl rfl fun Sl A outer s H E nd i h j e=>Dk (aK (kG b (.head _) aG (ar aw))
   (aK (by walk_at "so")
   (aK (by walk_at "so")
   (aK (by walk_at "so")
   (by walk_at "so"))))) (am (mZ (pv 0) (pv 1) rfl)
   (am (by walk_at "te")
   (am (by walk_at "te")
   (am (by walk_at "te")
   (aV (by walk_at "te"))))))
theorem rG (F:Up K "stands" "Hand.stands" (aZ (top 14) 1) f fd) (a:gu K "Hand" ["bed","acts","waiting","once","sent"]) (h:mg "tuple"=QF) (e:mg "sorted"=QF):FnOk P w K mg base di 3 f fd ["self"] (dn K 1 bC):=kq (N:=["self"]) (g:=ld) F (by walk_at "sc") rfl rfl rfl fun Sl A outer s H E nd m l b j=>Dk (eU (pI (aF (gr gP (aF (rA rfl rfl (uG (yw (cj a (.tail _ (.head _)) aG))) bL mw (pI (aF (ar aw) (aF (xg (cj a (.tail _ (.head _)) aG) (ar aw)) bG)))) bG)) (aF (cj a (.tail _ (.tail _ (.head _))) aG) (aF (cj a (.tail _ (.tail _ (.tail _ (.head _)))) aG) bG))))) (aV (cU (gl (ag (eP cV rfl h ig (ag (eW ["key"] [("self",0)] rfl (fM (bz (rD rfl) rfl e wY (ag (df (pv 0) rfl) az))) (fun _ _ _ _=>(bZ (i:=0) (show Sb (["key","self"]:List Str) by decide+kernel) rfl (Or.inl rfl))) (fun _ _ _ _=>c9) (fun _ _ _ _=>(gl (ag (pv 0) (ag (Cj b (df (pv 1) rfl) (pv 0) (fun _ _=>rfl)) az)))) ⟨⟨rfl,rfl,Or.inl rfl⟩,trivial⟩ rfl) az)) (ag (df (pv 0) rfl) (ag (df (pv 0) rfl) az))))))
theorem lB (F:Up K "is_waiting" "Hand.is_waiting" (aZ (top 14) 2) f fd) (a:gu K "Hand" ["bed","acts","waiting","once","sent"]):FnOk P w K mg base di 3 f fd ["self","key"] (dn K 2 bS):=kq (N:=["self","key"]) (g:=ie) F (by walk_at "sc") rfl rfl rfl fun Sl A outer s H E nd h e i b=>Dk (eU (vq (fO AZ (cj a (.tail _ (.tail _ (.head _))) aG) (ar iH)) (fO vh (ar aw) (iB (cj a (.tail _ (.tail _ (.head _))) aG) (ar bt))))) (aV (cU (lC (fR vD (df (pv 0) rfl) gm (eZ _)) (nF (fR (uI b) (pv 1) (c7 b4 (df (pv 0) rfl) bp (fun _ _=>rfl)) (by with_unfolding_all rfl))))))
theorem oO (F:Up K "has_act" "Hand.has_act" (aZ (top 14) 13) f fd) (e:gu K "Hand" ["bed","acts","waiting","once","sent"]) (b:mg "list"=QF):FnOk P w K mg base di 3 f fd ["self","act"] (dn K 2 bH):=kq (N:=["self","act"]) (g:=ko) F (by walk_at "sc") rfl rfl rfl fun Sl A outer s H E nd i h j a=>Dk (eU (fO vh (ar aw) (yj (cj e (.tail _ (.head _)) aG)))) (aV (cU (fR (uI a) (pv 1) (eP (si rfl) rfl b z9 (ag (zU Vk Vd X9 uA (df (pv 0) rfl)) az)) (by with_unfolding_all rfl))))
theorem uK (F:Up K "come" "Hand.come" (aZ (top 14) 11) f fd) (b:gu K "Hand" ["bed","acts","waiting","once","sent"]) (a:bX P w K mg base di 3 "Hand" "has_act" ["self","act"] (dn K 2 bH)):FnOk P w K mg base di 4 f fd ["self","key","act"] (dn K 3 bw):=kq (N:=["self","key","act"]) (g:=kr) F (by walk_at "sc") rfl rfl rfl (by delta kr;walk_at "ok")
theorem yA (F:Up K "go" "Hand.go" (aZ (top 14) 12) f fd) (b:gu K "Hand" ["bed","acts","waiting","once","sent"]) (a:bX P w K mg base di 3 "Hand" "has_act" ["self","act"] (dn K 2 bH)):FnOk P w K mg base di 4 f fd ["self","key"] (dn K 2 iL):=kq (N:=["self","key","act"]) (g:=nX) F (by walk_at "sc") rfl rfl rfl (by delta nX;walk_at "ok")
theorem qh (F:Up K "decide" "Hand.decide" (aZ (top 14) 10) f fd) (b:gu K "Hand" ["bed","acts","waiting","once","sent"]) (p:bX P w K mg base di 4 "Hand" "come" ["self","key","act"] (dn K 3 bw)) (m:g7 P w K mg base 1 "chord_acts" ["bed","keys"] 2 eV) (j:mg "zip"=QF) {a:QI} (n:mg "CHORD"=QB (.ref a)) (o:∀O H,L3.DV O K H (.ref a) (.tuple [(.str "chord")])):FnOk P w K mg base di 5 f fd ["self"] (dn K 1 bR):=kq (N:=["self","keys","what","acts","key","act"]) (g:=lg) F (by walk_at "sc") rfl rfl rfl fun Sl A outer s H E nd i h l e=>Dk (aK (by walk_at "so")
   (aK (by walk_at "so")
   (aK (kG b (.tail _ (.tail _ (.head _))) aG (ar iH))
   (aK (by walk_at "so")
   (by walk_at "so"))))) (am (by walk_at "te")
   (am (by walk_at "te")
   (am (mZ (pv 0) gm rfl)
   (am (by walk_at "te")
   (aV (by walk_at "te"))))))
theorem k7 (F:Up K "makes_chord" "Hand.makes_chord" (aZ (top 14) 4) f fd) (l:gu K "Hand" ["bed","acts","waiting","once","sent"]) (i:bX P w K mg base di 3 "Hand" "stands" ["self"] (dn K 1 bC)) (b:g7 P w K mg base 1 "layer_of" ["standing"] 1 dk) (j:g7 P w K mg base 1 "chords_over" ["bed","keys"] 2 bE) {a:QI} (e:mg "CHORD"=QB (.ref a)) (h:∀O H,L3.DV O K H (.ref a) (.tuple [(.str "chord")])):FnOk P w K mg base di 4 f fd ["self","key"] (dn K 2 dj):=kq (N:=["self","key"]) (g:=eG) F (by walk_at "sc") rfl rfl rfl (by delta eG;walk_at "ok")
theorem jR (F:Up K "put_to_chord" "Hand.put_to_chord" (aZ (top 14) 5) f fd) (h:gu K "Hand" ["bed","acts","waiting","once","sent"]) (m:bX P w K mg base di 5 "Hand" "decide" ["self"] (dn K 1 bR)) (l:g7 P w K mg base 1 "chords_over" ["bed","keys"] 2 bE) (b:mg "len"=QF) {e:QI} (p:mg "CHORD"=QB (.ref e)) (q:∀O H,L3.DV O K H (.ref e) (.tuple [(.str "chord")])):FnOk P w K mg base di 6 f fd ["self","key"] (dn K 2 cW):=kq (N:=["self","key","keys"]) (g:=gw) F (by walk_at "sc") rfl rfl rfl fun Sl A outer s H E nd a j o n=>Dk (aK (by walk_at "so")
   (aK (by walk_at "so")
   (lK (fw (fO nY (rA rfl rfl (uG (AG (aF (cj h (.head _) aG) (aF (ar aw) bG)))) bL mw (ar (jD fL (aB (cy dC aw bt) bc)))) (ar (jP (aB (jD fL (aB aw bc)) bc))))) (gj (Aq h aG bG)) gQ))) (am (by walk_at "te")
   (am (by walk_at "te")
   (aV (oK (gI (nw j) (eW ["chord"] [] rfl (fM (fH l a (ag (df (pv 0) rfl) (ag (pv 2) az)))) (fun _ _ _ _=>(bZ (i:=0) (show Sb (["chord"]:List Str) by decide+kernel) rfl (Or.inl rfl))) (fun _ _ _ _=>c9) (fun _ _ _ _=>(bz dc rfl b iM (ag (c7 b4 (pv 0) bp (fun _ _=>rfl)) az))) trivial rfl) (j8 (ag (bz dc rfl b iM (ag (pv 2) az)) az)) (eZ _)) (aV (fS (G1 m E6 a (pv 0)))) io))))
theorem sS (F:Up K "begin" "Hand.begin" (aZ (top 14) 6) f fd) (q:gu K "Hand" ["bed","acts","waiting","once","sent"]) (n:bX P w K mg base di 3 "Hand" "stands" ["self"] (dn K 1 bC)) (p:bX P w K mg base di 4 "Hand" "come" ["self","key","act"] (dn K 3 bw)) (j:g7 P w K mg base 1 "layer_of" ["standing"] 1 dk) (i:g7 P w K mg base 1 "looked_up" ["bed","layer","key"] 3 ic) (o:g7 P w K mg base 1 "chords_over" ["bed","keys"] 2 bE) {b:QI} (l:mg "CHORD"=QB (.ref b)) (m:∀O H,L3.DV O K H (.ref b) (.tuple [(.str "chord")])) {a:QI} (h:mg "NONE"=QB (.ref a)) (e:∀O H,L3.DV O K H (.ref a) (.tuple [(.str "none")])):FnOk P w K mg base di 5 f fd ["self","key"] (dn K 2 fD):=kq (N:=["self","key","layer","meaning","word"]) (g:=jp) F (by walk_at "sc") rfl rfl rfl (by delta jp;walk_at "ok")
theorem sV (F:Up K "press" "Hand.press" (aZ (top 14) 3) f fd) (j:gu K "Hand" ["bed","acts","waiting","once","sent"]) (h:bX P w K mg base di 3 "Hand" "is_waiting" ["self","key"] (dn K 2 bS)) (b:bX P w K mg base di 4 "Hand" "makes_chord" ["self","key"] (dn K 2 dj)) (e:bX P w K mg base di 6 "Hand" "put_to_chord" ["self","key"] (dn K 2 cW)) (i:bX P w K mg base di 5 "Hand" "decide" ["self"] (dn K 1 bR)) (a:bX P w K mg base di 5 "Hand" "begin" ["self","key"] (dn K 2 fD)):FnOk P w K mg base di 7 f fd ["self","key"] (dn K 2 gL):=kq (N:=["self","key"]) (g:=jg) F (by walk_at "sc") rfl rfl rfl (by delta jg;walk_at "ok")
theorem pX (F:Up K "settle" "Hand.settle" (aZ (top 14) 8) f fd) (j:gu K "Hand" ["bed","acts","waiting","once","sent"]) (i:bX P w K mg base di 5 "Hand" "decide" ["self"] (dn K 1 bR)) (h:bX P w K mg base di 4 "Hand" "come" ["self","key","act"] (dn K 3 bw)) {a:QI} (b:mg "CHORD"=QB (.ref a)) (e:∀O H,L3.DV O K H (.ref a) (.tuple [(.str "chord")])):FnOk P w K mg base di 6 f fd ["self","key"] (dn K 2 fZ):=kq (N:=["self","key","what"]) (g:=iy) F (by walk_at "sc") rfl rfl rfl (by delta iy;walk_at "ok")
theorem wy (F:Up K "lift" "Hand.lift" (aZ (top 14) 7) f fd) (h:gu K "Hand" ["bed","acts","waiting","once","sent"]) (e:bX P w K mg base di 3 "Hand" "is_waiting" ["self","key"] (dn K 2 bS)) (b:bX P w K mg base di 6 "Hand" "settle" ["self","key"] (dn K 2 fZ)) (a:bX P w K mg base di 4 "Hand" "go" ["self","key"] (dn K 2 iL)):FnOk P w K mg base di 7 f fd ["self","key"] (dn K 2 ip):=kq (N:=["self","key"]) (g:=jM) F (by walk_at "sc") rfl rfl rfl (by delta jM;walk_at "ok")
theorem pc (F:Up K "wait_on" "Hand.wait_on" (aZ (top 14) 9) f fd) (b:gu K "Hand" ["bed","acts","waiting","once","sent"]) (a:bX P w K mg base di 5 "Hand" "decide" ["self"] (dn K 1 bR)):FnOk P w K mg base di 6 f fd ["self"] (dn K 1 fA):=kq (N:=["self","age"]) (g:=gZ) F (by walk_at "sc") rfl rfl rfl (by delta gZ;walk_at "ok")
theorem IA (F:Up K "step" "step" (top 13) f fd) (j:gu K "Hand" ["bed","acts","waiting","once","sent"]) (a:ym P w K mg base di 3 "Hand" ["self","bed","standing"] (dn K 3 dw)) (h:bX P w K mg base di 6 "Hand" "wait_on" ["self"] (dn K 1 fA)) (b:bX P w K mg base di 7 "Hand" "press" ["self","key"] (dn K 2 gL)) (e:bX P w K mg base di 7 "Hand" "lift" ["self","key"] (dn K 2 ip)) (i:bX P w K mg base di 3 "Hand" "stands" ["self"] (dn K 1 bC)):FnOk P w K mg base di 8 f fd ["bed","standing","event"] (dn K 3 STP.g6):=kq (N:=["bed","standing","event","hand"]) (g:=yR) F (by walk_at "sc") rfl rfl rfl (by delta yR;walk_at "ok")
theorem pf (F:Up K "enter" "Places.enter" (aZ (top 22) 1) f fd) (a:gu K "Places" ["most","found","numbers"]) {e i b:QI} {j:RQ} {u:Obj} (q:L9.XC K e i b) (v:K.lookup b=QB u) (t:TY K (.ref b)=QG) (p:FnOk P w K mg base di 1 b j ["self","most"] (L9.wj e "most")) (r:Binds K j ["self","most"] []) (o:QZ K QW "TooMany"=QB (QB (.ref e))) (n:mg "TooMany"=QB (.ref e)) (l:mg "len"=QF):FnOk P w K mg base (L4.i8 P w) 3 f fd ["self","place","back","event"] (dn K 4 bJ):=DT (N:=["self","place","back","event"]) (g:=db) F (by walk_at "sc") rfl rfl rfl fun Sl A outer s H E nd m h z y=>Dk (aK (lK (xF (wQ (ar aw) (cj a (.tail _ (.tail _ (.head _))) aG))) (aK (lK (fw (fO FH (gr fL (aF (cj a (.tail _ (.head _)) aG) bG)) (cj a (.head _) aG))) (zx o (cj a (.head _) aG)) gQ)
   (aK (uh (cj a (.tail _ (.tail _ (.head _))) aG) (ar aw) (gr fL (aF (cj a (.tail _ (.head _)) aG) bG)))
   (gj (mf (cj a (.tail _ (.head _)) aG) (ar (jW (aB aw (aB aw (aB aw bc))))))))) gQ)
   (eU (C9 (cj a (.tail _ (.tail _ (.head _))) aG) (ar aw)))) (am (oK (Aj (LD.YS h (pv 1) (df (pv 0) rfl)) (by with_unfolding_all rfl)) (am (oK (gI Ll (bz dc rfl l iM (ag (df (pv 0) rfl) az)) (df (pv 0) rfl) (eZ _)) (aV (L9.CW q v t p r (m.mono (by decide)) rfl n (ag (df (pv 0) rfl) az))) io)
   (am (LD.YY h (df (pv 0) rfl) (pv 1) (bz dc rfl l iM (ag (df (pv 0) rfl) az)) rfl)
   (aV (fS (um Sk Sx Sy fJ (df (pv 0) rfl) (ag (gl (ag (pv 1) (ag (pv 2) (ag (pv 3) az)))) az)))))) io)
   (aV (cU (LD.abd h (df (pv 0) rfl) (pv 1) (fun _ _=>rfl)))))
theorem lP (F:Up K "__init__" "Places.__init__" (aZ (top 22) 0) f fd) (a:gu K "Places" ["most","found","numbers"]) (e:bX P w K mg base (L4.i8 P w) 3 "Places" "enter" ["self","place","back","event"] (dn K 4 bJ)):FnOk P w K mg base (L4.i8 P w) 4 f fd ["self","first","most"] (dn K 3 cM):=DT (N:=["self","first","most"]) (g:=cO) F (by walk_at "sc") rfl rfl rfl fun Sl A outer s H E nd b i j h=>Dk (aK (kG a (.head _) aG (ar aw))
   (aK (kG a (.tail _ (.head _)) aG (ar (jP bc)))
   (aK (kG a (.tail _ (.tail _ (.head _))) aG CM)
   (gj (D2 a aG (aF (ar aw) (aF (ar iH) (aF (ar iH) bG)))))))) (am (mZ (pv 0) (pv 2) rfl)
   (am (mZ (pv 0) (j8 az) rfl)
   (am (mZ (pv 0) LD.aaY rfl)
   (aV (fS (Ew e L4.r9 b (pv 0) (ag (pv 1) (ag gm (ag gm az)))))))))
theorem Cr (F:Up K "walked" "walked" (top 21) f fd) (a:gu K "Places" ["most","found","numbers"]) (o:ym P w K mg base (L4.i8 P w) 4 "Places" ["self","first","most"] (dn K 3 cM)) (r:bX P w K mg base (L4.i8 P w) 3 "Places" "enter" ["self","place","back","event"] (dn K 4 bJ)) (p:IT P w K mg base 8 "step" ["bed","standing","event"] 3 STP.g6) (q:g7 P w K mg base 1 "events_of" ["bed"] 1 cP) (e:mg "len"=QF) (h:mg "tuple"=QF) (l:mg "zip"=QF) {j:QI} (n:mg "AT_REST"=QB (.ref j)) (m:∀O H,L3.DV O K H (.ref j) (.tuple [(.tuple []),.none,.none])):FnOk P w K mg base (L4.i8 P w) 9 f fd ["bed","most"] (dn K 2 jY):=DT (N:=["bed","most","events","places","steps","sends","room","standing","answers"]) (g:=rN) F (by walk_at "sc") rfl rfl rfl fun Sl A outer s H E nd b u y t=>Dk (aK (dH (pz (ar (jV (aB aw bc)))) bL)
   (aK (dH (Me a (aF (ar (C0 m)) (aF (ar aw) bG))) bL)
   (aK (dH (ar (jP bc)) bL)
   (aK (dH (ar (jP bc)) bL)
   (aK (na (fw (fO zi (gr fL (aF aG bG)) (gr fL (aF (cj a (.tail _ (.head _)) aG) bG)))) (aK (dH (gr fL (aF aG bG)) bL)
   (aK (dH (iB (iB (cj a (.tail _ (.head _)) aG) (ar aw)) (ar bt)) bL)
   (aK (dH (pz (rA rfl rfl (ma (iu aw)) bL mw (m9 (aF (ar aw) (aF (ar aw) (aF (ar aw) bG)))))) bL)
   (aK (gj (mf aG (gr gP (aF (Cy rfl rfl (ma (G0 (aB aw (aB aw bc)))) (AM (rj bL (rj bL A3))) mw (D2 a aG (aF (ar (cy dC aw bt)) (aF (ar aw) (aF (ar aw) bG))))) bG))))
   (gj (mf aG (ar (jD gP (aB (fh rfl rfl (iu aw) b3 ei (jD gP (aB (cy dC aw bt) bc))) bc))))))))))
   (eU (pI (aF (cj a (.tail _ (.head _)) aG) (aF aG (aF aG bG)))))))))) (am (dD (i:=2) nd rfl (Or.inl rfl) (fH q b (ag (pv 0) az)))
   (am (dD (i:=3) nd rfl (Or.inr rfl) (Lq o L4.r9 b (ag (jm (v:= .ref _) rfl n rfl) (ag (pv 1) az))))
   (am (dD (i:=4) nd rfl (Or.inl rfl) (j8 az))
   (am (dD (i:=5) nd rfl (Or.inl rfl) (j8 az))
   (am (rX We.leaving (gI E8 (bz dc rfl e iM (ag (pv 4) az)) (bz dc rfl e iM (ag (df (pv 3) rfl) az)) (eZ _)) (am (dD (i:=6) nd rfl (Or.inr rfl) (bz dc rfl e iM (ag (pv 4) az)))
   (am (dD (i:=7) nd rfl (Or.inr rfl) (c7 b4 (c7 b4 (df (pv 3) rfl) (pv 6) (fun _ _=>rfl)) bp (fun _ _=>rfl)))
   (am (pp (i:=8) ["event"] [("bed",0),("standing",7)] nd rfl rfl rfl (fM (pv 2)) (fun _ _ _ _=>(bZ (i:=0) (show Sb (["event","bed","standing"]:List Str) by decide+kernel) rfl (Or.inl rfl))) (fun _ _ _ _=>c9) (fun _ _ _ _=>(fH p b (ag (pv 1) (ag (pv 2) (ag (pv 0) az))))) ⟨⟨rfl,rfl,Or.inl rfl⟩,⟨⟨rfl,rfl,Or.inl rfl⟩,trivial⟩⟩ rfl)
   (am (fS (um Sk Sx Sy fJ (pv 4) (ag (eP cV rfl h ig (ag (F9 ["event","answer"] [("places",3),("room",6)] ⟨rfl,rfl⟩ rfl rfl L4.HJ rfl (GZ rfl l (ag (pv 2) (ag (pv 8) az))) (fun _ _ _ _=>(Ah rfl (jU (bZ (i:=0) (show Sb (["event","answer","places","room"]:List Str) by decide+kernel) rfl (Or.inl rfl)) (jU (bZ (i:=1) (show Sb (["event","answer","places","room"]:List Str) by decide+kernel) rfl (Or.inl rfl)) ve)))) (fun _ _ _ _=>c9) (fun _ _ _ _=>(Ew r L4.FJ b (pv 2) (ag (c7 b4 (pv 1) bp (fun _ _=>rfl)) (ag (pv 3) (ag (pv 0) az))))) ⟨⟨rfl,rfl,Or.inl rfl⟩,⟨⟨rfl,rfl,Or.inl rfl⟩,trivial⟩⟩ rfl) az)) az)))
   (aV (fS (um Sk Sx Sy fJ (pv 5) (ag (eP cV rfl h ig (ag (eW ["answer"] [] rfl (fM (pv 8)) (fun _ _ _ _=>(bZ (i:=0) (show Sb (["answer"]:List Str) by decide+kernel) rfl (Or.inl rfl))) (fun _ _ _ _=>c9) (fun _ _ _ _=>(eP cV rfl h ig (ag (c7 b4 (pv 0) bp (fun _ _=>rfl)) az))) trivial rfl) az)) az)))))))))
   (aV (cU (gl (ag (df (pv 3) rfl) (ag (pv 4) (ag (pv 5) az)))))))))))
theorem yh {h:QI} {a:Array QD} (F:Yq K "rooms" "rooms" (top 20) f fd h a) (e:pd P w K mg base (L4.i8 P w) 9 "walked" ["bed","most"] [] (dn K 2 jY)):FnOk P w K mg base (L4.i8 P w) 10 f fd ["bed","most"] (dn K 2 cX):=MC (N:=["bed","most"]) (g:=vB) F (by walk_at "sc") rfl rfl rfl fun Sl A outer s H E nd b j l i=>Dk (eU (iB (Dc (fun _ _=> .nil) (aF (ar aw) (aF (ar aw) bG))) (ar bt))) (aV (cU (c7 b4 (vk e b L4.r9 (ag (pv 0) (ag (pv 1) az))) bp (fun _ _=>rfl))))
theorem sT (F:Up K "_law_rooms" "_law_rooms" (top 32) f fd) (h:IT P w K mg base 8 "step" ["bed","standing","event"] 3 STP.g6) (j:g7 P w K mg base 1 "_law_events" ["_law_bed_here"] 1 bQ) (e:mg "len"=QF):FnOk P w K mg base di 9 f fd ["_law_bed_here","_law_cap"] (dn K 2 gG):=kq (N:=["_law_bed_here","_law_cap","_law_found","_law_known","_law_at","_law_event","_law_behind"]) (g:=jz) F (by walk_at "sc") rfl rfl rfl fun Sl A outer s H E nd b a m l=>Dk (aK (dH (ar (jP (aB (jW (aB (jW (aB (jW bc) (aB iH (aB iH bc)))) (aB iH (aB iH bc)))) bc))) bL)
   (aK (dH (Jo (iB (iB aG (ar bt)) (ar bt)) (ar B1)) bL)
   (aK (dH (ar bt) bL)
   (aK (na (fw (fO zi (ar aw) (gr fL (aF aG bG)))) (aK (BW (ma (iu (jV (aB aw bc)))) bL (aK (dH (pz (iB (m9 (aF (ar aw) (aF (iB (iB aG (ar aw)) (ar bt)) (aF (ar aw) bG)))) (ar bt))) bL)
   (lK (xF (wQ (ar aw) aG)) (aK (uh aG (ar aw) (ar B1))
   (gj (mf aG (ar (jW (aB aw (aB aw (aB aw bc)))))))) gQ)))
   (aK (dH (ar (cy mI aw bt)) bL)
   (lK (fw (fO zX (gr fL (aF aG bG)) (ar aw))) (eU (ar iH)) gQ))))
   (eU aG))))) (am (dD (i:=2) nd rfl (Or.inl rfl) (j8 (ag (gl (ag (gl (ag (gl az) (ag gm (ag gm az)))) (ag gm (ag gm az)))) az)))
   (am (dD (i:=3) nd rfl (Or.inl rfl) (LD.acR a (c7 b4 (c7 b4 (pv 2) bp (fun _ _=>rfl)) bp (fun _ _=>rfl)) xz))
   (am (dD (i:=4) nd rfl (Or.inl rfl) bp)
   (am (rX We.never (gI E8 (pv 4) (bz dc rfl e iM (ag (pv 2) az)) (eZ _)) (am (vJ We.never rfl (fM (fH j b (ag (pv 0) az))) (bZ (i:=5) nd rfl (Or.inl rfl)) (am (dD (i:=6) nd rfl (Or.inl rfl) (c7 b4 (fH h b (ag (pv 0) (ag (c7 b4 (c7 b4 (pv 2) (pv 4) (fun _ _=>rfl)) bp (fun _ _=>rfl)) (ag (pv 5) az)))) bp (fun _ _=>rfl)))
   (aV (oK (Aj (LD.YS a (pv 6) (pv 3)) (by with_unfolding_all rfl)) (am (LD.YY a (pv 3) (pv 6) xz rfl)
   (aV (fS (um Sk Sx Sy fJ (pv 2) (ag (gl (ag (pv 6) (ag (pv 4) (ag (pv 5) az)))) az))))) io))))
   (am (dD (i:=4) nd rfl (Or.inl rfl) (lm mJ (pv 4) bp))
   (aV (oK (gI GP (bz dc rfl e iM (ag (pv 2) az)) (pv 1) (eZ _)) (aV (cU gm)) io)))))
   (aV (cU (pv 2)))))))
theorem Nf (F:Up K "law" "law" (top 35) f fd) (n:pd P w K mg base (L4.i8 P w) 10 "rooms" ["bed","most"] [] (dn K 2 cX)) (l:pd P w K mg base (L4.i8 P w) 10 "rooms" ["bed","most"] [.int 400] (dn K 2 cX)) (y:IT P w K mg base 9 "_law_rooms" ["_law_bed_here","_law_cap"] 2 gG) (o:IT P w K mg base 12 "_law_refused" ["_law_bed_here","_law_most"] 2 cb) (r:g7 P w K mg base 2 "_law_keys" ["_law_script"] 1 ii) (t:g7 P w K mg base 4 "_law_bed" ["_law_script","_law_at","_law_keys_here"] 3 jv) (B:g7 P w K mg base 1 "events_of" ["bed"] 1 cP) (z:g7 P w K mg base 1 "_law_events" ["_law_bed_here"] 1 bQ) (h:mg "isinstance"=QF) (m:mg "list"=QF) (e:mg "len"=QF) (j:mg "all"=QF) (p:mg "tuple"=QF):FnOk P w K mg base di 13 f fd ["_law_script"] (dn K 1 F_law):=kq (N:=["_law_script","_law_bed_here","_law_events_here","_law_due","_law_found"]) (g:=DD) F (by walk_at "sc") rfl rfl rfl fun Sl A outer s H E nd a b u q=>Dk (aK (by walk_at "so")
   (aK (by walk_at "so")
   (aK (by walk_at "so")
   (aK (gj (D5 aG))
   (aK (by walk_at "so")
   (aK (by walk_at "so")
   (aK (by walk_at "so")
   (aK (dH (re (fun _ _=> .nil) (aF (ar aw) (aF (gr fL (aF aG bG)) bG))) bL)
   (aK (lK (yY (vT (xF (Be (by simp) aG))) (yY (fw (fO Gw aG aG)) (vT (xF (CG (jD vV (aB (wF rfl rfl xX b3 ei (GD (by simp) aw)) bc))))))) (eU (ar B1)) gQ)
   (aK (by walk_at "so")
   (eU (vq (fO nY (re (fun _ _=>(.cons (.int _) .nil)) (aF (ar aw) bG)) aG) (uw (aF (ar aw) (aF (fO Bf (gr fL (aF aG bG)) (ar bt)) bG))))))))))))))) (am (by walk_at "te")
   (am (by walk_at "te")
   (am (by walk_at "te")
   (am (fS (zU Sk PySem.F.slot_list_pop PySem.F.type_list_pop Ng (pv 2)))
   (am (by walk_at "te")
   (am (by walk_at "te")
   (am (by walk_at "te")
   (am (dD (i:=4) nd rfl (Or.inl rfl) (vk n a E1 (ag (pv 1) (ag (bz dc rfl e iM (ag (pv 3) az)) az))))
   (am (oK (PW.pt (xY (sK (lS (bz nt rfl h cR (ag (pv 4) (ag (kO (v:= .ty "list") rfl m z9 rfl) az))))) (xY (gI (GJ b) (pv 4) (pv 3) (eZ _)) (yW (sK (lS (bz (md rfl) rfl j Ar (ag (eW ["_law_room"] [] rfl (fM (pv 4)) (fun _ _ _ _=>(bZ (i:=0) (show Sb (["_law_room"]:List Str) by decide+kernel) rfl (Or.inl rfl))) (fun _ _ _ _=>c9) (fun _ _ _ _=>(bz nt rfl h cR (ag (pv 0) (ag (kO (v:= .ty "tuple") rfl p ig rfl) az)))) trivial rfl) az)))))))) (aV (cU xz)) io)
   (am (by walk_at "te")
   (aV (cU (lC (fR (nw b) (vk l a E1 (ag (pv 1) az)) (pv 3) (eZ _)) (nF (fH o a (ag (pv 1) (ag (lm FY (bz dc rfl e iM (ag (pv 3) az)) bp) az)))))))))))))))))
end
end K41
namespace L2
open PySem PySem.Spec PyProof.Rows
section
variable {σ:St} {H:Hp} {Q:VK} {D:Ends}
theorem HP {K:QC} {ta tv:TE} {f:Str} (h:tv σ H fun y H1=>ta σ H1 fun x H2=>∃a C dx fs,x= .ref a/\H2 a=QB (.ins C dx fs)/\ZE K C/\Vh K C f/\fs.length<1000/\D.nx σ (bv H2 a (.ins C dx (iw f y fs)))):Ny K ta tv f D σ H:=h
theorem Mx {c:TT} {t u:TE} (h:c σ H fun b H1=>if b=QG then t σ H1 Q else u σ H1 Q):P6 c t u σ H Q:=h
theorem NO {K:QC} {ta:TE} {f:Str} (h:ta σ H fun x H1=>∃a C dx fs v,x= .ref a/\H1 a=QB (.ins C dx fs)/\ZE K C/\Vh K C f/\fs.lookup f=QB v/\Q v H1):LG K ta f σ H Q:=h
theorem Ko {C:QI} {m:Str} {sp:Sp} {E:XK} {ta:TE} {t:TA} (h:ta σ H fun x H1=>∃a dx fs,x= .ref a/\H1 a=QB (.ins C dx fs)/\fs.lookup m=QF/\t σ H1 fun vs H2=>sp (x::(vs++[])) H2 Q E):uj C m sp [] E ta t σ H Q:=h
theorem Kt {C:QI} {sp:Sp} {E:XK} {t:TA} (h:t σ H fun vs H1=>∀x dx,H1 x=QF->H1 dx=QF->dx≠x->sp (.ref x::(vs++[])) (bv (bv H1 dx (.own x)) x (.ins C dx [])) (fun v H2=>v= .Te/\Q (.ref x) H2) E):wV C sp [] E t σ H Q:=h
end
end L2
local macro_rules| `(tactic|walk_at "gh")=> `(tactic|repeat (first
 |with_reducible refine L2.Mz ?_
 |with_reducible refine L2.Ma ?_
 |with_reducible refine L2.HP ?_
 |with_reducible refine L2.Mx ?_
 |with_reducible refine L2.NO ?_
 |with_reducible refine L2.Ko ?_
 |with_reducible refine L2.Kt ?_
 |with_reducible refine L2.Jq ?_
 |((with_reducible show L2.x4 _ _ _ _);refine⟨_,rfl,?_⟩)
 |with_reducible refine L2.PN ?_
 |with_reducible refine L2.Ou ?_
 |with_reducible refine L2.ahZ ?_
 |with_reducible refine L2.ail ?_
 |with_reducible refine L2.akd ?_
 |((with_reducible refine L2.amn ?_ ?_);first|exact⟨by decide,by decide⟩|exact⟨by decide,by decide,by decide⟩|exact(show(0:Int)<_ by decide)|exact⟨by decide,by decide+kernel⟩)
 |((with_reducible refine L2.Pb ?_ ?_);exact rfl)
 |((with_reducible refine L2.ais ?_ ?_);exact rfl)
 |with_reducible refine L2.Nz ?_
 |with_reducible refine L2.J9 ?_
 |with_reducible refine L2.NH ?_
 |with_reducible refine L2.Jr ?_
 |with_reducible refine L2.aeH ?_
 |with_reducible refine L2.afo ?_
 |with_reducible refine L2.afw ?_
 |with_reducible refine L2.P5 ?_
 |with_reducible refine L2.O8 ?_
 |with_reducible refine L2.ahp ?_
 |with_reducible refine L2.Om ?_
 |with_reducible refine L2.LL ?_
 |with_reducible refine L2.JQ ?_
 |with_reducible refine L2.agH ?_
 |with_reducible refine L2.IH ?_
 |with_reducible refine L2.Nv ?_
 |with_reducible refine L2.Km ?_
 |with_reducible refine L2.Oh ?_
 |with_reducible refine L2.Ih ?_
 |with_reducible refine L2.LF ?_
 |with_reducible refine L2.za ?_
 |with_reducible refine L2.ai4 ?_
 |with_reducible refine L2.aiH ?_
 |with_reducible refine L2.adi ?_
 |with_reducible refine L2.ae9 ?_
 |with_reducible refine L2.ahm ?_
 |with_reducible refine L2.aep ?_
 |with_reducible refine L2.aet ?_
 |with_reducible refine L2.afK ?_
 |with_reducible refine L2.ae4 ?_
 |with_reducible refine L2.agB ?_
 |with_reducible refine L2.afO ?_
 |with_reducible refine L2.afb ?_
 |with_reducible refine L2.aev ?_
 |with_reducible refine L2.afi ?_
 |with_reducible refine L2.aen ?_
 |with_reducible refine L2.afk ?_
 |with_reducible refine L2.afv ?_))
namespace K41
open PySem L2
theorem OE {n:Nat} (h:n<=10000):n<QU:=WY h (by decide+kernel)
theorem MG {n:Nat} (h:n<=10000):n<=QU:=U6 (OE h)
section
variable {P:Q7} {w:Rv} {K:QC} {mg:Str->Option QD} {base:Heap} {f:QI} {fd:RQ}
def Cgt (CR:QI) (H:Hp) (e:QI):Prop:=∃ob,H e=QB (.frz ob (.own e))/\ob.cls= .ref CR/\(∀p,ob.dict=QB p->∃fs,H p=QB (.xd fs))/\VY ob=QG
theorem Cgt.same {CR:QI} {H H':Hp} {e:QI} (h:Cgt CR H e) (s:SD H H'):Cgt CR H' e:=by obtain⟨ob,h1,h2,b,a⟩:=h;exact⟨ob,s _ _ h1,h2,fun p hp=>let⟨fs,z⟩:=b p hp;⟨fs,s _ _ z⟩,a⟩
theorem CD {K:QC} {CR C:QI} {m:List QD} {H:Hp} {e:QI} {b:Bool} {Q:VK} (h:Cgt CR H e) (L:L4.V4 K CR m) (k:RL K (.ref CR) (.ref C)=QB b) (q:Q (.bl b) H):L4.Hg K [.ref e,.ref C] H Q:=by obtain⟨ob,h1,h2,f,a⟩:=h;exact⟨_,.inl ⟨C,rfl,e,ob,CR,m,b,rfl,h1,h2,f,a,L,k,q⟩⟩
theorem NW {K:QC} {CR:QI} {n:String} {m:List QD} {H:Hp} {e:QI} {b:Bool} {Q:VK} (h:Cgt CR H e) (L:L4.V4 K CR m) (k:RL K (.ref CR) (.type n)=QB b) (q:Q (.bl b) H):L4.Hg K [.ref e,.ty n] H Q:=by obtain⟨ob,h1,h2,f,a⟩:=h;exact⟨_,.inr ⟨n,rfl,e,ob,CR,m,b,rfl,h1,h2,f,a,L,k,q⟩⟩
theorem DR {K:QC} (C:QI):RL K (.ref C) (.ref C)=QB QG:=by unfold RL;rw[if_pos (beq_iff_eq.mpr rfl)]
theorem vS {K:QC} {CR C:QI} (b:Sz K (.ref CR) (.ref CR)=QB QG) (h1:UO K C=QG) (h2:Th K (.ref C)=QB (.type "type")) (a:Sz K (.ref CR) (.ref C)=QB QN):RL K (.ref CR) (.ref C)=QB QN:=by
 have ne:(QD.ref CR==QD.ref C)=QN:=by
  cases e:(QD.ref CR==QD.ref C) with
  |false=>rfl
  |true=>obtain rfl:=QD.ref.inj (beq_iff_eq.mp e);rw[b] at a;cases a
 unfold RL;rw[ne,if_neg QV];show(if((Wj K C).isSome&&Th K (.ref C)==QB (.type "type"))=QG then Sz K (.ref CR) (.ref C) else QF)=_;rw[show(Wj K C).isSome=QG from h1,h2,if_pos (by rw[Vr];exact beq_iff_eq.mpr rfl)];exact a
theorem M9 {K:QC} {CR:QI} (h:Sz K (.ref CR) (.type "ValueError")=QB QG):RL K (.ref CR) (.type "ValueError")=QB QG:=by unfold RL;rw[if_neg (by intro z;cases beq_iff_eq.mp z)];show(if PySem.W.kitMeta "ValueError"=QG then Sz K (.ref CR) (.type "ValueError") else QF)=_;rw[if_pos (by decide+kernel)];exact h
end
section
open L3 L4
variable {P:Q7} {w:Rv} {K:QC} {mg:Str->Option QD} {base:Heap} {f:QI} {fd:RQ}
theorem k9:Tz ["self","most"] ["self","most"] (ay (aZ (top 5) 0)):=⟨rfl,rfl,rfl,by decide+kernel,rfl,by decide+kernel,by decide+kernel⟩
theorem CY {C B fI:QI} (F:Up K "__init__" "TooMany.__init__" (aZ (top 5) 0) f fd) (m:L9.XC K C B fI) (i:mg "BedError"=QB (.ref B)) (b:Xs K B (.type "type")=QG) (j:Xt K (.ref B) (.type "type") "__init__"=QB (.val (.builtin "ValueError.__init__")))
  (a:Uk K (.ref B) "__getattribute__"=QB (QB (.builtin "type.__getattribute__"))) (hp:Rr K (.ref C) "most"=QB QF):FnOk P w K mg base di 1 f fd ["self","most"] (L9.wj C "most"):=by
 refine F.ok k9 (fun vs H Q E h=> ?_) (fun Sl A outer s H vs Q E o h=> ?_)
 ·obtain⟨_,_,rfl,_⟩:=h;rfl
 obtain⟨e,v,rfl,n,l,q⟩:=h;refine⟨_,(am (fS (L9.E3 rfl i b j a m (ag (pv 0) (ag (L9.Js (L9.NY (by decide) (L9.Mu (pv 1) L9.LV)) (by decide)) az)))) (aV (L9.HK m hp (pv 0) (pv 1) rfl))),?_⟩;walk_at "gh";refine⟨V.ref e,rfl,v,rfl,n,fun y=>⟨e,y,rfl,l,?_⟩⟩;exact⟨v,rfl,V.ref e,rfl,e,rfl,l,fun p hp g=>q p hp g⟩
noncomputable def Ly (C:QI):Sp:=fun vs H Q _=>∃(e:QI) (m:Int) (ob:Obj) (p:QI) (fs:List (Str×V)),vs=[.ref e,.int m]/\H e=QB (.frz ob (.own e))/\ob.cls= .ref C/\ob.dict=QB p/\VY ob=QG/\H p=QB (.xd fs)/\fs.lookup ("most":Str)=QB (.int m)/\∀H',SD H H'->Q (.bl QG) H'
theorem nJ:Tz ["_law_e","_law_most"] ["_law_e","_law_most"] (ay (top 33)):=⟨rfl,rfl,rfl,by decide+kernel,rfl,by decide+kernel,by decide+kernel⟩
theorem yz {C g i j b:QI} {mR:List QD} (F:Up K "_law_too_many" "_law_too_many" (top 33) f fd) (L:L4.V4 K C mR) (Wc:mg "TooMany"=QB (.ref C)) (Yp:mg "NoBed"=QB (.ref g)) (Xf:mg "NoChord"=QB (.ref i)) (XT:mg "NoKeys"=QB (.ref j)) (YB:mg "NoRow"=QB (.ref b)) (Z:RL K (.ref C) (.ref g)=QB QN) (W5:RL K (.ref C) (.ref i)=QB QN) (XN:RL K (.ref C) (.ref j)=QB QN) (Y:RL K (.ref C) (.ref b)=QB QN) (kV:RL K (.ref C) (.type "ValueError")=QB QG) (U:TH K C=QG) (hp:Rr K (.ref C) "most"=QB QF) (l:mg "isinstance"=QF) (Vw:mg "ValueError"=QF) (G:mg "int"=QF) (X:mg "bool"=QF):
  FnOk P w K mg base di 1 f fd ["_law_e","_law_most"] (Ly C):=by
 refine F.ok nJ (fun vs H Q E h=> ?_) (fun Sl A outer s H vs Q E hr h=> ?_)
 ·obtain⟨_,_,_,_,_,rfl,_⟩:=h;rfl
 obtain⟨e,m,ob,p,fs,rfl,y,B,hd,hn,t,T,q⟩:=h;have N:Cgt C H e:=⟨ob,y,B,fun O a=>by rw[hd] at a;cases a;exact⟨fs,t⟩,hn⟩;refine⟨_,(am (oK (PW.pt (xY (sK (lS (bz L4.xS rfl l cR (ag (pv 0) (ag (jm (v:= .ref C) rfl Wc rfl) az))))) (xY (sK (lS (bz L4.xS rfl l cR (ag (pv 0) (ag (kO (v:= .ty "ValueError") rfl Vw (show RP "ValueError"=QB (.type "ValueError") from rfl) rfl) az))))) (yW (lS (bz L4.C3 rfl l cR (ag (pv 0) (ag (gl (ag (jm (v:= .ref g) rfl Yp rfl) (ag (jm (v:= .ref i) rfl Xf rfl) (ag (jm (v:= .ref j) rfl XT rfl) (ag (jm (v:= .ref b) rfl YB rfl) az))))) az)))))))) (aV (cU xz)) io)
  (aV (cU (lC (bz xq rfl l cR (ag (L9.uU (pv 0) rfl) (ag (kO (v:= .ty "int") rfl G K6 rfl) az))) (lC (Gq (bz xq rfl l cR (ag (L9.uU (pv 0) rfl) (ag (kO (v:= .ty "bool") rfl X Mf rfl) az)))) (nF (fR Ot (L9.uU (pv 0) rfl) (pv 1) (eZ _)))))))),?_⟩
 walk_at "gh";refine CD N L (DR C) ?_;walk_at "gh";rw[if_neg (by decide)];walk_at "gh";refine NW N L kV ?_;walk_at "gh";rw[if_neg (by decide)];walk_at "gh";refine⟨MG (QO rfl),fun tp u=> ?_⟩;have s1:SD H (bv H tp (.tup [.ref g,.ref i,.ref j,.ref b])):=bM u _;have M:(bv H tp (.tup [.ref g,.ref i,.ref j,.ref b])) tp=QB (.tup ([g,i,j,b].map V.ref)):=aC;generalize bv H tp (.tup [.ref g,.ref i,.ref j,.ref b])=H1 at s1 M;walk_at "gh";have R:XI K (.ref C) ([g,i,j,b].map QD.ref)=QB QN:=by show XI K (.ref C) [.ref g,.ref i,.ref j,.ref b]=_;simp only[XI];rw[Z,W5,XN,Y]
 refine⟨e,tp,[g,i,j,b],ob,C,mR,QN,rfl,M,s1 _ _ y,B,fun O a=>by rw[hd] at a;cases a;exact⟨fs,s1 _ _ t⟩,hn,L,R,?_⟩;walk_at "gh";rw[if_neg (by decide)];walk_at "gh";have r:∀(σ:L2.St) (o:Hp) (I:VK),σ[0]? =QB (QB (.ref e))->SD H o->I (.int m) o->L9.KG K (x4 0) "most" σ o I:=fun σ o I z J S=>⟨V.ref e,z,e,ob,C,mR,p,fs,.int m,rfl,J _ _ y,B,hd,hn,L,U,hp,J _ _ t,T,S⟩;refine r _ _ _ rfl s1 ?_;walk_at "gh";refine⟨_,"int",_,QG,rfl,.int m,pE (n:= "int") (d:= .int m) (by simp) rfl,QG,rfl,?_⟩;rw[if_pos rfl];walk_at "gh";refine r _ _ _ rfl s1 ?_;walk_at "gh";refine⟨_,"bool",_,QN,rfl,.int m,pE (n:= "bool") (d:= .int m) (by simp) rfl,?_⟩;walk_at "gh";rw[if_pos (by decide)];walk_at "gh";refine r _ _ _ rfl s1 ?_;walk_at "gh";rw[decide_eq_true rfl];exact q _ s1
end
end K41
namespace K41
open PySem L2
section
variable {P:Q7} {w:Rv} {K:QC} {mg:Str->Option QD} {base:Heap} {f:QI} {fd:RQ}
theorem eC:Tz ["_law_bed_here","_law_most","_law_caught","_law_e"] ["_law_bed_here","_law_most"] (ay (top 34)):=⟨rfl,rfl,rfl,by decide+kernel,rfl,by decide+kernel,by decide+kernel⟩
theorem oV {C J:QI} {m M:List QD} (F:Up K "_law_refused" "_law_refused" (top 34) f fd) (I:rS P w K mg base 1 "_law_too_many" ["_law_e","_law_most"] (Ly C))
  (UX:L3.pd P w K mg base (L4.i8 P w) 10 "rooms" ["bed","most"] [] (L10.dn K 2 cX))
  (hB:mg "BedError"=QB (.ref J)) (S:L4.sG K J M) (bB:M.contains (.type "BaseException")=QG)
  (R:L4.sG K C m) (up:(QD.ref C::m).contains (.ref J)=QG) (Y:QZ K QW "TooMany"=QB (QB (.ref C))):
  FnOk P w K mg base di 12 f fd ["_law_bed_here","_law_most"] (L10.dn K 2 cb):=by
 refine F.ok eC (fun vs H Q E h=>h.1) (fun Sl A outer s H vs Q E u h=> ?_);have hu:=u.units;obtain⟨hl,B,α,Z,xs,T,hv,n⟩:=h;obtain⟨b,mm,Z',rfl,h1,h2⟩:∃b mm Z',xs=[.fz b,.fz (.int mm)]/\cX [.fz b,.fz (.int mm)] Z= .er ⟨"TooMany",[("most",.int mm)]⟩ Z'/\cb xs Z= .ok (.fz (.bool QG)) Z':=by
  have a:cb xs Z≠ .bad:=fun z=>by rw[z] at n;exact n
  clear n;unfold cb at a⊢;split at a
  ·rename_i b mm
   refine⟨b,mm,?_⟩;cases h1:cX [.fz b,.fz (.int mm)] Z with
   |bad=>rw[h1] at a;exact absurd rfl a
   |ok rv o=>rw[h1] at a;exact absurd rfl a
   |er x o=>
    rw[h1] at a;obtain⟨O,xf⟩:=x;dsimp only at a⊢;by_cases q:O= "TooMany"
    ·subst q
     rw[if_pos rfl] at a⊢;split at a
     ·rename_i f k
      by_cases hf:f=("most":Str)/\k=mm
      ·obtain⟨rfl,rfl⟩:=hf;exact⟨o,rfl,rfl,if_pos ⟨rfl,rfl⟩⟩
      ·rw[if_neg hf] at a;exact absurd rfl a
     ·exact absurd rfl a
    ·rw[if_neg q] at a;exact absurd rfl a
  ·exact absurd rfl a
 rw[h2] at n;obtain⟨t,r,rfl,G,d1⟩:∃t r,vs=[t,r]/\L3.DV (L10.ow B α Z) K H t b/\L3.DV (L10.ow B α Z) K H r (.int mm):=by
  cases hv with
  |cons G r0=>
   cases r0 with
   |cons d1 r1=>cases r1;exact⟨_,_,rfl,G,d1⟩
 cases d1;refine⟨_,(am (dD (i:=2) eC.nd rfl (Or.inl rfl) gm)
  (am (L4.Jc (i:=3) (E2:=fun c dx H1=>∃α',L10.SR α Z H α' Z' H1/\L10.Rq B K H1 α' Z'/\c= .ref C/\∃p fs,dx=QB p/\H1 p=QB (.xd fs)/\fs.lookup ("most":Str)=QB (.int mm)) rfl eC.nd rfl rfl rfl hB S bB rfl rfl
   (fun l σ=>L4.yK rfl UX rfl rfl rfl rfl rfl u (ag (pv 0) (ag (pv 1) az)))
   (fun l e=>aV (dD (i:=2) eC.nd rfl (Or.inl rfl) (pv 3)))
   (fun c dx H1 h=>let⟨_,_,_,h,_⟩:=h;⟨C,m,h,R,up⟩))
  (aV (cU (lC (fR vD (pv 2) gm (eZ _)) (nF (fH I u (ag (pv 2) (ag (pv 1) az))))))))),?_⟩
 walk_at "gh";unfold L4.Lf;refine⟨?_,fun c dx H1 h2 e ob he q hd hn=> ?_⟩
 ·walk_at "gh"
  refine⟨rfl,B,α,Z,[.fz b,.fz (.int mm)],T,.cons G (.cons (.int mm) .nil),?_⟩;rw[h1];rintro c dx α' H' j g ⟨⟨a',e1,e2⟩,fs,g2,g3⟩;obtain⟨X,v,k1,k2⟩:=g3 "most" (.int mm) rfl;have e3:=Y.symm.trans e2;cases e3;cases k2;cases dx with
  |none=>exact absurd rfl X
  |some p=>exact⟨α',j,g,e1,p,fs,rfl,g2 p rfl,k1⟩
 ·obtain⟨α',j,g,rfl,p,fs,rfl,hx,y⟩:=h2
  have s2:SD H1 (bv H1 e (.frz ob (.own e))):=bM he _;have N:(bv H1 e (.frz ob (.own e))) e=QB (.frz ob (.own e)):=aC;generalize bv H1 e (.frz ob (.own e))=H2 at s2 N;walk_at "gh";refine⟨rfl,QG,?_,?_⟩
  ·show V.bl (!decide (V.ref e=V.Te))=V.bl QG;rw[decide_eq_false (fun z=>nomatch z)];rfl
  rw[if_pos rfl];walk_at "gh";refine⟨e,mm,ob,p,fs,rfl,N,q,hd,hn,s2 _ _ hx,y,fun H3 U=> ?_⟩;have L:=s2.trans U;exact n α' H3 (j.trans (L10.SR.same L)) (g.grow L) (.bl QG) (.bl QG)
end
end K41
local macro_rules| `(tactic|walk_at "ba")=> `(tactic|(intro _ _ _ _ _ _ us hl;first|(match us,hl with|[_],_=>rfl)|(match us,hl with|[_,_],_=>rfl)|(match us,hl with|[_,_,_],_=>rfl)|(match us,hl with|[_,_,_,_],_=>rfl)|(match us,hl with|[_,_,_,_,_],_=>rfl)|(match us,hl with|[],_=>rfl)))
local macro_rules| `(tactic|walk_at "bd")=> `(tactic|(intro _ _ _ _ _ _ us hl;first|((have h1:us.length=1:=by simpa using hl);(match us,h1 with|[_],_=>exact⟨_,rfl,rfl⟩))|((have h1:us.length=2:=by simpa using hl);(match us,h1 with|[_,_],_=>exact⟨_,rfl,rfl⟩))|((have h1:us.length=3:=by simpa using hl);(match us,h1 with|[_,_,_],_=>exact⟨_,rfl,rfl⟩))|((have h1:us.length=4:=by simpa using hl);(match us,h1 with|[_,_,_,_],_=>exact⟨_,rfl,rfl⟩))))
local macro_rules| `(tactic|walk_at "fl")=> `(tactic|first|exact List.forall_mem_nil _|(refine List.forall_mem_cons.mpr ⟨?_,?_⟩;(·(show Rr _ _ _=_;k_is));walk_at "fl"))
local macro_rules| `(tactic|walk_at "ki")=> `(tactic|first|(refine' L3.NI.mk ?a ⟨_,L2.FD ?b ?c ?d⟩;(case a=>k_is);(case b=>k_is);(case c=>k_is);(case d=>k_is))|(refine' L3.MI.mk ?a ?e ⟨_,L2.FD ?b ?c ?d⟩;(case a=>k_is);(case e=>k_is);(case b=>k_is);(case c=>k_is);(case d=>k_is))|(refine' L3.CI.mk ?a ?b ?c ?d ?e ?f ?g ?i;(case a=>k_is);(case b=>k_is);(case c=>k_is);(case d=>k_is);(case e=>k_is);(case f=>k_is);(case g=>k_is);(case i=>walk_at "fl"))|(refine' L3.DI.mk ?a ⟨_,L3.IS ?b ?c ?d ?e⟩;(case a=>k_is);(case b=>k_is);(case c=>k_is);(case d=>k_is);(case e=>k_is))|k_is|k_exc|rfl|decide+kernel|(rw[<-Array.all_toList];rfl))
namespace K41
open PySem L2 L3
noncomputable def F_lawH:FN:=L10.OC F_law
theorem all_mk {l:aat} {w:Rv} {K:QC} {h:Heap} {mg:Str->Option QD} {fa:QI}
  {aaM:Tok}
  {V5:QI} {abI:Nat} {abT:Array (Option QD)}
  {aaf:Tok}
  {S5:QI} {aaL:Nat} {aaT:Array (Option QD)}
  {V6:QI} {Yl:Nat} {YA:Array (Option QD)}
  {Vn:QI} {ZQ:Nat} {ZJ:Array (Option QD)}
  {abC:QI} {XW:Tok}
  {f0 f1 f2 f3 f4 f5 f6 f7 f8 f9 f10 f11 f12 f13 f14 f15 f16 f17 f18 f19 b f21 f22 f23 f24 f25 f26 f27 f28 f29 f30 f31 f32 f33 f34 r f36 f37 q:QI}
  {M N R L a j:QI} {mB:List QD}
  {nmR qR:Str} {S:QI} {bsR:List QD} {snR:List Str} {ag3:List QD} {abR:Bool} {agf:Option Bool} {ddR:Option QI} {k0R k1R k2R k3R k5R:Option QD}
  {nmB qB:Str} {NB:QI} {bsB:List QD} {hdB:Bool} {snB:List Str} {t:List QD} {abB:Bool} {ahs:Option Bool} {ddB:Option QI} {k0B k1B k2B k3B k5B:Option QD} {idB:String}
  {ocN:QD} {odN:Option QI} {A:Array UB} {nN:Nat} {slN:Array (Option QD)} (X:K.In h) (G:h.Ns QW mg) (hfa:mg "law"=QB (.ref fa))
  (h0:NI K f0 "layer_of" (top 12))
  (h1:NI K f1 "looked_up" (top 15))
  (h2:NI K f2 "chords_over" (top 16))
  (h3:NI K f3 "chord_acts" (top 17))
  (h4:NI K f4 "_law_cell" (top 24))
  (h5:NI K f5 "_law_take" (top 25))
  (h6:NI K f6 "_law_letter" (top 26))
  (h7:NI K f7 "_law_meaning" (top 27))
  (h8:NI K f8 "_law_chords" (top 28))
  (h9:NI K f9 "_law_bed" (top 29))
  (h10:NI K f10 "_law_keys" (top 30))
  (h11:NI K f11 "_law_events" (top 31))
  (h12:NI K f12 "events_of" (top 19))
  (h13:NI K f13 "step" (top 13))
  (h14:NI K f14 "walked" (top 21))
  (y:DI K f15 abC "rooms" (top 20) #[.int 400 XW])
  (h16:NI K f16 "_law_rooms" (top 32))
  (h17:NI K f17 "_law_refused" (top 34))
  (h18:NI K f18 "_law_too_many" (top 33))
  (h19:NI K f19 "law" (top 35))
  (f:CI K b "Hand" ["bed","acts","waiting","once","sent"])
  (h21:MI K b f21 "__init__" "Hand.__init__" (aZ (top 14) 0))
  (h22:MI K b f22 "stands" "Hand.stands" (aZ (top 14) 1))
  (h23:MI K b f23 "is_waiting" "Hand.is_waiting" (aZ (top 14) 2))
  (h24:MI K b f24 "has_act" "Hand.has_act" (aZ (top 14) 13))
  (h25:MI K b f25 "come" "Hand.come" (aZ (top 14) 11))
  (h26:MI K b f26 "go" "Hand.go" (aZ (top 14) 12))
  (h27:MI K b f27 "decide" "Hand.decide" (aZ (top 14) 10))
  (h28:MI K b f28 "makes_chord" "Hand.makes_chord" (aZ (top 14) 4))
  (h29:MI K b f29 "put_to_chord" "Hand.put_to_chord" (aZ (top 14) 5))
  (h30:MI K b f30 "begin" "Hand.begin" (aZ (top 14) 6))
  (h31:MI K b f31 "press" "Hand.press" (aZ (top 14) 3))
  (h32:MI K b f32 "settle" "Hand.settle" (aZ (top 14) 8))
  (h33:MI K b f33 "lift" "Hand.lift" (aZ (top 14) 7))
  (h34:MI K b f34 "wait_on" "Hand.wait_on" (aZ (top 14) 9))
  (p:CI K r "Places" ["most","found","numbers"])
  (h36:MI K r f36 "enter" "Places.enter" (aZ (top 22) 1))
  (h37:MI K r f37 "__init__" "Places.__init__" (aZ (top 22) 0))
  (aa3:QZ K QW "NoBed"=QB (QB (.ref M)))
  (ZK:QZ K QW "NoChord"=QB (QB (.ref N)))
  (aaq:QZ K QW "NoKeys"=QB (QB (.ref R)))
  (aaH:QZ K QW "NoRow"=QB (QB (.ref L)))
  (Wu:QZ K QW "TooMany"=QB (QB (.ref a)))
  (YT:QZ K QW "BedError"=QB (QB (.ref j)))
  (xR:K.lookup a=QB (excClassObj nmR qR a S bsR (.ref j::[.type "ValueError",.type "Exception",.type "BaseException",.type "object"]) QG snR ag3 abR agf ddR k0R k1R k2R k3R k5R "ValueError.__new__"))
  (xB:K.lookup j=QB (excClassObj nmB qB j NB bsB mB hdB snB t abB ahs ddB k0B k1B k2B k3B k5B idB))
  (eI:Wi K j [.type "ValueError",.type "Exception",.type "BaseException",.type "object"] "ValueError.__new__"=QG)
  (beB:mB.contains (.type "BaseException")=QG)
  (gaR:Rr K (.ref a) "__getattribute__"=QB (QB (.builtin "BaseException.__getattribute__")))
  (gtR:Rr K (.ref a) "__getattr__"=QB QF)
  (csR:Rr K (.ref a) "__class__"=QB (QB (.builtin "object.__class__")))
  (obR:abj K a (.type "object")=QB QG)
  (m:Sz K (.ref a) (.ref a)=QB QG)
  (suV:Sz K (.ref a) (.type "ValueError")=QB QG)
  (aaQ:UO K M=QG)
  (aaN:Th K (.ref M)=QB (.type "type"))
  (aaU:Sz K (.ref a) (.ref M)=QB QN)
  (ZA:UO K N=QG)
  (ZF:Th K (.ref N)=QB (.type "type"))
  (Zt:Sz K (.ref a) (.ref N)=QB QN)
  (aal:UO K R=QG)
  (aar:Th K (.ref R)=QB (.type "type"))
  (aac:Sz K (.ref a) (.ref R)=QB QN)
  (aba:UO K L=QG)
  (aaJ:Th K (.ref L)=QB (.type "type"))
  (aaS:Sz K (.ref a) (.ref L)=QB QN)
  (lN:K.lookup S=QB ⟨ocN,odN,.dict A nN,slN⟩)
  (o:(A.all fun e=>match e.key with| .str _ _=>QG|_=>QN)=QG)
  (inN:QZ K S "__init__"=QB (QB (.ref q)))
  (saR:Rr K (.ref a) "__setattr__"=QB (QB (.builtin "object.__setattr__")))
  (hdR:TH K a=QG)
  (d5:Rr K (.ref a) "most"=QB QF)
  (rdB:Xs K j (.type "type")=QG)
  (fcB:Xt K (.ref j) (.type "type") "__init__"=QB (.val (.builtin "ValueError.__init__")))
  (spB:Uk K (.ref j) "__getattribute__"=QB (QB (.builtin "type.__getattribute__")))
  (u:MI K a q "__init__" "TooMany.__init__" (aZ (top 5) 0))
  (abz:QZ K QW "NONE"=QB (QB (.ref V5)))
  (abb:QZ K QW "CHORD"=QB (QB (.ref S5)))
  (Zp:QZ K QW "AT_REST"=QB (QB (.ref Vn)))
  (Zr:K.lookup Vn=QB ⟨.type "tuple",QF,.seq #[.ref V6,.none,.none] ZQ,ZJ⟩)
  (Ys:K.lookup V6=QB ⟨.type "tuple",QF,.seq #[] Yl,YA⟩)
  (aaR:K.lookup S5=QB ⟨.type "tuple",QF,.seq #[.str "chord" aaf] aaL,aaT⟩)
  (abA:K.lookup V5=QB ⟨.type "tuple",QF,.seq #[.str "none" aaM] abI,abT⟩)
  (y0:QZ K QW "max"=QB QF)
  (y1:QZ K QW "all"=QB QF)
  (y2:QZ K QW "list"=QB QF)
  (y3:QZ K QW "sorted"=QB QF)
  (y4:QZ K QW "len"=QB QF)
  (y5:QZ K QW "range"=QB QF)
  (y6:QZ K QW "tuple"=QB QF)
  (y7:QZ K QW "dict"=QB QF)
  (y8:QZ K QW "zip"=QB QF)
  (y9:QZ K QW "isinstance"=QB QF)
  (Z:QZ K QW "ValueError"=QB QF)
  (Y:QZ K QW "int"=QB QF)
  (U:QZ K QW "bool"=QB QF):
  ∃fd:RQ,(∀(s:QL) (v:QD),Wr s fd ⟨[v],[]⟩ [("_law_script",v)])/\∀base:Heap,K.In base->base.Ns QW mg->FnOk l.prog w K mg base di 13 fa fd ["_law_script"] (L3.oP K 1 F_lawH):=by
 have Y4:=RM X G y0;have WK:=RM X G y1;have VZ:=RM X G y2;have V1:=RM X G y3;have n:=RM X G y4;have E:=RM X G y5;have J:=RM X G y6;have aa2:=RM X G y7;have Y3:=RM X G y8;have Sr:=RM X G y9;have Vw:=RM X G Z;have aaW:=RM X G Y;have ZP:=RM X G U;have Yz:=Iv (xs:=[.str "none"]) (ds:=[(.str "none")]) abA (by show 1<=QU;decide) (.cons ⟨_,rfl⟩ .nil) fun O H=>(.cons (.str _) .nil);have C:=Iv (xs:=[.str "chord"]) (ds:=[(.str "chord")]) aaR (by show 1<=QU;decide) (.cons ⟨_,rfl⟩ .nil) fun O H=>(.cons (.str _) .nil);have Y9:=Iv (xs:=[]) (ds:=[]) Ys (by show 0<=QU;decide) .nil fun O H=> .nil;have Xi:=Iv (xs:=[.ref V6,.Te,.Te]) (ds:=[(.tuple []),.none,.none]) Zr (by show 3<=QU;decide) (.cons rfl (.cons rfl (.cons rfl .nil))) fun O H=>(.cons (Y9 O H) (.cons .Te (.cons .Te .nil)));have Yu:=Sf X G abz;have B:=Sf X G abb;have Xh:=Sf X G Zp;refine h19.law X G hfa (by walk_at "ba") fun base fd ac2=> ?_;have W:Tp l.prog w K mg base h:=⟨X,G⟩;have Vy:=h0.c W fun _ z=>yc z Y4;have Xk:=h1.c W fun _ z=>v9 z;have Ta:=h2.c W fun _ z=>rT z WK;have WU:=h3.c W fun _ z=>sX z VZ V1 n Yu Yz;have Ue:=h4.c W fun _ z=>vg z n;have I:=h5.c W fun _ z=>wv z E;have Wl:=h6.c W fun _ z=>rL z I;have U1:=h7.c W fun _ z=>oQ z I Wl Y4;have Wn:=h8.c W fun _ z=>p9 z I E J n WK;have XU:=h9.c W fun _ z=>xD z Ue I U1 Wn E J;have Xn:=h10.c W fun _ z=>vW z Ue I;have Ua:=h11.c W fun _ z=>rz z E;have UK:=h12.c W fun _ z=>vK z E;have g:=f.cf;have RU:=p.cf;have o:XG K S=QG:=by unfold XG;rw[lN];exact o
 have XR:L4.sG K a (.ref j::[.type "ValueError",.type "Exception",.type "BaseException",.type "object"]):=⟨_,_,_,_,_,_,_,_,_,_,_,_,_,_,_,_,xR⟩;have XB:L4.sG K j mB:=⟨_,_,_,_,_,_,_,_,_,_,_,_,_,_,_,_,xB⟩;have LR:L4.V4 K a (.ref j::[.type "ValueError",.type "Exception",.type "BaseException",.type "object"]):=⟨XR,rfl,gaR,gtR,csR,obR⟩;have XO:L9.XC K a j q:=⟨⟨_,_,_,_,_,_,_,_,_,_,_,_,_,_,xR,o,inN⟩,eI,saR⟩;have Yp:=Sf X G aa3;have Xf:=Sf X G ZK;have XT:=Sf X G aaq;have YB:=Sf X G aaH;have Wc:=Sf X G Wu;have XM:=Sf X G YT;have Yr:=vS m aaQ aaN aaU;have W5:=vS m ZA ZF Zt;have XN:=vS m aal aar aac;have Yt:=vS m aba aaJ aaS;obtain⟨fdI,T⟩:=u.F;obtain⟨_,_,_,_,_,_,_,_,_,rfl,Wt,_⟩:=T.ex;have Wx:=u.i;have Ww:=CY (P:=l.prog) (w:=w) (mg:=mg) (base:=base) T XO XM rdB fcB spB d5;have Wy:=T.binds (ps:=["self","most"]) (by walk_at "ba");have ZY:=h21.k f W fun _ z=>nZ z g aa2;have Ti:=h22.mt f W fun _ z=>rG z g J V1;have Tv:=h23.mt f W fun _ z=>lB z g;have Ub:=h24.mt f W fun _ z=>oO z g VZ;have TZ:=h25.mt f W fun _ z=>uK z g Ub;have XS:=h26.mt f W fun _ z=>yA z g Ub;have Q:=h27.mt f W fun _ z=>qh z g TZ WU Y3 B C;have US:=h28.mt f W fun _ z=>k7 z g Ti Vy Ta B C;have UJ:=h29.mt f W fun _ z=>jR z g Q Ta n B C;have Wm:=h30.mt f W fun _ z=>sS z g Ti TZ Vy Xk Ta B C Yu Yz;have Wo:=h31.mt f W fun _ z=>sV z g Tv US UJ Q Wm;have V0:=h32.mt f W fun _ z=>pX z g Q TZ B C;have WT:=h33.mt f W fun _ z=>wy z g Tv V0 XS;have VJ:=h34.mt f W fun _ z=>pc z g Q;have Xa:=h13.c W fun _ z=>IA z g ZY VJ Wo WT Ti;have S2:=h36.mt p W fun _ z=>pf z RU XO Wt Wx Ww Wy Wu Wc n;have Xd:=h37.k p W fun _ z=>lP z RU S2;have Vz:=h14.d W fun _ z=>Cr z RU Xd S2 Xa UK n J Y3 Xh Xi;have W8:L3.pd l.prog w K mg base (L4.i8 l.prog w) 10 "rooms" ["bed","most"] [.int 400] (L10.dn K 2 cX):=y.c (ds:=[.int 400 XW]) (dvs:=[.int 400]) W (.cons ⟨_,rfl⟩ .nil) fun _ z=>yh z Vz;have UX:L3.pd l.prog w K mg base (L4.i8 l.prog w) 10 "rooms" ["bed","most"] [] (L10.dn K 2 cX):=y.c (ds:=[]) (dvs:=[]) W .nil fun _ z=>yh z Vz;have WL:=h16.c W fun _ z=>sT z Xa Ua n;have aaI:rS l.prog w K mg base 1 "_law_too_many" ["_law_e","_law_most"] (Ly a):=h18.c W fun _ z=>yz z LR Wc Yp Xf XT YB Yr W5 XN Yt (M9 suV) hdR d5 Sr Vw aaW ZP;have U2:=h17.c W fun _ z=>oV z aaI UX XM XB beB XR (by rw[Uj,Uj,beq_self_eq_true,Uu,U3]) Wu;exact(Nf ac2 UX W8 WL U2 Xn XU UK Ua Sr VZ n WK J).imp (fun _ _ _ _ h=>L10.NT h)
end K41
noncomputable def PySem.W.Fast.tw8153704630142212643:Unit:=()
noncomputable def PySem.W.Fast.tw1152737312220149199:Unit:=()
noncomputable def PySem.W.Fast.tw2207371554515180160:Unit:=()
noncomputable def PySem.W.Fast.tw17412990954738317216:Unit:=()
noncomputable def PySem.W.Fast.tw9475914180292760596:Unit:=()
noncomputable def PySem.W.Fast.tw14813488384043976565:Unit:=()
noncomputable def PySem.W.Fast.tw1463840724325629183:Unit:=()
noncomputable def PySem.W.Fast.tw4875005995491391034:Unit:=()
noncomputable def PySem.W.Fast.tw5016069698178652936:Unit:=()
noncomputable def PySem.W.Fast.tw13985173500770282390:Unit:=()
noncomputable def PySem.W.Fast.tw5921850647319539918:Unit:=()
noncomputable def PySem.W.Fast.tw9202395407027411082:Unit:=()
noncomputable def PySem.W.Fast.tw15972393565501361067:Unit:=()
noncomputable def PySem.W.Fast.tw10407492228634874351:Unit:=()
noncomputable def PySem.W.Fast.tw2235291799593982472:Unit:=()
noncomputable def PySem.W.Fast.tw2176234071995742731:Unit:=()
noncomputable def PySem.W.Fast.tw5928361477190140857:Unit:=()
noncomputable def PySem.W.Fast.tw16454541088315100007:Unit:=()
noncomputable def PySem.W.Fast.tw2178758988407802541:Unit:=()
noncomputable def PySem.W.Fast.tw13002253192689587684:Unit:=()
noncomputable def PySem.W.Fast.tw600041329520878392:Unit:=()
noncomputable def PySem.W.Fast.tw222233748044929657:Unit:=()
noncomputable def PySem.W.Fast.tw6632637458311254412:Unit:=()
noncomputable def PySem.W.Fast.tw5344311236986871227:Unit:=()
noncomputable def PySem.W.Fast.tw16844320554584788442:Unit:=()
noncomputable def PySem.W.Fast.tw5056212971438286359:Unit:=()
noncomputable def PySem.W.Fast.tw16164005115165839647:Unit:=()
noncomputable def PySem.W.Fast.tw7344307498325893778:Unit:=()
noncomputable def PySem.W.Fast.tw3591301949589047243:Unit:=()
noncomputable def PySem.W.Fast.tw10619944869522324217:Unit:=()
noncomputable def PySem.W.Fast.tw16504646621475558913:Unit:=()
noncomputable def PySem.W.Fast.tw1211104238658597225:Unit:=()
noncomputable def PySem.W.Fast.tw16833011672545159446:Unit:=()
noncomputable def PySem.W.Fast.tw7567007239532442626:Unit:=()
noncomputable def PySem.W.Fast.tw18169554368789470280:Unit:=()
noncomputable def PySem.W.Fast.tw11167828870158583657:Unit:=()
noncomputable def PySem.W.Fast.tw6621659816896167683:Unit:=()
noncomputable def PySem.W.Fast.tw9386755910452972370:Unit:=()
noncomputable def PySem.W.Fast.tw11985963588473295326:Unit:=()
noncomputable def PySem.W.Fast.tw4517817378144846357:Unit:=()
noncomputable def PySem.W.Fast.tw12838888281369032514:Unit:=()
noncomputable def PySem.W.Fast.tw3892320303371171727:Unit:=()
noncomputable def PySem.W.Fast.tw2193960241157094719:Unit:=()
noncomputable def PySem.W.Fast.tw11297099046495472743:Unit:=()
noncomputable def PySem.W.Fast.tw6344802098746389681:Unit:=()
noncomputable def PySem.W.Fast.tw5597181634798389595:Unit:=()
noncomputable def PySem.W.Fast.tw12472360335743885284:Unit:=()
noncomputable def PySem.W.Fast.tw16220132308153018112:Unit:=()
noncomputable def PySem.W.Fast.tw14394018241890511512:Unit:=()
noncomputable def PySem.W.Fast.tw3542714553085919694:Unit:=()
noncomputable def PySem.W.Fast.tw8985807831093594682:Unit:=()
noncomputable def PySem.W.Fast.tw16709417526049620909:Unit:=()
noncomputable def PySem.W.Fast.tw7945226314694960181:Unit:=()
noncomputable def PySem.W.Fast.tw653437360851762062:Unit:=()
noncomputable def PySem.W.Fast.tw16886140429726132185:Unit:=()
noncomputable def PySem.W.Fast.tw7760710394080341693:Unit:=()
noncomputable def PySem.W.Fast.tw389985493057541133:Unit:=()
noncomputable def PySem.W.Fast.tw16140708039154988110:Unit:=()
noncomputable def PySem.W.Fast.tw2668495953511410319:Unit:=()
noncomputable def PySem.W.Fast.tw5885058826011700957:Unit:=()
noncomputable def PySem.W.Fast.tw13673206757004554755:Unit:=()
noncomputable def PySem.W.Fast.tw10584546838040994051:Unit:=()
noncomputable def PySem.W.Fast.tw1402275277310815399:Unit:=()
noncomputable def PySem.W.Fast.tw12424392255905198793:Unit:=()
noncomputable def PySem.W.Fast.tw17514686336076025356:Unit:=()
noncomputable def PySem.W.Fast.tw13889297920138443571:Unit:=()
noncomputable def PySem.W.Fast.tw8088168318678236016:Unit:=()
noncomputable def PySem.W.Fast.tw8855276160201487926:Unit:=()
noncomputable def PySem.W.Fast.tw16029981101968123375:Unit:=()
noncomputable def PySem.W.Fast.tw5411887716254224462:Unit:=()
noncomputable def PySem.W.Fast.tw2831631924402526914:Unit:=()
noncomputable def PySem.W.Fast.tw5571613518064453500:Unit:=()
noncomputable def PySem.W.Fast.tw14542746994435786608:Unit:=()
noncomputable def PySem.W.Fast.tw871579737312972788:Unit:=()
noncomputable def PySem.W.Fast.tw759911006398951353:Unit:=()
noncomputable def PySem.W.Fast.tw3737385265899598611:Unit:=()
noncomputable def PySem.W.Fast.tw7107739343329871252:Unit:=()
noncomputable def PySem.W.Fast.tw6646183375244014205:Unit:=()
noncomputable def PySem.W.Fast.tw9473839362627521521:Unit:=()
noncomputable def PySem.W.Fast.tw13344988431739635217:Unit:=()
noncomputable def PySem.W.Fast.tw11680137051623652376:Unit:=()
noncomputable def PySem.W.Fast.tw5681608448809022651:Unit:=()
noncomputable def PySem.W.Fast.tw15223509043734574891:Unit:=()
noncomputable def PySem.W.Fast.tw233164955393289106:Unit:=()
noncomputable def PySem.W.Fast.tw13031977222878204474:Unit:=()
noncomputable def PySem.W.Fast.tw4585872420855945627:Unit:=()
noncomputable def PySem.W.Fast.tw2186412480198647484:Unit:=()
noncomputable def PySem.W.Fast.tw15748896944026421844:Unit:=()
noncomputable def PySem.W.Fast.tw5291583901723070140:Unit:=()
noncomputable def PySem.W.Fast.tw5924146018157115551:Unit:=()
noncomputable def PySem.W.Fast.tw7050823424873620324:Unit:=()
noncomputable def PySem.W.Fast.tw6737833568381023278:Unit:=()
noncomputable def PySem.W.Fast.tw13206071624684171228:Unit:=()
noncomputable def PySem.W.Fast.tw6634403941227638074:Unit:=()
noncomputable def PySem.W.Fast.tw6179906814798013579:Unit:=()
noncomputable def PySem.W.Fast.tw12057820773505511090:Unit:=()
noncomputable def PySem.W.Fast.tw9777907785009429379:Unit:=()
noncomputable def PySem.W.Fast.tw13777066835886736861:Unit:=()
noncomputable def PySem.W.Fast.tw8828611181299747940:Unit:=()
noncomputable def PySem.W.Fast.tw5693230718596971753:Unit:=()
noncomputable def PySem.W.Fast.tw1767876626656266244:Unit:=()
noncomputable def PySem.W.Fast.tw17925281276211602918:Unit:=()
noncomputable def PySem.W.Fast.tw2416763260859564631:Unit:=()
noncomputable def PySem.W.Fast.tw2400675748649584858:Unit:=()
noncomputable def PySem.W.Fast.tw9548251287542084922:Unit:=()
noncomputable def PySem.W.Fast.tw4300519925837119294:Unit:=()
open PySem PySem.W PyProof.Rows
set_option maxRecDepth 100000 in
set_option maxHeartbeats 0 in
theorem PySem.Challenge.cw_chordbed_k41_rooms_as_they_come_holds : PySem.Challenge.rw_chordbed_k41_rooms_as_they_come.Holds := by
 w_on;o_law;k_head;(case hw=>w_witness2)
 k_fill
 refine L3.Oz (l:=PySem.Challenge.rw_chordbed_k41_rooms_as_they_come) (n:=63) (k:=13) (x:= "_law_script") (F:=K41.F_lawH) rfl (by decide) rfl ⟨rfl,by decide,by decide⟩ (fun w h Y=>PySem.W.kIn_of Y) ?F K41.main
 case F=>
  intro w mg fa h b G a
  apply K41.all_mk b G a
  all_goals walk_at "ki"
