import PyProof.Rows.All
import Wide.All
import OpenK.AllK
import Wide.FinOn
import Lean
import PyProof.EqAt
import PyProof.EqKinds
import PyProof.TupleCall
import KE.KIntText
import KE.KRevSl
import PyProof.Rows.SeqMore
import PyProof.WalkInts
import PyProof.Rows.MinMaxN
import PyProof.ExcInit
import OpenK.KMake
import PyProof.InstStoreFacts
import PyProof.FString2
import PyProof.Rows.FStr
import PyProof.Rows.SetFrom
import PyProof.SeqRoads2
import PyProof.RangeFor
import PyProof.WalksMore
import PyProof.StrBlock2
import PyProof.Rows.SortShell
import PyProof.TupleOfSeq
import KE.KDictList
import KE.KDictOf
import PyProof.IsiH_tuple
import PyProof.Rows.RuleN_abs
import PyProof.Rows.Range3
import KE.KRevIter
import PyProof.StrLawsRepr
import PyProof.ReprStr
import PyProof.IsiH_list
import PyProof.Rows.TupDisplay
import PyProof.SetKind
import PyProof.SetScanFacts
import PyProof.CollectIter
import PyProof.Rows.SortStr
import PySem.Challenge.RW_chordbed_k35_whole_step_by_step
set_option compiler.extract_closed false
set_option genSizeOf false
set_option genInjectivity false
set_option Elab.async false
set_option linter.all false
set_option maxRecDepth 100000
abbrev ax:=@if_pos
abbrev a3:=@if_neg
abbrev a4:=@decide_eq_true
abbrev a5:=@decide_eq_false
abbrev a6:=@of_decide_eq_true
abbrev a7:=@absurd
abbrev bb:=@List
abbrev bg:=@Option
abbrev b3:=@PySem.Heap.get?_push_of_some
abbrev b4:=@PySem.Heap.lt_size
abbrev b5:=@PySem.Heap.get?_push_size
abbrev b7:=@PySem.Heap.get?_update_other
abbrev cc:=@PySem.Heap.get?_update_self
abbrev ck:=@PySem.Heap.size_push
abbrev cv:=@PySem.Obj.data_mapFields
abbrev di:=@PySem.Obj.isFreed_of_fields
abbrev dt:=@Ne.symm
abbrev d5:=@congrArg
abbrev d7:=@beq_self_eq_true
local macro_rules|`(tactic|left)=>`(tactic|decide+kernel)|`(tactic|change $e)=>`(tactic|with_reducible exact $e)|`(tactic|specialize $e)=>`(tactic|with_reducible refine $e)
local macro_rules|`(def $i:declId $s:optDeclSig $v:declVal)=>`(noncomputable def $i:declId $s:optDeclSig $v:declVal)|`(abbrev $i:declId $s:optDeclSig $v:declVal)=>`(noncomputable abbrev $i:declId $s:optDeclSig $v:declVal)
local macro_rules|`(tactic|ext)=>`(tactic|omega)
local macro_rules|`(tactic|ext)=>`(tactic|lia)
open Option renaming some->cL,none->lD,bind_eq_some_iff->RB,isSome_iff_exists->SN,isNone_iff_eq_none->Ui,getD_some->VD,map_eq_some_iff->WK,isSome_some->Xv,toList_none->Xy,isSome_map->XI,getD_none->X1
open PySem.W renaming Frag->Bn,nsIn->RA,findIn->RN,emptyDict->Sh,instObj->SI,keepIn->SU,fnOf->Tf,kia_one->Tj,cellsFrom_some->Tz,plainGet->TN,hasDictIn->Ug,mg_of->Um,lookIn->UT,codeIn->UU,plainGet_of->Va,callWith_K->Vg,methodObj->Vm,isFn->Vn,plainOver->Vo,takerIn->VH,makesIn->VI,excIn->V9,methodCall_KW->WH,pyHash_slot->W7,specialIn->Xu,handedIn->XG,OpenLaw->X2,kitOne->Yg
open Bool renaming and_eq_true->CL,true->QM,false->QP,false_ne_true->Rh,or_eq_true->Sd,and_self->SS,not_eq_true'->Td,false_eq_true->Tw,false_or->Uz,true_and->UA,and_true->UC,eq_iff_iff->UZ,or_eq_false_iff->Ve,true_or->VF,noConfusion->VT,false_and->Wg,or_false->WI,not_true->WM
open PySem renaming wpAny_bind->Ld,Value->QN,PyData->QO,Shared->QS,Addr->QT,wpAny_pure->QW,sizeLine->Q3,NameKind->Q8,Expr->Q9,Program->Rb,starEach->Rg,mainGlobals->Rk,World->Rr,Around->Rt,bootBuiltins->Ry,Builtin->RD,wpAny_field->RQ,wpAny_truthy_bool->R8,wpAny_newObj_type->Sb,compareOp->Si,FuncData->Sl,wpAny_seqItems->Sm,mem_of_lookup->SD,binaryOp->SG,cellsFrom->SJ,Scope->SR,sysModules->S4,wpAny_callSpecial?_slot->S8,wpAny_call_entry->S9,Stmt->Tb,wpAny_setField_rec->Tc,wpAny_holding->TH,wpAny_pyIter_list->TJ,plainId_quiet->TK,codeAny_builtin->TM,wpAny_Call_Name_kw->TQ,swapsWith->TV,Comprehension->T8,sizeLine_eq->T9,wpAny_letGo->Ua,wpAny_passesOwn->Uk,wpAny_setField->UH,Keyword->UO,DictEntry->U9,call_meets->Vi,wpAny_pyIter_tuple->Vp,ReadsAll->Vt,wpAny_updateSeq_pair->Vu,wpAny_tryCatch->Vv,BindsTo->Vz,wpAny_onRaise->VS,typeIs_int->VX,wpAny_rule->VY,tupleKind_room_in1->VZ,codeAny_mono->V6,ZipApart->V8,eqIsQuiet_byValue->Wa,IsPart->Wr,wpAny_isInstance->Wt,wpAny_of_eq->WJ,Within->WW,wpAny_execs_nil->WX,pushCells_keeps->WY,wpAny_updateSeq->WZ,GenState->Xe,Result->Xf,Reads->Xg,IsZip->Xh,wpAny_binaryOp_repeat_ref->Xw,wpAny_comprehension_free->XH,CmpOp->X0,Code->Ye,wpAny_typeOf->Yf,wpAny_isTrue_Compare1->YM,builtinLookup_eq_fast->YO,codeAny_call_builtin->Y1,wpAny_Name->Zz,wpAny_Constant_int->ZA,wpAny_load->ZD,wpAny_call->ZE,Data->ZF,wpAny_assign_Name->aai,slot_list_getitem->aaj,wpAny_pyHash_int->aaK,wpAny_pyHash_str->aaL,wpAny_execs_cons->aaM,PassesOwn->aaN,noFill_tuple_add->aaQ,call->aaS,wpAny_pyIter_zip->aaT,beq_builtin_none->aaU,wpAny_specialOf->abK,typeLookup_type->abL,wpAny_Compare1->acx,intBits_le_64->aeq,seq_tuple_add->aer,call_list_seq->aes,wpAny_standAt->aet,wpAny_attempt->aeu,wpAny_newList->aev,ItemsOf->aew
open List renaming length_map->QQ,getElem?_eq_some_iff->QU,replicate->QX,getElem?_eq_getElem->QY,length_cons->QZ,mem_cons_of_mem->Q0,length_append->Q1,mem_cons_self->Q2,size_toArray->Q4,getElem?_map->Q5,map_cons->Q7,range->Rc,mem_cons->Rm,mem_singleton->Rn,getElem?_append_left->Ro,getElem?_append_right->Rq,append_nil->Ru,map_map->Rv,lookup_cons->Rx,isEmpty_iff->RF,map_append->RI,length_range->RJ,mem_append_right->RM,mem_of_getElem?->RO,mem_map->RP,mem_filter->RT,length_set->RU,replicate_succ->RY,length_replicate->RZ,getElem?_set->R0,mem_append->R9,append_assoc->Sa,length_take->Sf,all_eq_true->Sg,not_mem_nil->Sq,getElem?_replicate->Su,nodup_cons->Sw,find?_cons->Sy,length_nil->Sz,all_cons->SE,mem_range->SH,flatten_cons->SQ,any_eq_true->S0,getElem?_set_self->S5,mem_filterMap->S6,map_nil->S7,nil_append->Ta,getElem?_set_ne->Tg,drop_eq_getElem_cons->Th,any_cons->Tt,lookup->Tx,drop_eq_nil_of_le->TL,length_singleton->TZ,mem_iff_getElem?->T1,filter_cons->T4,of_mem_zip->T5,map_congr_left->T6,pairwise_cons->Uh,mem_of_find?_eq_some->Uo,pairwise_map->Us,nodup_append->Ut,filterMap_cons_none->UD,filterMap_cons_some->UE,getElem_mem->UJ,getElem?_cons_succ->UK,cons_append->UL,foldl->UP,pairwise_lt_range->UQ,foldl_cons->UW,forIn_cons->UY,length_filter_le->U5,contains_iff_mem->U6,length->Vc,nodup_nil->Vd,filterMap_cons->Vj,filter_sublist->Vk,length_filter_eq_length_iff->VG,length_drop->VR,forIn_nil->Wi,perm_ext_iff_of_nodup->Wj,length_filterMap_le->WN,getElem?_cons_zero->W0,mem_append_left->Xt,mem_iff_getElem->Xx,set->Xz,mem_of_mem_take->XA,set_cons_zero->X3,set_cons_succ->X4,map_filterMap->X5,find?_eq_none->X6,getElem_range->X7,take_add_one->Yh,zipIdx_cons->YN,zipIdx_nil->Y0,find?_some->Y2,length_zip->Y3,Nodup->abO
open Nat renaming le_of_ble_eq_true->QR,le_refl->QV,lt_of_lt_of_le->Rf,ne_of_lt->Ri,le_trans->Rp,zero_le->Rz,ne_of_gt->Se,lt_irrefl->Sj,lt_trans->TR,le_of_succ_le->Ux,lt_succ_of_lt->Uy,lt_succ_self->UM,le_of_lt->US,le_succ->Vh,lt_of_le_of_lt->Vs,min_le_right->VW,mul_le_mul->Ws,zero_add->Xi,add_assoc->aak,le_of_eq->aaP,succ_mul->aaR,sub_self->aaV,max_le->acG
open Option.some renaming inj->Ra
open PyProof.Rows renaming envOfC->RH,slot_tuple_getitem->Ts,callWith_type1->TX,callWith_builtin1->abJ,kws_cons->abM,kws_nil->abN
open Array renaming length_toList->RL,getElem?_eq_some_iff->Ub,getElem?_toList->W8,forIn_toList->XJ,toList->ZC
open Int renaming toNat_natCast->Sx,toNat_of_nonneg->Tn,emod_lt_of_pos->TC,emod_nonneg->T7,le_refl->UB,ofNat->V0,fdiv_eq_ediv_of_nonneg->Wn,toNat->W9,le_antisymm->Zn
open PySem.F renaming slot_dict_values->Ul,plainAttrs_dict->Ur,args_tuple_add_2->V7,slot_list_append->Wb,type_list_append->Wc,type_dict_values->Wd,entry_tuple_add->Wh,slot_tuple_add->Wo,slot_dict_pop->WL
open List.Pairwise renaming filter->Uu,nil->UX,filterMap->aaW
open List.Perm renaming refl->VJ,swap->afV,nil->afZ
open PySem.W.Looks renaming here->aaO
open PySem.Within renaming cons->abI
open PySem.SeqAt renaming compareEq_reads->acz,compareNe_reads->acA,in_list_reads->acB,in_tuple_reads->acC,notIn_list_reads->acD,notIn_tuple_reads->acE,eqv_refl->acH
open List.Nodup renaming sublist->aex
open PySem.IsL renaming update->afU
open List.cons renaming injEq->afY
namespace L2
open PySem PySem.Spec PyProof.Rows
abbrev bK:=Sum Int Str
def rb:bK->QN->Bool
 |.inl k,v=>QN.isInt k v
 |.inr x,v=>QN.isStrOf x v
def OG(w:Rr):bK->Int
 |.inl k=>hashInt k
 |.inr x=>hashStr w x
theorem cM:∀{k:bK} {v:QN},rb k v=QM->(∃i t,k=Sum.inl i/\v=QN.int i t)\/(∃x t,k=Sum.inr x/\v=QN.str x t)
 |.inl i,v,h=>by obtain⟨t,e⟩:=QN.isInt_shape h;exact .inl ⟨i,t,rfl,e⟩
 |.inr x,v,h=>by obtain⟨t,e⟩:=QN.isStrOf_shape h;exact .inr ⟨x,t,rfl,e⟩
theorem zk(i:Int)(t:Tok):rb (.inl i) (.int i t)=QM:=by simp[rb,QN.isInt]
theorem zK(x:Str)(t:Tok):rb (.inr x) (.str x t)=QM:=by simp[rb,QN.isStrOf]
theorem LQ(a b:Int):decide ((Sum.inl a:bK)=Sum.inl b)=(a==b):=by
 by_cases e:a=b
 .subst e;simp
 .have h:¬(Sum.inl a:bK)=Sum.inl b:=λq=>e (Sum.inl.inj q);rw[a5 h];exact(beq_eq_false_iff_ne.mpr e).symm
theorem K0(a b:Str):decide ((Sum.inr a:bK)=Sum.inr b)=decide (a=b):=by
 by_cases e:a=b
 .subst e;simp
 .have h:¬(Sum.inr a:bK)=Sum.inr b:=λq=>e (Sum.inr.inj q);rw[a5 h,a5 e]
theorem JI(a:Int)(b:Str):decide ((Sum.inl a:bK)=Sum.inr b)=QP:=a5 (λq=>nomatch q)
theorem LG(a:Str)(b:Int):decide ((Sum.inr a:bK)=Sum.inl b)=QP:=a5 (λq=>nomatch q)
def bM(prog:Rb)(w:Rr):PySem.KeyKind prog w bK where
 is:=rb
 hash:=OG w
 inj:=λv a b ha f=>by
  rcases cM ha with⟨i,t,rfl,rfl⟩|⟨x,t,rfl,rfl⟩
  .rcases cM f with⟨j,u,rfl,e⟩|⟨y,u,rfl,e⟩
   .injection e with e1 _;rw[e1]
   .exact nomatch e
  .rcases cM f with⟨j,u,rfl,e⟩|⟨y,u,rfl,e⟩
   .exact nomatch e
   .injection e with e1 _;rw[e1]
 byValue:=λk v h=>by rcases cM h with⟨i,t,rfl,rfl⟩|⟨x,t,rfl,rfl⟩<;>rfl
 pyHash:=λd h=>by
  rcases cM d with⟨i,t,rfl,rfl⟩|⟨x,t,rfl,rfl⟩
  .exact aaK h
  .exact aaL h
 eqBool:=λg d h=>by
  rcases cM g with⟨i,t,rfl,rfl⟩|⟨x,t,rfl,rfl⟩
  .rcases cM d with⟨j,u,rfl,rfl⟩|⟨y,u,rfl,rfl⟩
   .rw[LQ]at h;exact wpAny_eqBool_int h
   .rw[JI]at h;exact SeqAt.EqAt.int_str i t y u _ _ _ _ h
  .rcases cM d with⟨j,u,rfl,rfl⟩|⟨y,u,rfl,rfl⟩
   .rw[LG]at h;exact SeqAt.EqAt.str_int x t j u _ _ _ _ h
   .rw[K0]at h;exact wpAny_eqBool_str h
 «strs»:=λk x t v h=>by
  rcases cM h with⟨i,u,rfl,e⟩|⟨y,u,rfl,e⟩
  .exact nomatch e
  .injection e with e1 _
   subst e1;cases v<;>rfl
theorem uW(prog:Rb)(w:Rr)(i:Int)(t:Tok):(bM prog w).is (.inl i) (.int i t)=QM:=zk i t
theorem tT(prog:Rb)(w:Rr)(x:Str)(t:Tok):(bM prog w).is (.inr x) (.str x t)=QM:=zK x t
inductive V where
 |TF|bl (b:Bool)|int (i:Int)|str (x:Str)|byt (b:Array UInt8)|flt (b:UInt64)|ref (a:QT)|ty (n:String)
 deriving DecidableEq
def RelV:V->QN->Prop
 |.TF,u=>u=QN.none
 |.bl b,u=>u=QN.bool b
 |.int i,u=>∃t,u=QN.int i t
 |.str x,u=>∃t,u=QN.str x t
 |.byt b,u=>∃t,u=QN.bytes b t
 |.flt b,u=>∃t,u=QN.float b t
 |.ref a,u=>u=QN.ref a
 |.ty n,u=>u=QN.type n
abbrev Vals:bb V->bb QN->Prop:=Paired RelV
theorem Vals.length(r:Vals xs us):xs.length=us.length:=Paired.length r
theorem Vals.get:∀{xs:bb V} {us:bb QN} {i:Nat} {x:V},Vals xs us->xs[i]?=cL x->∃u,us[i]?=cL u/\RelV x u
 |_,_,_,_,.nil,e=>by simp at e
 |_,_,0,_,.cons r _,e=>by simp at e;subst e;exact⟨_,rfl,r⟩
 |_,_,i+1,x,.cons _ t,e=>by obtain⟨u,b,a⟩:=Vals.get t (by simpa using e);exact⟨u,by simpa using b,a⟩
theorem Vals.append:∀{xs ys:bb V} {us ws:bb QN},Vals xs us->Vals ys ws->Vals (xs++ys) (us++ws)
 |_,_,_,_,.nil,s=>s
 |_,_,_,_,.cons r t,s=>.cons r (Vals.append t s)
theorem Vals.take:∀{xs:bb V} {us:bb QN} (n:Nat),Vals xs us->Vals (xs.take n) (us.take n)
 |_,_,0,_=>.nil
 |_,_,_+1,.nil=>.nil
 |_,_,n+1,.cons r t=>.cons r (Vals.take n t)
theorem Vals.drop:∀{xs:bb V} {us:bb QN} (n:Nat),Vals xs us->Vals (xs.drop n) (us.drop n)
 |_,_,0,r=>r
 |_,_,_+1,.nil=>.nil
 |_,_,n+1,.cons _ t=>Vals.drop n t
def U3:bg V->bg QN->Prop
 |some v,cL u=>RelV v u
 |none,lD=>True
 |_,_=>False
def KV:bb (κ×V)->bb (κ×QN)->Prop:=Paired λ(p:κ×V) (q:κ×QN)=>p.1=q.1/\RelV p.2 q.2
def kV:bK->V
 |.inl i=>.int i
 |.inr x=>.str x
inductive HO where
 |lst (xs:bb V)
 |tup (xs:bb V)
 |dK (kvs:bb (bK×V))|dT (kvs:bb (bb bK×V))
 |set (S:Int->Bool) (n:Nat)
 |ins (C dx:QT) (fs:bb (Str×V))
 |own (x:QT)
 |xd (fs:bb (Str×V))
 |met (f x:QT)
 |rng (lo hi:Int)
 |frz (o:Obj) (u:HO)
 |ZS (ps:Array QN)
 |ext (φ:Heap->Prop)
 |exw (φ:Rr->Heap->Prop)
abbrev Hp:=QT->bg HO
def bf(H:Hp)(a:QT)(o:HO):Hp:=λb=>if b=a then cL o else H b
theorem aE:bf H a o a=cL o:=by unfold bf;rw[ax rfl]
theorem aJ(h:b≠a):bf H a o b=H b:=by unfold bf;rw[a3 h]
theorem Nu{H:Hp}{a b:QT}{o u:HO}(h:H a=cL o)(h':H b=cL u)(d:o≠u):a≠b:=by intro e;subst e;rw[h]at h';exact d (Ra h')
theorem bI{H:Hp}(h:H a=cL o)(h':H b=lD):a≠b:=by intro e;subst e;rw[h]at h';cases h'
def VN(h:Heap)(a:QT)(b:Array QN):Prop:=∃o,h.get? a=cL o/\(o.cls=.type "tuple"/\∃n,o.data=.seq b n)/\o.dict=lD
theorem VN.tup(x:VN h a items):IsTup h a items:=let⟨o,e,c,_⟩:=x;⟨o,e,c⟩
theorem VN.lt(x:VN h a items):a<h.objs.size:=let⟨_,e,_⟩:=x;b4 e
theorem VN.new(h:Heap)(xs:Array QN):VN (h.push {cls:=.type "tuple",data:=.seq xs}) h.objs.size xs:=⟨_,b5 _ rfl,⟨rfl,_,rfl⟩,rfl⟩
section
variable(P:Rb)(w:Rr)
def ObjOk(H:Hp)(h:Heap)(a:QT):HO->Prop
 |.lst xs=>xs.length<=Q3/\∃(b:bb QN) (n:Nat),Vals xs b/\h.get? a=cL {cls:=.type "list",data:=.seq b.toArray n}
 |.tup xs=>xs.length<=Q3/\∃b:bb QN,Vals xs b/\VN h a b.toArray
 |.dK kvs=>kvs.length<=Q3/\(a==S4)=QP/\∃vs,KV kvs vs/\h.DictOf (bM P w) a vs
 |.dT kvs=>kvs.length<=Q3/\(a==S4)=QP/\∃xs:bb (bb bK×QT×QN),
   Paired (λ(p:bb bK×V) (q:bb bK×QT×QN)=>p.1=q.1/\H q.2.1=cL (.tup (p.1.map kV))/\RelV p.2 q.2.2) kvs xs/\
   ∃o es ep,h.get? a=cL o/\o.ExactDict/\o.data=.dict es ep/\es.toList=xs.map (entryOfKey (tupleKind (bM P w)))/\(xs.map (·.1)).Nodup
 |.set S n=>h.SetOf (intKind P w) a S n
 |.ins C dx fs=>H dx=cL (.own a)/\fs.length<=1000/\dx≠a/\h.get? a=cL (SI C dx)/\
   ∃mA,h.Ns1 dx mA/\(∀f,U3 (fs.lookup f) (mA f))/\WW mA (fs.map (·.1))
 |.own _=>∃o,h.get? a=cL o
 |.xd fs=>∃mA,h.Ns1 a mA/\∀f,U3 (fs.lookup f) (mA f)
 |.rng lo hi=>∃t u v,h.get? a=cL {cls:=.type "range",data:=.fields #[.int lo t,.int hi u,.int 1 v]}
 |.frz o u=>h.get? a=cL o/\ObjOk H h a u
 |.ZS ps=>h.get? a=cL {cls:=.none,data:=.fields ps}
 |.met f x=>h.get? a=cL (Vm (.ref f) (.ref x))
 |.ext φ=>φ h/\(∃o,h.get? a=cL o)/\∀h1 h2:Heap,φ h1->(∀o,h1.get? a=cL o->h2.get? a=cL o)->φ h2
 |.exw φ=>φ w h/\(∃o,h.get? a=cL o)/\∀h1 h2:Heap,φ w h1->(∀o,h1.get? a=cL o->h2.get? a=cL o)->φ w h2
def Vb(H:Hp)(h:Heap):Prop:=∀a o,H a=cL o->ObjOk P w H h a o
end
section
variable{P:Rb}{w:Rr}{H Z:Hp}{h h':Heap}{a:QT}{o:HO}
theorem ObjOk.lt(x:ObjOk P w H h a o):a<h.objs.size:=by
 cases o with
 |lst xs=>obtain⟨_,_,_,_,e⟩:=x;exact b4 e
 |tup xs=>obtain⟨_,_,_,p⟩:=x;exact p.lt
 |dK kvs=>obtain⟨_,_,_,_,o,_,_,e,_⟩:=x;exact b4 e
 |dT kvs=>obtain⟨_,_,_,_,o,_,_,e,_⟩:=x;exact b4 e
 |set S n=>obtain⟨o,_,_,_,e,_⟩:=x;exact b4 e
 |ins C dx fs=>obtain⟨_,_,_,e,_⟩:=x;exact b4 e
 |own y=>obtain⟨_,e⟩:=x;exact b4 e
 |xd fs=>obtain⟨_,⟨_,_,_,e,_⟩,_⟩:=x;exact b4 e
 |rng lo hi=>obtain⟨_,_,_,e⟩:=x;exact b4 e
 |frz b u=>obtain⟨e,_⟩:=x;exact b4 e
 |ZS ps=>exact b4 (show h.get? a=cL _ from x)
 |met f y=>exact b4 (show h.get? a=cL _ from x)
 |ext φ=>obtain⟨_,⟨_,e⟩,_⟩:=x;exact b4 e
 |exw φ=>obtain⟨_,⟨_,e⟩,_⟩:=x;exact b4 e
theorem Paired.TU:∀{l₁:bb α} {l₂:bb β},Paired F l₁ l₂->(∀a b,F a b->G a b)->Paired G l₁ l₂
 |_,_,.nil,_=>.nil
 |_,_,.cons r t,f=>.cons (f _ _ r) (Paired.TU t f)
theorem ObjOk.VQ(x:ObjOk P w H h a o)(k:∀b u,(b=a\/H b=cL (.own a))->h.get? b=cL u->h'.get? b=cL u)
  (F:∀b,H b=cL (.own a)->Z b=cL (.own a)) (E:∀b xs,H b=cL (.tup xs)->Z b=cL (.tup xs)):ObjOk P w Z h' a o:=by
 induction o with
 |lst xs=>obtain⟨z,A,n,r,e⟩:=x;exact⟨z,A,n,r,k _ _ (.inl rfl) e⟩
 |tup xs=>obtain⟨z,A,r,g,e,c⟩:=x;exact⟨z,A,r,g,k _ _ (.inl rfl) e,c⟩
 |dK kvs=>obtain⟨z,y,vs,r,g,es,i,e,c⟩:=x;exact⟨z,y,vs,r,g,es,i,k _ _ (.inl rfl) e,c⟩
 |dT kvs=>obtain⟨z,y,xs,r,g,es,i,e,c⟩:=x;exact⟨z,y,xs,Paired.TU r λp q z=>⟨z.1,E _ _ z.2.1,z.2.2⟩,g,es,i,k _ _ (.inl rfl) e,c⟩
 |set S n=>obtain⟨g,es,i,t,e,c⟩:=x;exact⟨g,es,i,t,k _ _ (.inl rfl) e,c⟩
 |ins C dx fs=>obtain⟨d,z,ne,e,m,⟨l,es,i,e2,c⟩,r⟩:=x;exact⟨F _ d,z,ne,k _ _ (.inl rfl) e,m,⟨l,es,i,k _ _ (.inr d) e2,c⟩,r⟩
 |own y=>obtain⟨g,e⟩:=x;exact⟨g,k _ _ (.inl rfl) e⟩
 |xd fs=>obtain⟨m,⟨l,es,i,e,c⟩,r⟩:=x;exact⟨m,⟨l,es,i,k _ _ (.inl rfl) e,c⟩,r⟩
 |rng lo hi=>obtain⟨t,u,v,e⟩:=x;exact⟨t,u,v,k _ _ (.inl rfl) e⟩
 |frz g u B=>obtain⟨e,q⟩:=x;exact⟨k _ _ (.inl rfl) e,B q⟩
 |ZS ps=>have e:h.get? a=cL {cls:=.none,data:=.fields ps}:=x;show h'.get? a=cL {cls:=.none,data:=.fields ps};exact k a _ (.inl rfl) e
 |met f y=>have e:h.get? a=cL (Vm (.ref f) (.ref y)):=x;show h'.get? a=cL (Vm (.ref f) (.ref y));exact k a _ (.inl rfl) e
 |ext φ=>obtain⟨p,⟨o,e⟩,j⟩:=x;exact⟨j _ _ p λo q=>k _ _ (.inl rfl) q,⟨o,k _ _ (.inl rfl) e⟩,j⟩
 |exw φ=>obtain⟨p,⟨o,e⟩,j⟩:=x;exact⟨j _ _ p λo q=>k _ _ (.inl rfl) q,⟨o,k _ _ (.inl rfl) e⟩,j⟩
theorem Vb.lt(x:Vb P w H h)(e:H a=cL o):a<h.objs.size:=(x a o e).lt
theorem Vb.fresh(x:Vb P w H h)(e:h.objs.size<=a):H a=lD:=by
 cases q:H a with
 |none=>rfl
 |some u=>exact a7 (Rf (x.lt q) e) (Sj _)
theorem Vb.kept(x:Vb P w H h)(k:∀b u,h.get? b=cL u->h'.get? b=cL u):Vb P w H h':=λa o e=>
 (x a o e).VQ (λb u _ q=>k b u q) (λ_ q=>q) λ_ _ q=>q
theorem Vb.laid(x:Vb P w H h)(k:∀b u,h.get? b=cL u->h'.get? b=cL u)(f:h.objs.size<=a)(new:ObjOk P w (bf H a o) h' a o):Vb P w (bf H a o) h':=λb u e=>by
 have hn:=x.fresh f;by_cases d:b=a
 .subst d;rw[aE]at e;cases e;exact new
 .rw[aJ d]at e;exact(x b u e).VQ (λc v _ q=>k c v q) (λc q=>by rw[aJ (bI q hn)];exact q) λc xs q=>by rw[aJ (bI q hn)];exact q
end
def Rd(H:Hp)(a:QT)(u:HO):Prop:=H a=cL u\/∃o,H a=cL (.frz o u)
theorem Rd.ok(r:Rd H a u)(x:Vb P w H h):ObjOk P w H h a u:=by
 rcases r with r|⟨o,r⟩
 .exact x a u r
 .obtain⟨_,q⟩:=x a _ r;exact q
def Oj:bg HO->Prop
 |some (.lst _)=>True
 |some (.dK _)=>True
 |some (.dT _)=>True
 |some (.set _ _)=>True
 |some (.ins _ _ _)=>True
 |some (.ext _)=>True
 |some (.exw _)=>True
 |_=>False
section
variable{P:Rb}{w:Rr}{H:Hp}{h h':Heap}{x e:QT}{Z:HO}
theorem Vb.write(ok:Vb P w H h)(f:Oj (H x))(n:e=x\/H e=cL (.own x))(k:∀b u,b≠e->h.get? b=cL u->h'.get? b=cL u)(j:∃u,h'.get? e=cL u)
  (new:ObjOk P w (bf H x Z) h' x Z):Vb P w (bf H x Z) h':=λb u q=>by
 have d:∀c y,H c=cL (.own y)->c≠x:=λc y r z=>by subst z;rw[r]at f;exact f
 have l:∀c xs,H c=cL (.tup xs)->c≠x:=λc xs r z=>by subst z;rw[r]at f;exact f
 by_cases i:b=x
 .subst i;rw[aE]at q;cases q;exact new
 .rw[aJ i]at q
  by_cases a:b=e
  .have m:H b=cL (.own x):=by
    rcases n with z|z
    .exact a7 (a.trans z) i
    .rw[a];exact z
   rw[q]at m;cases m;obtain⟨v,o⟩:=j;exact⟨v,by rw[a];exact o⟩
  .refine(ok b u q).VQ (λc v g r=>k c v ?_ r) (λc r=>by rw[aJ (d c b r)];exact r) λc xs r=>by rw[aJ (l c xs r)];exact r
   rcases g with rfl|g
   .exact a
   .rintro rfl
    rcases n with z|z
    .exact d c b g z
    .rw[g]at z;cases z;exact i rfl
end
structure Un(fs ex:bb QT)(H H':Hp)(h h':Heap):Prop where
 keep:∀b o,h.get? b=cL o->H b=lD->b∉fs->b∉ex->h'.get? b=cL o
 slot:∀b o,h.get? b=cL o->H b=lD->b∈fs->b∉ex->∃sl,h'.get? b=cL {o with slots:=sl}
 free:∀b o,h.get? b=cL o->H b=lD->b∉ex->H' b=lD
 there:∀b o,h.get? b=cL o->b∉ex->∃o',h'.get? b=cL o'
 WG:∀b xs,H b=cL (.tup xs)->H' b=cL (.tup xs)
 We:∀b o u,H b=cL (.frz o u)->H' b=cL (.frz o u)
 Wx:∀b ps,H b=cL (.ZS ps)->∃more,H' b=cL (.ZS (ps++more))
section
variable{fs fs' ex ex':bb QT}{H H1 H2:Hp}{h h1 h2 h':Heap}{a x e:QT}{o:HO}
theorem Un.any(u:Un fs ex H H1 h h1)(q:h.get? b=cL ob)(n:H b=lD)(d:b∉ex):∃sl,h1.get? b=cL {ob with slots:=sl}:=by
 by_cases f:b∈fs
 .exact u.slot b ob q n f d
 .exact⟨ob.slots,u.keep b ob q n f d⟩
theorem Un.kept(k:∀b u,h.get? b=cL u->h'.get? b=cL u):Un fs ex H H h h':=
 ⟨λb d q _ _ _=>k b d q,λb d q _ _ _=>⟨d.slots,k b d q⟩,λ_ _ _ n _=>n,λb d q _=>⟨d,k b d q⟩,λ_ _ q=>q,λ_ _ _ q=>q,λ_ ps q=>⟨#[],by rw[q];simp⟩⟩
theorem Un.refl:Un fs ex H H h h:=Un.kept λ_ _ q=>q
theorem Un.laid(k:∀b u,h.get? b=cL u->h'.get? b=cL u)(d:h.objs.size<=a)(hn:H a=lD):Un fs ex H (bf H a o) h h' where
 keep:=λb u q _ _ _=>k b u q
 slot:=λb u q _ _ _=>⟨u.slots,k b u q⟩
 free:=λb u q n _=>by rw[aJ (Ri (Rf (b4 q) d))];exact n
 there:=λb u q _=>⟨u,k b u q⟩
 WG:=λb xs q=>by rw[aJ (bI q hn)];exact q
 We:=λb u xs q=>by rw[aJ (bI q hn)];exact q
 Wx:=λb ps q=>⟨#[],by rw[aJ (bI q hn),q];simp⟩
theorem Un.write(f:Oj (H x))(m:e=x\/H e=cL (.own x))(k:∀b u,b≠e->h.get? b=cL u->h'.get? b=cL u)(g:∃u,h'.get? e=cL u):Un fs ex H (bf H x o) h h':=by
 have i:∀b,H b=lD->b≠x:=λb n z=>by subst z;rw[n]at f;exact f
 have j:∀b,H b=lD->b≠e:=λb n z=>by
  subst z;rcases m with r|r
  .exact i b n r
  .rw[n]at r;cases r
 have hm:∀b u,H b=cL u->¬Oj (cL u)->b≠x:=λb u q l z=>by subst z;rw[q]at f;exact l f
 refine⟨λb u q n _ _=>k b u (j b n) q,λb u q n _ _=>⟨u.slots,k b u (j b n) q⟩,λb u q n _=>by rw[aJ (i b n)];exact n,λb u q _=>?_,
  λb xs q=>by rw[aJ (hm b _ q λz=>z)];exact q,λb u xs q=>by rw[aJ (hm b _ q λz=>z)];exact q,λb ps q=>⟨#[],by rw[aJ (hm b _ q λz=>z),q];simp⟩⟩
 by_cases d:b=e
 .subst d;exact g
 .exact⟨u,k b u d q⟩
end
def Op(h:Heap)(H:Hp):bb QT:=(Rc h.objs.size).filter λa=>(H a).isSome
def sf(h:Heap)(H:Hp):Heap:=PySem.W.hideAll h (Op h H)
theorem zH(h:Heap)(H:Hp):(sf h H).objs.size=h.objs.size:=PySem.W.hideAll_size _ _
theorem DE(e:h.get? b=cL o)(n:H b=lD):(sf h H).get? b=cL o:=
 PySem.W.hideAll_get _ e λhm=>by have q:=(RT.mp hm).2;rw[n]at q;simp at q
theorem EG(e:(sf h H).get? b=cL o):h.get? b=cL o/\H b=lD:=by
 have a:=PySem.W.of_hideAll (Op h H) e;refine⟨a,?_⟩;cases q:H b with
 |none=>rfl
 |some x=>have hm:b∈Op h H:=RT.mpr ⟨SH.mpr (b4 a),by simp[q]⟩;have z:(sf h H).get? b=lD:=PySem.W.hideAll_none (Op h H) hm;rw[z]at e;cases e
structure Mod(K:Bn)(mg:Str->bg QN)(base:Heap):Prop where
 kin:K.In base
 glob:base.Ns Rk mg
 blt:∃mb,base.Ns builtinsNs mb/\∀x:Str,x≠ "__name__"->mb x=Ry x
 nolimit:base.NoLimit
structure Cx where
 prog:Rb
 w:Rr
 K:Bn
 mg:Str->bg QN
 base:Heap
 A:Rt
 N:bb Str
 s₀:QS
 H₀:Hp
 env:Env
 outer:bb Env
 stack:bb Env
 ex:bb QT
 fn:Str->Bool
 calm:Bool
 pn:bb (QT×Obj)
 xe:QN->QS->Prop
def vT(l:bb Env):bb QT:=l.filterMap (·.frame)
abbrev Cx.fs(X:Cx):bb QT:=vT X.outer
def OL(sc:SR)(x:Str):Prop:=sc.names.lookup x=cL .local\/sc.names.lookup x=cL .cell\/sc.names.lookup x=cL .free
def L6(sc:SR)(x:Str):Prop:=sc.names.lookup x=cL .local\/sc.names.lookup x=cL .cell
def Pn(env:Env)(h:Heap)(m:Str->bg QN)(x:Str)(u:QN):Prop:=
 (env.kindOf x=cL .local/\m x=cL u)\/((env.kindOf x=cL .cell\/env.kindOf x=cL .free)/\∃c,env.cells.lookup x=cL c/\h.IsCell c (cL u))
structure Cx.Ok(X:Cx):Prop where
 mod:Mod X.K X.mg X.base
 kind:X.env.scope.kind=.function
 glob:X.env.globals=Rk
 blt:X.env.builtins=builtinsNs
 above:X.s₀.heap.objs.size<=X.env.locals
 inj:∀x y c,X.env.cells.lookup x=cL c->X.env.cells.lookup y=cL c->x=y
 has:∀x,(X.env.kindOf x=cL .cell\/X.env.kindOf x=cL .free)->∃c,X.env.cells.lookup x=cL c
 cab:∀x c,X.fn x=QM->X.env.cells.lookup x=cL c->X.s₀.heap.objs.size<=c
 hd:X.calm=QM->X.A.handled=lD
 frames:X.A.frames=cL X.stack
 stk:X.stack=X.outer\/(X.stack=X.env::X.outer/\X.env.frame=cL X.env.locals)
 exf:∀b∈X.ex,b≠X.env.locals/\∀x c,X.env.cells.lookup x=cL c->c≠b
 bs:∀b o,X.base.get? b=cL o->X.s₀.heap.get? b=cL o/\X.H₀ b=lD
 YZ:X.base.objs.size<=X.s₀.heap.objs.size
 XM:∀b o,X.base.get? b=cL o->b∉X.ex
 XT:∀b∈X.ex,b∉X.fs
 Vy:X.s₀.heap.FunFrames X.base X.outer
 Zw:∀b∈X.fs,X.H₀ b=lD
structure Inv(X:Cx)(pins:bb (QT×Obj))(σ:bb (bg V))(H:Hp)(s:QS):Prop where
 ok:X.Ok
 os:s.os=X.s₀.os
 bare:AllBare s.gens
 base:Un X.fs X.ex X.H₀ H X.s₀.heap s.heap
 loc:∃m,s.heap.Ns X.env.locals m/\∀(i:Nat) (x:Str) (v:V),X.N[i]?=cL x->σ[i]?=cL (cL v)->OL X.env.scope x->∃u,RelV v u/\Pn X.env s.heap m x u
 cell:∀x c,X.env.cells.lookup x=cL c->∃v,s.heap.IsCell c v
 free:H X.env.locals=lD
 Vf:∀x c,X.env.cells.lookup x=cL c->H c=lD
 pin:∀p∈X.pn++pins,s.heap.get? p.1=cL p.2/\H p.1=lD/\p.1≠X.env.locals/\p.1∉X.fs/\∀v,p.2.data≠.cell v
 Sk:Vb X.prog X.w H s.heap
 len:σ.length=X.N.length
section
variable{X:Cx}{Z:bb (QT×Obj)}{Y:bb (bg V)}{H U:Hp}{s:QS}{h':Heap}
theorem Cx.Ok.ac1(ok:X.Ok)(e:X.base.get? b=cL o):b∉X.fs:=λa=>by have:=(ok.Vy.mem a).1;rw[e]at this;cases this
theorem Inv.bs(I:Inv X Z Y H s):∀b o,X.base.get? b=cL o->s.heap.get? b=cL o/\H b=lD:=λb o e=>
 ⟨I.base.keep b o (I.ok.bs b o e).1 (I.ok.bs b o e).2 (I.ok.ac1 e) (I.ok.XM b o e),I.base.free b o (I.ok.bs b o e).1 (I.ok.bs b o e).2 (I.ok.XM b o e)⟩
theorem Inv.bk(I:Inv X Z Y H s):∀b o,X.base.get? b=cL o->s.heap.get? b=cL o:=λb o e=>(I.bs b o e).1
theorem Inv.mod(I:Inv X Z Y H s):Mod X.K X.mg X.base:=I.ok.mod
theorem Inv.V5(I:Inv X Z Y H s):X.K.In s.heap:=I.ok.mod.kin.keeps I.bk
theorem Inv.lt(I:Inv X Z Y H s):X.env.locals<s.heap.objs.size:=let⟨_,hn,_⟩:=I.loc;hn.lt
theorem Inv.sz(I:Inv X Z Y H s):X.s₀.heap.objs.size<=s.heap.objs.size:=Rp I.ok.above (US I.lt)
theorem Inv.ac8(I:Inv X Z Y H s)(h:s.heap.objs.size<=a):a∉X.fs:=λd=>by obtain⟨_,o,b,_⟩:=I.ok.Vy.mem d;exact a7 (Rf (b4 b) (Rp I.sz h)) (Sj _)
theorem Inv.Z5(I:Inv X Z Y H s):∀x c,X.env.cells.lookup x=cL c->c≠X.env.locals:=λx c e z=>by obtain⟨v,o,a,b⟩:=I.cell x c e;obtain⟨m,⟨g,es,h,d,f,_⟩,_⟩:=I.loc;rw[z,d]at a;cases a;rw[f]at b;cases b
theorem Inv.Vy(I:Inv X Z Y H s):s.heap.FunFrames X.base X.outer:=by
 have all:∀(l:bb Env),(∀b∈vT l,b∈X.fs)->X.s₀.heap.FunFrames X.base l->s.heap.FunFrames X.base l:=by
  intro l
  induction l with
  |nil=>intro _ _;trivial
  |cons q r h=>intro g m;obtain⟨n,⟨L,o,a,hn,j,p⟩,i⟩:=m;have f:=g L (by unfold vT;rw[Vj,a];exact Q2);obtain⟨t,e⟩:=I.base.slot L o j (I.ok.Zw L f) f λz=>I.ok.XT L z f;exact⟨n,⟨L,_,a,hn,e,p⟩,h (λb d=>g b (by unfold vT;rw[Vj,a];exact Q0 _ d)) i⟩
 exact all X.outer (λ_ d=>d) I.ok.Vy
theorem Inv.stack(I:Inv X Z Y H s):s.heap.FunFrames X.base X.stack:=by
 rcases I.ok.stk with e|⟨e,hf⟩
 .rw[e];exact I.Vy
 .rw[e];obtain⟨m,hn,_⟩:=I.loc;refine .cons (by rw[I.ok.kind];decide) hf hn ?_ I.Vy;exact Heap.get?_none_of_le (Rp I.ok.YZ I.ok.above)
theorem Inv.Ww(I:Inv X Z Y H s):∀b∈vT X.stack,b∈X.env.locals::X.fs:=λb a=>by
 rcases I.ok.stk with e|⟨e,hf⟩
 .rw[e]at a;exact Q0 _ a
 .rw[e]at a;unfold vT at a;rw[Vj,hf]at a;exact a
theorem Inv.WC(I:Inv X Z Y H s):∀b∈vT X.stack,H b=lD:=λb a=>by
 rcases Rm.mp (I.Ww b a)with e|a
 .rw[e];exact I.free
 .obtain⟨_,o,d,_⟩:=I.ok.Vy.mem a;exact I.base.free b o d (I.ok.Zw b a) λz=>I.ok.XT b z a
theorem Inv.step{g':Array Xe}{t':Nat}{d':Drawn}{ch:bb QT}(I:Inv X Z Y H s)
  (A:∀b∈ch,(b∈X.ex\/X.s₀.heap.objs.size<=b)/\b≠X.env.locals/\(∀x c,X.env.cells.lookup x=cL c->c≠b)/\∀p∈X.pn++Z,p.1≠b)
  (keep:∀b o,b≠X.env.locals->b∉X.fs->b∉ch->s.heap.get? b=cL o->H b=lD->h'.get? b=cL o)
  (slot:∀b o,b≠X.env.locals->b∈X.fs->b∉ch->s.heap.get? b=cL o->H b=lD->∃sl,h'.get? b=cL {o with slots:=sl}) (free:∀b o,b∉ch->s.heap.get? b=cL o->H b=lD->U b=lD)
  (there:∀b o,b∉ch->s.heap.get? b=cL o->∃o',h'.get? b=cL o')
  (WG:∀b xs,H b=cL (.tup xs)->U b=cL (.tup xs)) (We:∀b o u,H b=cL (.frz o u)->U b=cL (.frz o u)) (Wx:∀b ps,H b=cL (.ZS ps)->∃more,U b=cL (.ZS (ps++more)))
  (ns:∀m,s.heap.Ns X.env.locals m->h'.Ns X.env.locals m) (Sk:Vb X.prog X.w U h') (M:AllBare g'):
  Inv X Z Y U {s with heap:=h',gens:=g',drawn:=d',toks:=t'}:=by
 have t:∀b o,X.s₀.heap.get? b=cL o->b≠X.env.locals:=λb o e=>Ri (Rf (b4 e) I.ok.above);have g:∀b o,X.s₀.heap.get? b=cL o->b∉X.ex->b∉ch:=λb o e a h=>by
  rcases(A b h).1 with z|z
  .exact a z
  .exact a7 (Rf (b4 e) z) (Sj _)
 have f:∀x c,X.env.cells.lookup x=cL c->∀v,s.heap.IsCell c v->h'.IsCell c v:=λx c e v ⟨o,j,C⟩=>by
  have y:c∉ch:=λz=>(A c z).2.2.1 x c e rfl;by_cases G:c∈X.fs
  .obtain⟨sl,q⟩:=slot c o (I.Z5 x c e) G y j (I.Vf x c e);exact⟨_,q,C⟩
  .exact⟨o,keep c o (I.Z5 x c e) G y j (I.Vf x c e),C⟩
 refine⟨I.ok,I.os,M,⟨λb o e n h a=>?_,λb o e n h a=>?_,λb o e n a=>?_,λb o e a=>?_,λb xs e=>WG b xs (I.base.WG b xs e),λb o xs e=>We b o xs (I.base.We b o xs e),λb ps e=>?_⟩,?_,λx c e=>?_,?_,λx c e=>?_,λp F=>?_,Sk,I.len⟩
 .exact keep b o (t b o e) h (g b o e a) (I.base.keep b o e n h a) (I.base.free b o e n a)
 .obtain⟨sl,e1⟩:=I.base.slot b o e n h a;obtain⟨B,e2⟩:=slot b _ (t b o e) h (g b o e a) e1 (I.base.free b o e n a);exact⟨B,e2⟩
 .obtain⟨o',e1⟩:=I.base.there b o e a;exact free b o' (g b o e a) e1 (I.base.free b o e n a)
 .obtain⟨o',e1⟩:=I.base.there b o e a;exact there b o' (g b o e a) e1
 .obtain⟨K,e1⟩:=I.base.Wx b ps e;obtain⟨J,e2⟩:=Wx b _ e1;exact⟨K++J,by rw[e2,Array.append_assoc]⟩
 .obtain⟨m,hn,L⟩:=I.loc
  refine⟨m,ns m hn,λi x v e1 e2 e3=>?_⟩;obtain⟨u,r,l⟩:=L i x v e1 e2 e3;refine⟨u,r,?_⟩;rcases l with l|⟨k,c,e,z⟩
  .exact .inl l
  .exact .inr ⟨k,c,e,f x c e _ z⟩
 .obtain⟨v,z⟩:=I.cell x c e;exact⟨v,f x c e v z⟩
 .obtain⟨m,⟨o,_,_,j,_⟩,_⟩:=I.loc;exact free _ o (λz=>(A _ z).2.1 rfl) j I.free
 .obtain⟨v,o,j,C⟩:=I.cell x c e;exact free c o (λz=>(A c z).2.2.1 x c e rfl) j (I.Vf x c e)
 .obtain⟨e,n,ne,E,d⟩:=I.pin p F;have y:p.1∉ch:=λz=>(A p.1 z).2.2.2 p F rfl;exact⟨keep p.1 p.2 ne E y e n,free p.1 p.2 y e n,ne,E,d⟩
theorem Inv.un{t':Nat}(I:Inv X Z Y H s)(u:Un X.fs [] H U s.heap h')(Sk:Vb X.prog X.w U h'):Inv X Z Y U {s with heap:=h',toks:=t'}:=by obtain⟨m,⟨o,es,t,f,r⟩,_⟩:=id I.loc;obtain⟨l,i⟩:=u.any f I.free (by simp);exact I.step (g':=s.gens) (d':=s.drawn) (ch:=[]) (λ_ z=>nomatch z) (λb o _ a _ e n=>u.keep b o e n a (by simp)) (λb o _ a _ e n=>u.slot b o e n a (by simp)) (λb o _ e n=>u.free b o e n (by simp)) (λb o _ e=>u.there b o e (by simp)) u.WG u.We u.Wx (λq hm=>by obtain⟨p,d,j,g,h⟩:=hm;rw[f]at g;cases g;exact⟨_,d,j,i,h⟩) Sk I.bare
theorem Inv.call{g':Array Xe}{t':Nat}{d':Drawn}{ch:bb QT}(I:Inv X Z Y H s)(u:Un (vT X.stack) ch H U s.heap h')(Sk:Vb X.prog X.w U h')(l:AllBare g')
  (i:∀b∈ch,(b∈X.ex\/X.s₀.heap.objs.size<=b)/\b≠X.env.locals/\(∀x c,X.env.cells.lookup x=cL c->c≠b)/\∀p∈X.pn++Z,p.1≠b):
  Inv X Z Y U {s with heap:=h',gens:=g',drawn:=d',toks:=t'}:=by
 obtain⟨m,⟨o,es,B,g,r⟩,_⟩:=id I.loc;obtain⟨v,d⟩:=u.any g I.free λz=>(i _ z).2.1 rfl;exact I.step (ch:=ch) i (λb o d q a e n=>u.keep b o e n (λz=>(Rm.mp (I.Ww b z)).elim d q) a) (λb o _ _ a e n=>u.any e n a) (λb o a e n=>u.free b o e n a) (λb o a e=>u.there b o e a) u.WG u.We u.Wx (λA hm=>by obtain⟨y,f,t,h,j⟩:=hm;rw[g]at h;cases h;exact⟨_,f,t,d,j⟩) Sk l
theorem Inv.turned{t':Nat}{a:QT}(I:Inv X Z Y H s)(k:∀b o,b≠a->s.heap.get? b=cL o->h'.get? b=cL o)(hn:H a=lD)(g:a≠X.env.locals)
  (t:a∈X.ex\/X.s₀.heap.objs.size<=a) (l:∀x c,X.env.cells.lookup x=cL c->c≠a) (j:∀p∈X.pn++Z,p.1≠a):Inv X Z Y H {s with heap:=h',toks:=t'}:=by
 have f:∀b u,H b=cL u->b≠a:=λb u e z=>by rw[z,hn]at e;cases e
 refine I.step (g':=s.gens) (d':=s.drawn) (ch:=[a]) (λb i=>?_) (λb o _ _ d e _=>k b o (λz=>d (by simp[z])) e) (λb o _ _ d e _=>⟨o.slots,k b o (λz=>d (by simp[z])) e⟩) (λ_ _ _ _ n=>n)
  (λb o d e=>⟨o,k b o (λz=>d (by simp[z])) e⟩) (λ_ _ e=>e) (λ_ _ _ e=>e) (λb ps e=>⟨#[],by rw[e];simp⟩) (λm hm=>?_) (λb u e=>?_) I.bare
 .have e:b=a:=by simpa using i
  subst e;exact⟨t,g,l,j⟩
 .obtain⟨o,es,w,h,r⟩:=hm;exact⟨o,es,w,k _ o (dt g) h,r⟩
 .refine(I.Sk b u e).VQ (λc v d q=>k c v ?_ q) (λ_ q=>q) λ_ _ q=>q
  rcases d with z|z
  .rw[z];exact f b u e
  .exact f c _ z
theorem Inv.tok(I:Inv X Z Y H s)(t:Nat):Inv X Z Y H {s with toks:=t}:=I.un Un.refl I.Sk
theorem Inv.kept{t':Nat}(I:Inv X Z Y H s)(k:∀b u,s.heap.get? b=cL u->h'.get? b=cL u):Inv X Z Y H {s with heap:=h',toks:=t'}:=I.un (Un.kept k) (I.Sk.kept k)
theorem Inv.laid{a:QT}{o:HO}{t':Nat}(I:Inv X Z Y H s)(k:∀b u,s.heap.get? b=cL u->h'.get? b=cL u)(d:s.heap.objs.size<=a)(new:ObjOk X.prog X.w (bf H a o) h' a o):
  Inv X Z Y (bf H a o) {s with heap:=h',toks:=t'}:=I.un (Un.laid k d (I.Sk.fresh d)) (I.Sk.laid k d new)
theorem Inv.write{x e:QT}{o:HO}{t':Nat}(I:Inv X Z Y H s)(d:Oj (H x))(f:e=x\/H e=cL (.own x))(k:∀b u,b≠e->s.heap.get? b=cL u->h'.get? b=cL u)(a:∃u,h'.get? e=cL u)
  (new:ObjOk X.prog X.w (bf H x o) h' x o):Inv X Z Y (bf H x o) {s with heap:=h',toks:=t'}:=I.un (Un.write d f k a) (I.Sk.write d f k a new)
theorem Inv.XF(I:Inv X Z Y H s)(h:∀p∈abx,s.heap.get? p.1=cL p.2/\H p.1=lD/\p.1≠X.env.locals/\p.1∉X.fs/\∀v,p.2.data≠.cell v):Inv X abx Y H s:=
 ⟨I.ok,I.os,I.bare,I.base,I.loc,I.cell,I.free,I.Vf,λp a=>(R9.mp a).elim (λz=>I.pin p (Xt _ z)) (h p),I.Sk,I.len⟩
theorem uj{N:bb Str}(d:N.Nodup){i j:Nat}(a:N[i]?=cL x)(b:N[j]?=cL x):i=j:=by obtain⟨f,e1⟩:=QU.mp a;obtain⟨e,e2⟩:=QU.mp b;exact(List.getElem_inj d).mp (e1.trans e2.symm)
theorem qC{M:Model}{A:Rt}{E:QN->QS->Prop}{i:Nat}{x:Str}{v:V}{u:QN}{Q:Unit->QS->Prop}(I:Inv X Z Y H s)(hN:X.N.Nodup)(hi:X.N[i]?=cL x)(hx:L6 X.env.scope x)(r:RelV v u)
  (h:∀s',Inv X Z (Y.set i (cL v)) H s'->(∃a,Heap.SameBut a s.heap s'.heap/\(a=X.env.locals\/X.env.cells.lookup x=cL a))->Q () s') (hf:X.fn x=QM\/X.env.scope.names.lookup x=cL .local:=by first|exact .inl rfl|exact .inr rfl|assumption):wpAny M A (storeName X.env x u) Q E s:=by
 obtain⟨m,hn,hl⟩:=id I.loc;have ado:(X.env.scope.kind==.class||(X.env.scope.kind==.module&&X.env.locals !=X.env.globals))=QP:=by rw[I.ok.kind];rfl
 have hiσ:i<Y.length:=by rw[I.len];exact(QU.mp hi).1
 have Z5:=I.Z5;have tracked:∀{a:QT} {h':Heap},(∃o,s.heap.get? a=cL o/\H a=lD)->Heap.SameBut a s.heap h'->Vb X.prog X.w H h':=λ{a h'} ha hs b ob e=>by
  obtain⟨_,_,Zv⟩:=ha;refine(I.Sk b ob e).VQ (λc w' hc q=>(hs.2 c ?_).trans q) (λ_ q=>q) λ_ _ q=>q;rintro rfl;rcases hc with rfl|hc
  .rw[Zv]at e;cases e
  .rw[Zv]at hc;cases hc
 rcases hx with hk|hk
 .refine wpAny_storeName_local hk hn (λh' YA hs=>?_) ado
  obtain⟨oL,_,_,hoL,_⟩:=id hn;refine h _ ⟨I.ok,I.os,I.bare,⟨λb o e n hb hx=>?_,λb o e n hb hx=>?_,I.base.free,λb o e hx=>?_,I.base.WG,I.base.We,I.base.Wx⟩,⟨_,YA,λj y v' e1 e2 e3=>?_⟩,λy c e=>?_,I.free,I.Vf,λp hp=>?_,tracked ⟨oL,hoL,I.free⟩ hs,by simpa using I.len⟩ ⟨_,hs,.inl rfl⟩
  .exact(hs.2 b (Ri (Rf (b4 e) I.ok.above))).trans (I.base.keep b o e n hb hx)
  .obtain⟨sl,e1⟩:=I.base.slot b o e n hb hx;exact⟨sl,(hs.2 b (Ri (Rf (b4 e) I.ok.above))).trans e1⟩
  .obtain⟨o',e1⟩:=I.base.there b o e hx;exact⟨o',(hs.2 b (Ri (Rf (b4 e) I.ok.above))).trans e1⟩
  .by_cases hj:j=i
   .subst hj;rw[hi]at e1;cases e1;rw[S5 hiσ]at e2;cases e2;exact⟨u,r,.inl ⟨hk,by simp⟩⟩
   .rw[Tg (dt hj)]at e2
    obtain⟨u',r',q⟩:=hl j y v' e1 e2 e3;refine⟨u',r',?_⟩;rcases q with⟨k,e⟩|⟨k,c,e,z⟩
    .refine .inl ⟨k,?_⟩;have:y≠x:=λe=>hj (uj hN e1 (e▸hi));simp[this,e]
    .exact .inr ⟨k,c,e,z.sameBut hs (Z5 y c e)⟩
  .obtain⟨w',z⟩:=I.cell y c e;exact⟨w',z.sameBut hs (Z5 y c e)⟩
  .obtain⟨e,n,ne,nf,d⟩:=I.pin p hp;exact⟨(hs.2 p.1 ne).trans e,n,ne,nf,d⟩
 .have hfn:X.fn x=QM:=by
   rcases hf with z|z
   .exact z
   .rw[z]at hk;cases hk
  obtain⟨c,hc⟩:=I.ok.has x (.inl hk);obtain⟨w',z⟩:=I.cell x c hc;refine wpAny_storeName_cell I.ok.kind hk hc z (λh' WQ hs=>?_);obtain⟨oc,hoc,adY⟩:=id z;refine h {s with heap:=h'} ⟨I.ok,I.os,I.bare,⟨λb o e n hb hx=>?_,λb o e n hb hx=>?_,I.base.free,λb o e hx=>?_,I.base.WG,I.base.We,I.base.Wx⟩,⟨m,hn.sameBut hs (dt (Z5 x c hc)),λj y v' e1 e2 e3=>?_⟩,λy c' e=>?_,I.free,I.Vf,λp hp=>?_,tracked ⟨oc,hoc,I.Vf x c hc⟩ hs,by simpa using I.len⟩ ⟨c,hs,.inr hc⟩
  .exact(hs.2 b (Ri (Rf (b4 e) (I.ok.cab x c hfn hc)))).trans (I.base.keep b o e n hb hx)
  .obtain⟨sl,e1⟩:=I.base.slot b o e n hb hx;exact⟨sl,(hs.2 b (Ri (Rf (b4 e) (I.ok.cab x c hfn hc)))).trans e1⟩
  .obtain⟨o',e1⟩:=I.base.there b o e hx;exact⟨o',(hs.2 b (Ri (Rf (b4 e) (I.ok.cab x c hfn hc)))).trans e1⟩
  .by_cases hj:j=i
   .subst hj;rw[hi]at e1;cases e1;rw[S5 hiσ]at e2;cases e2;exact⟨u,r,.inr ⟨.inl hk,c,hc,WQ⟩⟩
   .rw[Tg (dt hj)]at e2
    obtain⟨u',r',q⟩:=hl j y v' e1 e2 e3;refine⟨u',r',?_⟩;rcases q with q|⟨k,c',e,z'⟩
    .exact .inl q
    .refine .inr ⟨k,c',e,z'.sameBut hs ?_⟩;rintro rfl;exact hj (uj hN e1 (I.ok.inj _ _ _ e hc▸hi))
  .by_cases hcc:c'=c
   .subst hcc;exact⟨_,WQ⟩
   .obtain⟨w2,z2⟩:=I.cell y c' e;exact⟨w2,z2.sameBut hs hcc⟩
  .obtain⟨e,n,ne,nf,d⟩:=I.pin p hp;refine⟨(hs.2 p.1 ?_).trans e,n,ne,nf,d⟩;intro q;rw[q,hoc]at e;have q':oc=p.2:=Ra e;exact d w' (by rw[<-q'];exact adY)
theorem vo{i:Nat}{v:V}{u:QN}{Q:Unit->QS->Prop}(I:Inv X Z Y H s)(hN:X.N.Nodup)(hi:X.N[i]?=cL x)(hx:L6 X.env.scope x)(r:RelV v u)
  (h:∀s',Inv X Z (Y.set i (cL v)) H s'->Q () s') (hf:X.fn x=QM\/X.env.scope.names.lookup x=cL .local:=by first|exact .inl rfl|exact .inr rfl|assumption):wpAny M A (storeName X.env x u) Q E s:=
 qC I hN hi hx r (λs' I' _=>h s' I') hf
theorem Inv.Zs{a:QS}{ch:bb QT}(I:Inv X Z Y H s)(f:a.os=s.os)(u:Un (vT X.stack) ch H U s.heap a.heap)(Sk:Vb X.prog X.w U a.heap)(g:AllBare a.gens)
  (h:∀b∈ch,(b∈X.ex\/X.s₀.heap.objs.size<=b)/\b≠X.env.locals/\(∀x c,X.env.cells.lookup x=cL c->c≠b)/\∀p∈X.pn++Z,p.1≠b):Inv X Z Y U a:=by
 obtain⟨h',g',d',t',d⟩:=a;have e:d=s.os:=f;subst e;exact I.call (g':=g') (t':=t') (d':=d') u Sk g h
end
abbrev XK:=QN->bg QT->Hp->Prop
abbrev St:=bb (bg V)
abbrev VK:=V->Hp->Prop
abbrev TE:=St->Hp->VK->Prop
abbrev TT:=St->Hp->(Bool->Hp->Prop)->Prop
abbrev TA:=St->Hp->(bb V->Hp->Prop)->Prop
structure Ends where
 nx:St->Hp->Prop
 rt:VK
 bk:St->Hp->Prop:=λ_ _=>False
 ct:St->Hp->Prop:=λ_ _=>False
abbrev TS:=Ends->St->Hp->Prop
def EP(X:Cx)(a:bb (QT×Obj))(b:St)(Q:VK)(u:QN)(d:QS):Prop:=∃v H',Inv X a b H' d/\RelV v u/\Q v H'
def TP(X:Cx)(a:bb (QT×Obj))(d:St)(Q:Bool->Hp->Prop)(b:Bool)(e:QS):Prop:=∃H',Inv X a d H' e/\Q b H'
def AP(X:Cx)(a:bb (QT×Obj))(b:St)(Q:bb V->Hp->Prop)(us:bb QN)(d:QS):Prop:=∃vs H',Inv X a b H' d/\Vals vs us/\Q vs H'
def SP(X:Cx)(a:bb (QT×Obj))(D:Ends)(f:Flow)(b:QS):Prop:=
 match f with
 |.next=>∃σ' H',Inv X a σ' H' b/\D.nx σ' H'
 |.brk=>∃σ' H',Inv X a σ' H' b/\D.bk σ' H'
 |.cont=>∃σ' H',Inv X a σ' H' b/\D.ct σ' H'
 |.ret u=>∃v σ' H',Inv X a σ' H' b/\RelV v u/\D.rt v H'
def PE(X:Cx)(e:Q9)(t:TE):Prop:=
 ∀(a:bb (QT×Obj)) (s:QS) (b:St) (H:Hp) (Q:VK),Inv X a b H s->t b H Q->wpAny (model X.prog X.w) X.A (eval e X.env) (EP X a b Q) X.xe s
def PT(X:Cx)(e:Q9)(t:TT):Prop:=
 ∀(a:bb (QT×Obj)) (s:QS) (b:St) (H:Hp) (Q:Bool->Hp->Prop),Inv X a b H s->t b H Q->wpAny (model X.prog X.w) X.A (isTrue e X.env (eval e X.env)) (TP X a b Q) X.xe s
def PW(X:Cx)(e:Q9)(t:TT):Prop:=
 ∀(b:Sem QN) (a:bb (QT×Obj)) (s:QS) (d:St) (H:Hp) (Q:Bool->Hp->Prop),Inv X a d H s->t d H Q->wpAny (model X.prog X.w) X.A (isTrue e X.env b) (TP X a d Q) X.xe s
theorem PW.pt(h:PW X e t):PT X e t:=h _
def PA(X:Cx)(es:bb Q9)(t:TA):Prop:=
 ∀(pos:Pos) (a:bb (QT×Obj)) (s:QS) (b:St) (H:Hp) (Q:bb V->Hp->Prop),Inv X a b H s->t b H Q->wpAny (model X.prog X.w) X.A (spliced (backTo pos (Rg es X.env))) (AP X a b Q) X.xe s
def PS(X:Cx)(d:Tb)(t:TS):Prop:=
 ∀(a:bb (QT×Obj)) (s:QS) (b:St) (H:Hp) (D:Ends),Inv X a b H s->t D b H->wpAny (model X.prog X.w) X.A (exec d X.env) (SP X a D) X.xe s
def WO(X:Cx)(d:bb Tb)(t:TS):Prop:=
 ∀(a:bb (QT×Obj)) (s:QS) (b:St) (H:Hp) (D:Ends),Inv X a b H s->t D b H->wpAny (model X.prog X.w) X.A (execs d X.env) (SP X a D) X.xe s
theorem cF{α:Type}{t:Sem α}{Q b:α->QS->Prop}{M:Model}{A:Rt}{E:QN->QS->Prop}{s:QS}(h:wpAny M A t Q E s)(d:∀a s,Q a s->b a s):wpAny M A t b E s:=wpAny_mono h d λ_ _ x=>x
section
variable{X:Cx}
def u7(i:Nat):TE:=λa H Q=>∃v,a[i]?=cL (cL v)/\Q v H
def tC(v:V):TE:=λ_ H Q=>Q v H
theorem Ku(p:X.N[i]?=cL x)(n:OL X.env.scope x)(hd:(x==("__debug__":Str))=QP:=by decide)(q:(x==("__classdict__":Str))=QP:=by decide):PE X (.Name x pos) (u7 i):=by
 intro d s j H Q I h;obtain⟨v,e,h⟩:=h;obtain⟨m,hn,o⟩:=I.loc;obtain⟨u,r,l⟩:=o i x v p e n;have b:EP X d j Q u s:=⟨v,H,I,r,h⟩;rcases l with⟨a,hm⟩|⟨a,c,f,g⟩
 .exact Zz (wpAny_loadName_local I.ok.kind a hn hm b) hd
 .rcases a with a|a
  .exact Zz (wpAny_loadName_cell I.ok.kind a f g b) hd
  .exact Zz (wpAny_loadName_free I.ok.kind a f g b q) hd
theorem LL{i j pos}:PE X (.Constant (.int i) j pos) (tC (.int i)):=λ_ _ _ H _ I h=>ZA ⟨.int i,H,I.tok _,⟨_,rfl⟩,h⟩
theorem NS{b j pos}:PE X (.Constant (.bool b) j pos) (tC (.bl b)):=λ_ _ _ H _ I h=>Constant_bool ⟨.bl b,H,I,rfl,h⟩
theorem KL{j pos}:PE X (.Constant .none j pos) (tC .TF):=λ_ _ _ H _ I h=>Constant_none ⟨.TF,H,I,rfl,h⟩
theorem Ln{x j pos}:PE X (.Constant (.str x) j pos) (tC (.str x)):=λ_ _ _ H _ I h=>Calls.Constant_str ⟨.str x,H,I.tok _,⟨_,rfl⟩,h⟩
def Gl(X:Cx)(x:Str):Prop:=X.env.kindOf x=cL .globalImplicit
theorem rN(I:Inv X pins σ H s)(a:Gl X x)(hm:X.mg x=cL u)(h:Q u s)
  (hd:(x==("__debug__":Str))=QP:=by decide):wpAny (model X.prog X.w) X.A (eval (.Name x pos) X.env) Q E s:=
 Calls.Name_function_global I.ok.kind a (Calls.loadGlobal_global (by rw[I.ok.glob];exact I.mod.glob.keeps I.bk) hm h) hd
theorem my(I:Inv X pins σ H s)(b:Gl X x)(hm:X.mg x=lD)(a:Ry x=cL u)(h:Q u s)
  (hn:x≠ "__name__":=by decide) (hd:(x==("__debug__":Str))=QP:=by decide):wpAny (model X.prog X.w) X.A (eval (.Name x pos) X.env) Q E s:=by
 obtain⟨f,e,d⟩:=I.mod.blt;exact Calls.Name_function_global I.ok.kind b (Calls.loadGlobal_builtin (by rw[I.ok.glob];exact I.mod.glob.keeps I.bk) hm (by rw[I.ok.blt];exact e.keeps I.bk) ((d x hn).trans a) h) hd
theorem EX{x:Str}{v:V}{u:QN}{pos:Pos}(a:Gl X x)(hm:X.mg x=cL u)(r:RelV v u)(hd:(x==("__debug__":Str))=QP:=by decide):PE X (.Name x pos) (tC v):=
 λ_ _ _ H _ I h=>rN I a hm ⟨v,H,I,r,h⟩ hd
theorem GW(b:Gl X x)(hm:X.mg x=lD)(a:Ry x=cL u)(r:RelV v u)(hn:x≠ "__name__":=by decide)(hd:(x==("__debug__":Str))=QP:=by decide):PE X (.Name x pos) (tC v):=
 λ_ _ _ H _ I h=>my I b hm a ⟨v,H,I,r,h⟩ hn hd
variable{a b:Q9}{Y Z:TE}{pos:Pos}
def PC(X:Cx)(op:X0)(a b:Q9)(t:TE):Prop:=
 ∀(d:bb (QT×Obj)) (s:QS) (g:St) (H:Hp) (Q:VK),Inv X d g H s->t g H Q->
  wpAny (model X.prog X.w) X.A (eval a X.env) (λv f=>wpAny (model X.prog X.w) X.A (eval b X.env) (λu e=>wpAny (model X.prog X.w) X.A (Si op v u) (EP X d g Q) X.xe e) X.xe f) X.xe s
def tB(t:TE):TT:=λd H Q=>t d H λx e=>∃c,x=.bl c/\Q c e
theorem Kb(h:PC X op a b t)(g:behindInMarks op b=QP:=by first|exact YG _ (by decide) (by decide)|rfl):PE X (.Compare a [op] [b] pos) t:=λd s e H Q I f=>acx (h d s e H Q I f) g
theorem LM(h:PC X op a b t)(f:behindInMarks op b=QP:=by first|exact YG _ (by decide) (by decide)|rfl):PT X (.Compare a [op] [b] pos) (tB t):=by intro e s g H Q I l;refine YM (cF (h e s g H _ I l) λv w f=>cF f λu r m=>cF m λc p ⟨x,o,n,i,j⟩=>?_) f;obtain⟨d,rfl,q⟩:=j;cases i;exact R8 ⟨o,n,q⟩
theorem Je{e:Q9}{t:TE}(h:PE X e t)(m:∀whole,isTrue e X.env whole=(do let v<-whole;standAt e.pos;holding [v] (truthy v)):=by intro _;rfl):PT X e (tB t):=by intro f s g H Q I l;refine isTrue_plain (cF (h f s g H _ I l) λv p ⟨x,o,n,i,j⟩=>?_) (m _);obtain⟨d,rfl,q⟩:=j;cases i;exact R8 ⟨o,n,q⟩
variable{T S:TT}{U:bb Q9}
def J5(t u:TT):TT:=λd H Q=>t d H λc e=>if c=QM then u d e Q else Q QP e
def Pp(t u:TT):TT:=λd H Q=>t d H λc e=>if c=QM then Q QM e else u d e Q
def Ho(t:TT):TT:=λd H Q=>t d H λc e=>Q (!c) e
theorem xi(ha:PT X a T):PW X (.BoolOp .And [a] pos) T:=by
 intro g d s f H Q I h;refine isTrue_and (cF (ha d s f H Q I h) λc i e=>?_);cases c with
 |true=>exact isTrue_and_nil e
 |false=>exact e
theorem KG(ha:PT X a T):PW X (.BoolOp .Or [a] pos) T:=by
 intro g d s f H Q I h;refine isTrue_or (cF (ha d s f H Q I h) λc i e=>?_);cases c with
 |false=>exact isTrue_or_nil e
 |true=>exact e
theorem Bz(ha:PT X a T)(m:PW X (.BoolOp .And (b::U) pos) S):PW X (.BoolOp .And (a::b::U) pos) (J5 T S):=by
 intro j d s e H Q I h;refine isTrue_and (cF (ha d s e H _ I h) λc l ⟨i,g,f⟩=>?_);cases c with
 |true=>exact m j d l e i Q g f
 |false=>exact⟨i,g,f⟩
theorem Mq(ha:PT X a T)(m:PW X (.BoolOp .Or (b::U) pos) S):PW X (.BoolOp .Or (a::b::U) pos) (Pp T S):=by
 intro j d s e H Q I h;refine isTrue_or (cF (ha d s e H _ I h) λc l ⟨i,g,f⟩=>?_);cases c with
 |true=>exact⟨i,g,f⟩
 |false=>exact m j d l e i Q g f
theorem Jj(ha:PT X a T):PT X (.UnaryOp .Not a pos) (Ho T):=by intro d s e H Q I h;exact isTrue_not (ha d s e H (λc f=>Q (!c) f) I h)
def IV(Y Z:TE):TE:=λd H Q=>Y d H λx e=>∃c,x=.bl c/\if c=QM then Z d e Q else Q (.bl QP) e
def N7(Y Z:TE):TE:=λd H Q=>Y d H λx e=>∃c,x=.bl c/\if c=QM then Q (.bl QM) e else Z d e Q
theorem Kw{op}(h:PE X a t):PE X (.BoolOp op [a] pos) t:=λd s e H Q I f=>BoolOp_one (h d s e H Q I f)
theorem Jf(ha:PE X a Y)(m:PE X (.BoolOp .And (b::U) pos) Z):PE X (.BoolOp .And (a::b::U) pos) (IV Y Z):=by
 intro d s f H Q I h;refine BoolOp_and (cF (ha d s f H _ I h) λv j ⟨x,i,g,l,e⟩=>?_);obtain⟨c,rfl,e⟩:=e;cases l;refine R8 ?_;cases c with
 |true=>exact m d j f i Q g e
 |false=>exact⟨.bl QP,i,g,rfl,e⟩
theorem NK(ha:PE X a Y)(m:PE X (.BoolOp .Or (b::U) pos) Z):PE X (.BoolOp .Or (a::b::U) pos) (N7 Y Z):=by
 intro d s f H Q I h;refine BoolOp_or (cF (ha d s f H _ I h) λv j ⟨x,i,g,l,e⟩=>?_);obtain⟨c,rfl,e⟩:=e;cases l;refine R8 ?_;cases c with
 |false=>exact m d j f i Q g e
 |true=>exact⟨.bl QM,i,g,rfl,e⟩
def Oo(t:TT)(Y Z:TE):TE:=λd H Q=>t d H λc e=>if c=QM then Y d e Q else Z d e Q
theorem AG(m:PT X c T)(ha:PE X a Y)(n:PE X b Z):PE X (.IfExp c a b pos) (Oo T Y Z):=by
 intro e s f H Q I h;refine wpAny_IfExp (cF (m e s f H _ I h) λd g ⟨l,j,i⟩=>?_);cases d with
 |true=>exact ha e g f l Q j i
 |false=>exact n e g f l Q j i
end
def Uq(K:Bn)(H:Hp)(a:QT)(xs:bb V):Prop:=
 Rd H a (.lst xs)\/
  ∃(o:Obj) (b:Array QN) (n:Nat),K.lookup a=cL o/\o.cls=.type "list"/\o.dict=lD/\o.data=.seq b n/\b.size<=Q3/\Vals xs b.toList
def UG(K:Bn)(H:Hp)(a:QT)(xs:bb V):Prop:=
 Rd H a (.tup xs)\/
  ∃(o:Obj) (b:Array QN) (n:Nat),K.lookup a=cL o/\(o.cls=.type "tuple"/\o.dict=lD)/\o.data=.seq b n/\b.size<=Q3/\Vals xs b.toList
def Pi:QN->bg V
 |.none=>cL .TF
 |.bool b=>cL (.bl b)
 |.int i _=>cL (.int i)
 |.str x _=>cL (.str x)
 |.bytes b _=>cL (.byt b)
 |.float b _=>cL (.flt b)
 |.ref a=>cL (.ref a)
 |.type n=>cL (.ty n)
 |_=>lD
theorem RelV.abs(r:RelV x u):Pi u=cL x:=by
 cases x with
 |TF=>cases r;rfl
 |bl _=>cases r;rfl
 |int _=>obtain⟨t,rfl⟩:=r;rfl
 |str _=>obtain⟨t,rfl⟩:=r;rfl
 |byt _=>obtain⟨t,rfl⟩:=r;rfl
 |flt _=>obtain⟨t,rfl⟩:=r;rfl
 |ref _=>cases r;rfl
 |ty _=>cases r;rfl
theorem RelV.inj(r:RelV x u)(q:RelV y u):x=y:=Ra (r.abs.symm.trans q.abs)
theorem Vals.inj:∀{xs ys:bb V} {us:bb QN},Vals xs us->Vals ys us->xs=ys
 |_,_,_,.nil,.nil=>rfl
 |_,_,_,.cons r t,.cons r' t'=>by rw[r.inj r',Vals.inj t t']
section
variable{X:Cx}{Z:bb (QT×Obj)}{Y:St}{H:Hp}{s:QS}{a:QT}{xs ys:bb V}
theorem Uq.of{K:Bn}(h:H a=cL (.lst xs)):Uq K H a xs:=.inl (.inl h)
theorem UG.of{K:Bn}(h:H a=cL (.tup xs)):UG K H a xs:=.inl (.inl h)
theorem Inv.list(I:Inv X Z Y H s)(h:Uq X.K H a xs):∃RG:bb QN,Vals xs RG/\PlainL s.heap a RG.toArray/\xs.length<=Q3:=by
 rcases h with h|⟨o,RG,n,hk,hc,hd,hs,hz,r⟩
 .obtain⟨z,RG,n,r,e⟩:=h.ok I.Sk;exact⟨RG,r,⟨_,n,e,rfl,rfl,rfl⟩,z⟩
 .refine⟨RG.toList,r,⟨o,n,I.V5 a o hk,hc,hd,by simpa using hs⟩,?_⟩;have e:=r.length;simp only[RL]at e;ext
theorem Inv.tuple(I:Inv X Z Y H s)(h:UG X.K H a xs):∃RG:bb QN,Vals xs RG/\IsTup s.heap a RG.toArray/\xs.length<=Q3:=by
 rcases h with h|⟨o,RG,n,hk,hc,hs,hz,r⟩
 .obtain⟨z,RG,r,p⟩:=h.ok I.Sk;exact⟨RG,r,p.tup,z⟩
 .refine⟨RG.toList,r,⟨o,I.V5 a o hk,hc.1,n,by simpa using hs⟩,?_⟩;have e:=r.length;simp only[RL]at e;ext
theorem Inv.ZT(I:Inv X Z Y H s)(h:UG X.K H a xs):∃RG:bb QN,Vals xs RG/\VN s.heap a RG.toArray/\xs.length<=Q3:=by
 rcases h with h|⟨o,RG,n,hk,hc,hs,hz,r⟩
 .obtain⟨z,RG,r,p⟩:=h.ok I.Sk;exact⟨RG,r,p,z⟩
 .refine⟨RG.toList,r,⟨o,I.V5 a o hk,⟨hc.1,n,by simpa using hs⟩,hc.2⟩,?_⟩;have e:=r.length;simp only[RL]at e;ext
theorem Inv.Yz(I:Inv X Z Y H s)(h:Uq X.K H a xs)(h':Uq X.K H a ys):xs=ys:=by
 obtain⟨j,r,⟨o,n,e,_,_,d⟩,_⟩:=I.list h;obtain⟨i,g,⟨l,m,b,_,_,f⟩,_⟩:=I.list h';rw[e]at b;cases b;rw[d]at f;injection f with d1 _;have:j=i:=by simpa using d5 ZC d1
 subst this;exact r.inj g
theorem Inv.XW(I:Inv X Z Y H s)(h:UG X.K H a xs)(h':UG X.K H a ys):xs=ys:=by
 obtain⟨j,r,⟨o,e,_,n,d⟩,_⟩:=I.tuple h;obtain⟨i,g,⟨l,b,_,m,f⟩,_⟩:=I.tuple h';rw[e]at b;cases b;rw[d]at f;injection f with d1 _;have:j=i:=by simpa using d5 ZC d1
 subst this;exact r.inj g
end
abbrev Cx.VO(X:Cx)(E:QN->QS->Prop):Cx:={X with xe:=E}
abbrev Cx.YY(X:Cx):Cx:=X.VO λ_ _=>False
theorem Cx.Ok.VO{X:Cx}(ok:X.Ok)(E:QN->QS->Prop):(X.VO E).Ok:=
 ⟨ok.mod,ok.kind,ok.glob,ok.blt,ok.above,ok.inj,ok.has,ok.cab,ok.hd,ok.frames,ok.stk,ok.exf,ok.bs,ok.YZ,ok.XM,ok.XT,ok.Vy,ok.Zw⟩
theorem Cx.Ok.UI{X:Cx}(ok:(X.VO E).Ok):X.Ok:=
 ⟨ok.mod,ok.kind,ok.glob,ok.blt,ok.above,ok.inj,ok.has,ok.cab,ok.hd,ok.frames,ok.stk,ok.exf,ok.bs,ok.YZ,ok.XM,ok.XT,ok.Vy,ok.Zw⟩
section
variable{X:Cx}{Z:bb (QT×Obj)}{Y:St}{H:Hp}{s:QS}{E:QN->QS->Prop}
theorem Inv.VO(I:Inv X Z Y H s)(E:QN->QS->Prop):Inv (X.VO E) Z Y H s:=⟨I.ok.VO E,I.os,I.bare,I.base,I.loc,I.cell,I.free,I.Vf,I.pin,I.Sk,I.len⟩
theorem Inv.UI(I:Inv (X.VO E) Z Y H s):Inv X Z Y H s:=⟨I.ok.UI,I.os,I.bare,I.base,I.loc,I.cell,I.free,I.Vf,I.pin,I.Sk,I.len⟩
theorem SP.UI(h:SP (X.VO E) Z D f s'):SP X Z D f s':=by
 cases f with
 |next=>obtain⟨a,b,I,q⟩:=h;exact⟨a,b,I.UI,q⟩
 |brk=>obtain⟨a,b,I,q⟩:=h;exact⟨a,b,I.UI,q⟩
 |cont=>obtain⟨a,b,I,q⟩:=h;exact⟨a,b,I.UI,q⟩
 |ret u=>obtain⟨v,a,b,I,r,q⟩:=h;exact⟨v,a,b,I.UI,r,q⟩
theorem WO.YY{a:bb Tb}(h:WO X.YY a t):WO X a t:=λZ s Y H D I b=>
 wpAny_mono (h Z s Y H D (I.VO _) b) (λ_ _ q=>q.UI) λ_ _ z=>False.elim z
end
section
variable{X:Cx}{U:Tb}{Y:bb Tb}{t u:TS}{e:Q9}{Z:TE}{pos:Pos}
def Aj:TS:=λD a H=>D.nx a H
def GL(t u:TS):TS:=λD a H=>t {D with nx:=u D} a H
theorem yp:WO X [] Aj:=λ_ _ a H _ I h=>WX ⟨a,H,I,h⟩
theorem A4(j:PS X U t)(i:WO X Y u):WO X (U::Y) (GL t u):=by
 intro a s d H D I h;refine aaM (cF (j a s d H {D with nx:=u D} I h) λf g q=>?_);cases f with
 |next=>obtain⟨b,m,l,q⟩:=q;exact i a g b m D l q
 |ret v=>exact q
 |brk=>exact q
 |cont=>exact q
theorem Hb(d:PS X U t):WO X [U] t:=by
 intro a s b H D I h;refine aaM (cF (d a s b H D I h) λf g q=>?_);cases f with
 |next=>exact WX q
 |ret v=>exact q
 |brk=>exact q
 |cont=>exact q
theorem Inv.quiet{a:bb (QT×Obj)}{b:St}{H:Hp}{s:QS}(I:Inv X a b H s):interactive X.env=QP:=by simp[interactive,I.ok.kind]
def xx(Z:TE):TS:=λD a H=>Z a H λ_ b=>D.nx a b
theorem FW(g:PE X e Z)(f:TV e lD pos.line X.env=pure QP:=by rfl):PS X (.Expr e pos) (xx Z):=by intro a s b H D I h;exact wpAny_Expr_any (cF (g a s b H _ I h) λv l ⟨x,j,i,m,d⟩=>⟨b,j,i,d⟩) I.quiet f
def EY(Z:TE):TS:=λD a H=>Z a H D.rt
theorem La(g:PE X e Z):PS X (.Return (cL e) pos) (EY Z):=by intro a s b H D I h;exact wpAny_Return_some (cF (g a s b H _ I h) λv l ⟨x,j,i,d,f⟩=>⟨x,b,j,i,d,f⟩)
def Iv:TS:=λD _ H=>D.rt .TF H
theorem Fe:PS X (.Return lD pos) Iv:=λ_ _ a H _ I h=>wpAny_Return_none ⟨.TF,a,H,I,rfl,h⟩
def Gp(c:TT)(t u:TS):TS:=λD a H=>c a H λb d=>if b=QM then t D a d else u D a d
theorem My(n:PT X c tc)(ha:WO X a t)(o:WO X b u):PS X (.If c a b pos) (Gp tc t u):=by
 intro f s g H D I h;refine wpAny_If (cF (n f s g H _ I h) λd i ⟨m,l,j⟩=>?_);cases d with
 |true=>exact ha f i g m D l j
 |false=>exact o f i g m D l j
end
abbrev TG:=V->St->Hp->(St->Hp->Prop)->Prop
abbrev vQ:=bb V->St->Hp->(St->Hp->Prop)->Prop
def PG(X:Cx)(a:Q9)(t:TG):Prop:=
 ∀(b:bb (QT×Obj)) (s:QS) (d:St) (H:Hp) (v:V) (u:QN) (Q:St->Hp->Prop),Inv X b d H s->RelV v u->t v d H Q->
  wpAny (model X.prog X.w) X.A (assign a X.env u) (λ_ e=>∃σ' H',Inv X b σ' H' e/\Q σ' H') X.xe s
def Mr(X:Cx)(e:bb Q9)(t:vQ):Prop:=
 ∀(a:bb (QT×Obj)) (s:QS) (b:St) (H:Hp) (vs:bb V) (d:bb QN) (Q:St->Hp->Prop),Inv X a b H s->Vals vs d->t vs b H Q->
  wpAny (model X.prog X.w) X.A (assignInOrder ((assignEach e X.env).map (·.2)) d) (λ_ f=>∃σ' H',Inv X a σ' H' f/\Q σ' H') X.xe s
section
variable{X:Cx}{pos:Pos}
def mW(i:Nat):TG:=λv a H Q=>Q (a.set i (cL v)) H
theorem F7(hN:X.N.Nodup)(hi:X.N[i]?=cL x)(hx:L6 X.env.scope x)(hf:X.fn x=QM\/X.env.scope.names.lookup x=cL .local:=by first|exact .inl rfl|exact .inr rfl|assumption):PG X (.Name x pos) (mW i):=by intro pins s σ H v u Q I r h;exact aai (vo I hN hi hx r (λs' I'=>⟨_,H,I',h⟩) hf)
def G3:vQ:=λvs a H Q=>vs=[]/\Q a H
def yx(t:TG)(u:vQ):vQ:=λvs b H Q=>∃v r,vs=v::r/\t v b H λa d=>u r a d Q
theorem Fs:Mr X [] G3:=by intro a s b H vs d Q I r h;obtain⟨e,h⟩:=h;subst e;cases r;exact assignInOrder_nil ⟨b,H,I,h⟩
theorem A8(m:PG X e t)(l:Mr X es u)
  (j:(assignEach (e::es) X.env).map (·.2)=assign e X.env::(assignEach es X.env).map (·.2):=by rfl):Mr X (e::es) (yx t u):=by
 intro a s d H vs q Q I r h;obtain⟨v,p,e1,h⟩:=h;subst e1;cases r with
 |cons r g=>rw[j];refine assignInOrder_cons (cF (m a s d H _ _ _ I r h) λ_ f ⟨b,o,n,i⟩=>?_);exact l a f b o _ _ Q n g i
def Ej(K:Bn)(n:Nat)(t:vQ):TG:=λv b H Q=>∃a xs,v=.ref a/\UG K H a xs/\xs.length=n/\t xs b H Q
theorem KQ(p:X.calm=QM)(h:Mr X es t)
  (hn:(assignEach es X.env).length=n:=by rfl) (dW:(assignEach es X.env).findIdx? (·.1)=lD:=by rfl):PG X (.Tuple es k pos) (Ej X.K n t):=by
 intro d s g H v u Q I r f;obtain⟨a,xs,e1,l,m,f⟩:=f;subst e1;cases r;obtain⟨z,rv,j,w⟩:=I.tuple l;refine assign_Tuple_tuple (I.ok.hd p) j (by simp[hn,<-m,rv.length]) dW λy i=>?_;have q:=I.kept (t':=s.toks) λb o e=>i b o (Ri (b4 e)) e;exact h d _ g H xs _ Q q (by simpa using rv) f
def uo(b:TE)(g:TG):TS:=λD a H=>b a H λx d=>g x a d D.nx
theorem J1(n:PE X e te)(m:PG X tg g)(l:swapsWithSole [tg] e pos.line X.env=pure QP:=by rfl)(j:swappedStores [tg] e X.env=pure lD:=by rfl)
  (o:(assignEach [tg] X.env).map (·.2)=[assign tg X.env]:=by rfl):PS X (.Assign [tg] e pos) (uo te g):=by
 intro a s b H D I h;refine wpAny_Assign_stores (cF (n a s b H _ I h) λv d ⟨x,r,p,f,i⟩=>?_) l j;rw[o];exact cF (m a d b r x v _ p f i) λ_ t q=>q
theorem Dg{i:Nat}{x:Str}{e:Q9}{te:TE}{pos':Pos}(hN:X.N.Nodup)(hi:X.N[i]?=cL x)(hx:L6 X.env.scope x)(he:PE X e te)(hs:TV e (cL (.Name x pos')) pos.line X.env=pure QP:=by rfl)(hf:X.fn x=QM\/X.env.scope.names.lookup x=cL .local:=by first|exact .inl rfl|exact .inr rfl|assumption):
  PS X (.Assign [.Name x pos'] e pos) (uo te (mW i)):=by
 intro pins s σ H D I h;refine wpAny_Assign_Name (cF (he pins s σ H _ I h) λv s1 ⟨y,H1,I1,r1,q1⟩=>?_) hs;exact vo I1 hN hi hx r1 (λs2 I2=>⟨_,H1,I2,q1⟩) hf
end
structure It where
 go:Nat->Hp->Prop
 yld:Nat->Hp->V->Hp->Prop
 stop:Nat->Hp->Prop
def mI(X:Cx)(a:bb (QT×Obj))(H:Hp)(b:QT):Prop:=
 H b=lD/\b≠X.env.locals/\b∉X.fs/\(b∈X.ex\/X.s₀.heap.objs.size<=b)/\(∀x c,X.env.cells.lookup x=cL c->c≠b)/\∀p∈X.pn++a,p.1≠b
theorem Inv.Xq(I:Inv X pins σ H s)(a:s.heap.objs.size<=b)(hn:H' b=lD):mI X pins H' b:=by
 refine⟨hn,Se (Rf I.lt a),I.ac8 a,.inr (Rp I.sz a),λx c e z=>?_,λp d z=>?_⟩
 .obtain⟨v,q⟩:=I.cell x c e;exact a7 (Rf q.lt (by rw[z];exact a)) (Sj _)
 .exact a7 (Rf (b4 (I.pin p d).1) (by rw[z];exact a)) (Sj _)
structure Turn(P:Rb)(w:Rr)(K:Bn)(tg:Q9)(J:It)(fp:bb QT)(it:QT)(tn:Nat->Heap->Prop):Prop where
 mem:it∈fp
 obj:∀i h,tn i h->∀b∈fp,∃o,h.get? b=cL o/\∀v,o.data≠.cell v
 keep:∀i h h',tn i h->(∀b∈fp,∀o,h.get? b=cL o->h'.get? b=cL o)->tn i h'
 item:∀(X:Cx),X.prog=P->X.w=w->X.K=K->X.calm=QM->∀(i:Nat) (pins:bb (QT×Obj)) (s:QS) (σ:St) (H:Hp) (E:QN->QS->Prop),Inv X pins σ H s->(∀b∈fp,mI X pins H b)->tn i s.heap->J.go i H->
  wpAny (model P w) X.A (pyNext (.ref it)) (λr s1=>∃u,r=cL u/\
   wpAny (model P w) X.A (letOwnedTupleGo tg (.ref it) u) (λ_ s2=>∃x H',Inv X pins σ H' s2/\RelV x u/\J.yld i H x H'/\tn (i+1) s2.heap/\∀b∈fp,H' b=lD) E s1) E s
 done:∀(X:Cx),X.prog=P->X.w=w->X.K=K->X.calm=QM->∀(i:Nat) (pins:bb (QT×Obj)) (s:QS) (σ:St) (H:Hp) (E:QN->QS->Prop),Inv X pins σ H s->(∀b∈fp,mI X pins H b)->tn i s.heap->J.stop i H->
  wpAny (model P w) X.A (pyNext (.ref it)) (λr s1=>r=lD/\Inv X pins σ H s1) E s
 self:∀(A:Rt) (i:Nat) (s:QS) (Q:QN->QS->Prop) (E:QN->QS->Prop),tn i s.heap->Q (.ref it) s->wpAny (model P w) A (pyIter (.ref it)) Q E s
abbrev TI:=St->Hp->(It->Hp->Prop)->Prop
def PR(X:Cx)(a:bb (QT×Obj))(j:St)(tg:Q9)(R:It->Hp->Prop)(d:QN)(g:QS):Prop:=
 ∃(h:QT) (i:bb QT) (f:Nat->Heap->Prop) (J:It) (e:Hp),d=.ref h/\Inv X a j e g/\Turn X.prog X.w X.K tg J i h f/\f 0 g.heap/\(∀b∈i,mI X a e b)/\R J e
def PI(X:Cx)(tg b:Q9)(e:TI):Prop:=
 ∀(a:bb (QT×Obj)) (s:QS) (d:St) (H:Hp) (R:It->Hp->Prop),Inv X a d H s->e d H R->
  wpAny (model X.prog X.w) X.A (eval b X.env) (λv f=>wpAny (model X.prog X.w) X.A (pyIter v) (PR X a d tg R) X.xe f) X.xe s
theorem xl{M:Model}{A:Rt}{E:QN->QS->Prop}{s:QS}{tg:Q9}{b:QT}{u:QN}{o:Obj}{n:String}{vs:Array QN}{Q:Unit->QS->Prop}(d:s.heap.get? b=cL o)(e:o.cls=.type n)(hd:o.data=.fields vs)
  (hn:["enumerate","zip","dict_itemiterator","dict_reverseitemiterator","odict_iterator","itertools.zip_longest","itertools.pairwise"].contains n=QP) (a:Q () s):wpAny M A (letOwnedTupleGo tg (.ref b) u) Q E s:=by
 unfold letOwnedTupleGo;cases tg<;>first
  |exact QW a
  |(cases u<;>first
    |exact QW a
    |(refine Ld (ZD d ?_)
      rw[e,hd];show wpAny M A (if(["enumerate","zip","dict_itemiterator","dict_reverseitemiterator","odict_iterator","itertools.zip_longest","itertools.pairwise"].contains n&&vs[0]? ==cL (rawInt _))=QM then _ else _) Q E s;rw[a3 (by intro h;rw[hn,Wg]at h;cases h)];exact QW a))
def Pf(K:Bn)(a:QT):It:=
 ⟨λi H=>∃xs x,Uq K H a xs/\xs[i]?=cL x,λi H x b=>b=H/\∀xs,Uq K H a xs->xs[i]?=cL x,λi H=>∃xs,Uq K H a xs/\xs.length<=i⟩
def Pl(K:Bn)(a:QT):It:=
 ⟨λi H=>∃xs x,UG K H a xs/\xs[i]?=cL x,λi H x b=>b=H/\∀xs,UG K H a xs->xs[i]?=cL x,λi H=>∃xs,UG K H a xs/\xs.length<=i⟩
def Oz(lo:Int)(n:Nat):It:=⟨λi _=>i<n,λi H x a=>a=H/\x=.int (lo+i),λi _=>n<=i⟩
theorem zJ{K:Bn}(a g:QT):Turn P w K tg (Pf K a) [g] g (λi h=>h.IsListIter g a i) where
 mem:=by simp
 obj:=λi h f b j=>by
  have e:b=g:=by simpa using j
  subst e;obtain⟨o,e,c,d⟩:=f;exact⟨o,e,λv z=>by rw[d]at z;cases z⟩
 keep:=λi h M f k=>f.at λo e=>k g (by simp) o e
 item:=by intro X y r A L i l s O H E I n f t;subst y r A;obtain⟨xs,x,m,q⟩:=t;obtain⟨RG,rv,p,S⟩:=I.list m;obtain⟨u,U,R⟩:=rv.get q;obtain⟨J,G,Y,F,C,B⟩:=n g (by simp);refine wpAny_pyNext_list_item f p.isList (by simpa using U) λM N Q=>?_;have I1:=I.turned (t':=s.toks) (λb o j e=>(Q.2 b j).trans e) J G F C B;obtain⟨o,e,c,d⟩:=id N;exact⟨u,rfl,xl e c d (by decide) ⟨x,H,I1,R,⟨rfl,λys T=>by rw[I.Yz T m];exact q⟩,N,λb j=>(n b j).1⟩⟩
 done:=by intro X y r A L i l s O H E I n f t;subst y r A;obtain⟨xs,m,q⟩:=t;obtain⟨RG,rv,p,S⟩:=I.list m;obtain⟨J,G,Y,F,C,B⟩:=n g (by simp);have hl:=rv.length;exact wpAny_pyNext_list_end (I.ok.hd L) f p.isList (by simp;ext) λM Z=>⟨rfl,I.turned (λb o j e=>Z b o j e) J G F C B⟩
 self:=λ_ _ _ _ _ f h=>wpAny_pyIter_listiter f h
theorem v5{K:Bn}(a g:QT):Turn P w K tg (Pl K a) [g] g (λi h=>h.IsTupleIter g a i) where
 mem:=by simp
 obj:=λi h f b j=>by
  have e:b=g:=by simpa using j
  subst e;obtain⟨o,e,c,d⟩:=f;exact⟨o,e,λv z=>by rw[d]at z;cases z⟩
 keep:=λi h N f k=>f.at λo e=>k g (by simp) o e
 item:=by intro X y r A M i l s Q H E I n f t;subst y r A;obtain⟨xs,x,m,q⟩:=t;obtain⟨L,rv,p,T⟩:=I.tuple m;obtain⟨u,Y,S⟩:=rv.get q;obtain⟨J,G,Z,F,C,B⟩:=n g (by simp);refine wpAny_pyNext_tuple_item f (show s.heap.IsTuple a L.toArray from p) (by simpa using Y) λN O R=>?_;have I1:=I.turned (t':=s.toks) (λb o j e=>(R.2 b j).trans e) J G F C B;obtain⟨o,e,c,d⟩:=id O;exact⟨u,rfl,xl e c d (by decide) ⟨x,H,I1,S,⟨rfl,λys U=>by rw[I.XW U m];exact q⟩,O,λb j=>(n b j).1⟩⟩
 done:=by intro X y r A M i l s Q H E I n f t;subst y r A;obtain⟨xs,m,q⟩:=t;obtain⟨L,rv,p,T⟩:=I.tuple m;obtain⟨J,G,Z,F,C,B⟩:=n g (by simp);have hl:=rv.length;exact wpAny_pyNext_tuple_end (I.ok.hd M) f (show s.heap.IsTuple a L.toArray from p) (by simp;ext) λN eb=>⟨rfl,I.turned (λb o j e=>eb b o j e) J G F C B⟩
 self:=λ_ _ _ _ _ f h=>wpAny_pyIter_tupleiter f h
theorem wT{K:Bn}(f:QT)(lo:Int)(n:Nat):Turn P w K tg (Oz lo n) [f] f (λi h=>IsRangeIter h f (lo+(i:Nat)*1) ((n:Int) - (i:Nat)) 1) where
 mem:=by simp
 obj:=λi h a b g=>by
  have e:b=f:=by simpa using g
  subst e;exact⟨_,a,λv z=>by have L:=z;cases L⟩
 keep:=λi h u a k=>k f (by simp) _ a
 item:=by intro X q l r p i d s G H E I j a m;subst q l r;obtain⟨F,C,Q,B,A,y⟩:=j f (by simp);have W:=Walks.range (prog:=X.prog) (w:=X.w) (I.ok.hd p) f lo 1 n;refine W.item i s _ _ m a λv u M O J N=>?_;obtain⟨t,rfl⟩:=O;have S:Inv X d G H {s with heap:=u,toks:=M}:=I.turned (λb o g e=>N b o (by simpa using g) e) F C B A y;refine⟨_,rfl,xl J rfl rfl (by decide) ⟨.int (lo+i),H,S,⟨t,?_⟩,⟨rfl,rfl⟩,J,λb g=>(j b g).1⟩⟩;rw[Int.mul_one]
 done:=by intro X q l r p i d s G H E I j a m;subst q l r;obtain⟨F,C,Q,B,A,y⟩:=j f (by simp);exact wpAny_pyNext_range_end (I.ok.hd p) a (by have:n<=i:=m;ext) λu R=>⟨rfl,I.turned (λb o g e=>R b o g e) F C B A y⟩
 self:=λ_ _ _ _ _ a h=>wpAny_pyIter_rangeiter a h
section
variable{X:Cx}{tg:Q9}
theorem Dt{a:bb (QT×Obj)}{d:St}{H:Hp}{s:QS}{R:It->Hp->Prop}{E:QN->QS->Prop}{lo hi:Int}{t u v:Tok}{f:Nat}(I:Inv X a d H s)(m: -(2^62)<=lo)(l:lo<2^62)(j: -(2^62)<=hi)(i:hi<2^62)
  (q:R (Oz lo (hi - lo).toNat) H):wpAny (model X.prog X.w) X.A (pyIter (.ref s.heap.objs.size)) (PR X a d tg R) E {s with heap:=s.heap.push {cls:=.type "range",data:=.fields #[.int lo t,.int hi u,.int 1 v]},toks:=f}:=by
 refine wpAny_pyIter_range (IsRange.new ..) (small_one m l j i) ?_;have g:Inv X a d H {s with heap:=s.heap.push {cls:=.type "range",data:=.fields #[.int lo t,.int hi u,.int 1 v]},toks:=f}:=I.kept λb o e=>b3 _ e;refine⟨(s.heap.push {cls:=.type "range",data:=.fields #[.int lo t,.int hi u,.int 1 v]}).objs.size,[(s.heap.push {cls:=.type "range",data:=.fields #[.int lo t,.int hi u,.int 1 v]}).objs.size],_,_,H,rfl,
  g.kept (t':=f) λb o e=>b3 _ e,wT _ lo (hi - lo).toNat,?_,λb h=>?_,q⟩
 .have e1:lo+((0:Nat):Int)*1=lo:=by simp
  have e2:(((hi - lo).toNat:Nat):Int) - ((0:Nat):Int)=RD.Range.rangeSize lo hi 1:=by rw[rangeSize_one];split<;>ext
  show IsRangeIter _ _ (lo+((0:Nat):Int)*1) ((((hi - lo).toNat:Nat):Int) - ((0:Nat):Int)) 1;rw[e1,e2];exact b5 _ rfl
 .have e:b=(s.heap.push {cls:=.type "range",data:=.fields #[.int lo t,.int hi u,.int 1 v]}).objs.size:=by simpa using h
  subst e;exact g.Xq (QV _) (g.Sk.fresh (QV _))
def Ig(ta:TA):TI:=λa H R=>ta a H λvs b=>∃j:Int,vs=[.int j]/\ -(2^62)<=j/\j<2^62/\R (Oz 0 j.toNat) b
theorem yX(n:Gl X "range")(hm:X.mg "range"=lD)(ha:PA X [a] ta)(m:Rg [a] X.env=[(QP,eval a X.env)]:=by rfl):PI X tg (.Call (.Name "range" p) [a] [] pos) (Ig ta):=by
 intro b s f H R I h;refine Call_ (my I n hm boot_range (TX (cF (ha pos b s f H _ I h) λu v ⟨vs,w,o,i,d⟩=>?_) m rfl));obtain⟨j,e,d,l,q⟩:=d;subst e;cases i with
 |cons r g=>cases g;obtain⟨t,rfl⟩:=r;exact call_range_1 (Dt o (by ext) (by ext) d l (by simpa using q))
def He(d:TI)(g:TG)(tb:TS):TS:=λD a H=>d a H λJ f=>∃W:Nat->Nat->St->Hp->Prop,(∃m,W 0 m a f)/\∀i m a H,W i m a H->
 (J.stop i H/\D.nx a H)\/(J.go i H/\∃N:St->Hp->Prop,(∀σ' H',N σ' H'->∃m',m'<m/\W (i+1) m' σ' H')/\∀x H',J.yld i H x H'->g x a H' λb e=>tb {D with nx:=N,ct:=N,bk:=D.nx} b e)
def pR(fp:bb QT)(h:Heap):bb (QT×Obj):=fp.filterMap λb=>(h.get? b).map λo=>(b,o)
theorem i9(a:b∈fp)(e:h.get? b=cL o):(b,o)∈pR fp h:=S6.mpr ⟨b,a,by rw[e];rfl⟩
theorem zg(a:p∈pR fp h):p.1∈fp/\h.get? p.1=cL p.2:=by
 obtain⟨b,d,e⟩:=S6.mp a;cases q:h.get? b with
 |none=>rw[q]at e;cases e
 |some o=>rw[q]at e;have f:=Ra e;subst f;exact⟨d,q⟩
theorem Inv.pinned(I:Inv X pins σ H s)(i:∀b∈fp,mI X pins H b)(h:∀b∈fp,∃o,s.heap.get? b=cL o/\∀v,o.data≠.cell v):Inv X (pins++pR fp s.heap) σ H s:=
 I.XF λp g=>(R9.mp g).elim (λz=>I.pin p (RM _ z)) λz=>by obtain⟨a,e⟩:=zg z;obtain⟨m,l,j,_⟩:=i p.1 a;obtain⟨o,f,d⟩:=h p.1 a;rw[e]at f;cases f;exact⟨e,m,l,j,d⟩
theorem Inv.Vq(I:Inv X (pins++pl) σ H s):Inv X pins σ H s:=I.XF λp a=>I.pin p (RM _ (Xt _ a))
theorem Lq(K:aaN (model X.prog X.w) X.A X.env X.xe)(hc:X.calm=QM)(hi:PI X tg iter wi)(hg:PG X tg g)(p:WO X body tb)
  (hs:∀x,foldedSetIterable iter X.env x=pure x:=by intro _;rfl):PS X (.For tg iter body [] pos) (He wi g tb):=by
 intro j s σ H D I h;refine wpAny_For (cF (hi j s σ H _ I h) λv s1 h1=>cF h1 λitv s2 h2=>?_) hs;obtain⟨it,M,tn,J,H2,e,I2,T,Q,f2,W,⟨m0,w0⟩,turn⟩:=h2;subst e;have Y:∀{z:Hp},(∀b∈M,z b=lD)->∀b∈M,mI X j z b:=λhn b p=>⟨hn b p,(f2 b p).2⟩;refine codeAny_forLoop_any (λn s'=>∃i σ' z,Inv X j σ' z s'/\tn i s'.heap/\(∀b∈M,z b=lD)/\W i n σ' z) ?_ m0 ⟨0,σ,H2,I2,Q,λb p=>(f2 b p).1,w0⟩;rintro n s3 ⟨i,l,O,I3,F,L,w3⟩;rcases turn i n l O w3 with⟨E,qn⟩|⟨go,N,hN,step⟩
 .refine Uk K (cF (T.done X rfl rfl rfl hc i j s3 l O X.xe I3 (Y L) F E) λr s4 ⟨S,I4⟩=>?_);subst S;exact WX ⟨l,O,I4,qn⟩
 .refine Uk K (cF (T.item X rfl rfl rfl hc i j s3 l O X.xe I3 (Y L) F go) λr s4 ⟨u,S,h4⟩=>?_)
  subst S;refine Uk K (cF h4 λ_ s5 ⟨x,H5,I5,r5,y5,C,U⟩=>?_);have Z:=I5.pinned (Y U) (T.obj _ _ C);refine Uk K (cF (hg _ s5 l H5 x u _ Z r5 (step x H5 y5)) λ_ s6 ⟨P,H6,I6,q6⟩=>?_);refine Uk K (cF (p _ s6 P H6 _ I6 q6) λf R B=>?_);have q:∀{a:St} {y:Hp},Inv X (j++pR M s5.heap) a y R->N a y->∃m,m<n/\∃i σ' z,Inv X j σ' z R/\tn i R.heap/\(∀b∈M,z b=lD)/\W i m σ' z:=λ{a y} t G=>by obtain⟨m',hm,w7⟩:=hN a y G;refine⟨m',hm,i+1,a,y,t.Vq,T.keep _ _ _ C λb p o e=>(t.pin (b,o) (RM _ (RM _ (i9 p e)))).1,λb p=>?_,w7⟩;obtain⟨o,e,d⟩:=T.obj _ _ C b p;exact(t.pin (b,o) (RM _ (RM _ (i9 p e)))).2.1
  cases f with
  |next=>obtain⟨a,y,t,G⟩:=B;exact q t G
  |cont=>obtain⟨a,y,t,G⟩:=B;exact q t G
  |brk=>obtain⟨a,y,t,B⟩:=B;exact⟨a,y,t.Vq,B⟩
  |ret v=>obtain⟨x7,a,y,t,r7,B⟩:=B;exact⟨x7,a,y,t.Vq,r7,B⟩
end
abbrev R2:=V->V->Hp->VK->Prop
def OpR(X:Cx)(f:QN->QN->Sem QN)(r:R2):Prop:=
 ∀(a:bb (QT×Obj)) (s:QS) (b:St) (H:Hp) (x y:V) (v u:QN) (Q:VK),Inv X a b H s->RelV x v->RelV y u->r x y H Q->
  wpAny (model X.prog X.w) X.A (f v u) (EP X a b Q) X.xe s
def S3(X:Cx)(f:QN)(r:bb V->Hp->VK->Prop):Prop:=
 ∀(a:bb (QT×Obj)) (s:QS) (b:St) (H:Hp) (xs:bb V) (d:bb QN) (Q:VK),Inv X a b H s->Vals xs d->r xs H Q->
  wpAny (model X.prog X.w) X.A (call f d) (EP X a b Q) X.xe s
def Eh(r:R2)(ta tb:TE):TE:=λa H Q=>ta a H λx d=>tb a d λy b=>r x y b Q
def rI(C:Int->Int->Prop)(g:Int->Int->V):R2:=λx y H Q=>∃i j,x=.int i/\y=.int j/\C i j/\Q (g i j) H
def tR(g:Int->Int->V):R2:=λx y H Q=>∃i j,x=.int i/\y=.int j/\Q (g i j) H
section
variable{X:Cx}{a b c:Q9}{Y Z tc:TE}{pos:Pos}
theorem JH(ha:PE X a Y)(m:PE X b Z){R:V->V->Hp->Prop}(I:Inv X pins σ H s)
  (h:Y σ H λx H1=>Z σ H1 λy H2=>R x y H2) {f:QN->QN->Sem QN}
  (l:∀v u s2 x y H2,Inv X pins σ H2 s2->RelV x v->RelV y u->R x y H2->wpAny (model X.prog X.w) X.A (f v u) Q X.xe s2):
  wpAny (model X.prog X.w) X.A (eval a X.env) (λv s₁=>wpAny (model X.prog X.w) X.A (eval b X.env) (λu s₂=>wpAny (model X.prog X.w) X.A (f v u) Q X.xe s₂) X.xe s₁) X.xe s:=by
 refine cF (ha pins s σ H _ I h) λv d ⟨x,H1,o,g,j⟩=>?_;refine cF (m pins d σ H1 _ o j) λu s2 ⟨y,H2,n,e,i⟩=>?_;exact l v u s2 x y H2 n g e i
theorem MK(j:OpR X (SG op) r)(ha:PE X a Y)(l:PE X b Z):PE X (.BinOp a op b pos) (Eh r Y Z):=by intro d s e H Q I h;exact wpAny_BinOp (JH ha l I h λv u f x y n m i g q=>j d f e n x y v u Q m i g q)
theorem NF{g:Int->Int->Int}
  (d:∀(i j:Int) (t u:Tok) (s:QS) (Q:QN->QS->Prop) (E:QN->QS->Prop),C i j->Q (.int (g i j) s.toks) {s with toks:=s.toks+1}->wpAny (model X.prog X.w) X.A (f (.int i t) (.int j u)) Q E s):
  OpR X f (rI C λi j=>.int (g i j)):=by
 intro e s p H x y v u Q I n m h;obtain⟨i,j,rfl,rfl,o,q⟩:=h;obtain⟨t,rfl⟩:=n;obtain⟨l,rfl⟩:=m;exact d i j t l s _ _ o ⟨.int (g i j),H,I.tok _,⟨_,rfl⟩,q⟩
theorem LP{g:Int->Int->Int}
  (d:∀(i j:Int) (t u:Tok) (s:QS) (Q:QN->QS->Prop) (E:QN->QS->Prop),Q (.int (g i j) s.toks) {s with toks:=s.toks+1}->wpAny (model X.prog X.w) X.A (f (.int i t) (.int j u)) Q E s):
  OpR X f (tR λi j=>.int (g i j)):=by
 intro e s o H x y v u Q I n m h;obtain⟨i,j,rfl,rfl,q⟩:=h;obtain⟨t,rfl⟩:=n;obtain⟨l,rfl⟩:=m;exact d i j t l s _ _ ⟨.int (g i j),H,I.tok _,⟨_,rfl⟩,q⟩
theorem GI{g:Int->Int->Bool}
  (d:∀(i j:Int) (t u:Tok) (s:QS) (Q:QN->QS->Prop) (E:QN->QS->Prop),Q (.bool (g i j)) s->wpAny (model X.prog X.w) X.A (f (.int i t) (.int j u)) Q E s):
  OpR X f (tR λi j=>.bl (g i j)):=by
 intro e s o H x y v u Q I n m h;obtain⟨i,j,rfl,rfl,q⟩:=h;obtain⟨t,rfl⟩:=n;obtain⟨l,rfl⟩:=m;exact d i j t l s _ _ ⟨.bl (g i j),H,I,rfl,q⟩
def JG(i j:Int):Prop:=0<=j/\j<=1000000/\i.natAbs<2^64
def Y8(i j:Int):Prop:=(-(2^64)<i/\i<2^64)\/(-(2^64)<j/\j<2^64)
theorem Y8.ok(h:Y8 i j):IntMulOk i j:=by
 rcases h with⟨e,d⟩|⟨e,d⟩
 .exact .of_left (aeq e d)
 .exact .of_right (aeq e d)
theorem two_pow_nn(k:Nat):(0:Int)<=2^k:=by rw[two_pow_cast];exact Int.natCast_nonneg _
theorem KH:OpR X (SG .Add) (tR λi j=>.int (i+j)):=LP λ_ _ _ _ _ _ _ q=>add_int q
theorem Kv:OpR X (SG .Sub) (tR λi j=>.int (i - j)):=LP λ_ _ _ _ _ _ _ q=>sub_int q
theorem K8:OpR X (SG .Mult) (rI Y8 λi j=>.int (i*j)):=NF λ_ _ _ _ _ _ _ d q=>mul_int q d.ok
theorem Kr:OpR X (SG .Mod) (rI (λ_ j=>0<j) λi j=>.int (i % j)):=NF λi j _ _ _ _ _ d q=>by have e:(0:Int)<j:=d;exact mod_int' (by ext) (by rw[Int.fmod_eq_emod_of_nonneg i (by ext)];exact q)
theorem Js:OpR X (SG .Pow) (rI JG λi j=>.int (i^j.toNat)):=NF λ_ _ _ _ _ _ _ d q=>pow_int_small d.1 d.2.1 d.2.2 q
theorem JQ:OpR X (SG .RShift) (rI (λ_ j=>0<=j) λi j=>.int (i/2^j.toNat)):=NF λi j _ _ _ _ _ d q=>
 rshift_int d (by rw[Wn i (two_pow_nn _)];exact q)
theorem IZ:OpR X (SG .BitAnd) (tR λi j=>.int (RD.bitAnd i j)):=LP λ_ _ _ _ _ _ _ q=>and_int q
end
section
variable{X:Cx}{a b c:Q9}{Y Z U:TE}{pos:Pos}
theorem Cs(I:Inv X pins σ H s)(q:Q (.bl k) H)(e:k=k'):EP X pins σ Q (.bool k') s:=by subst e;exact⟨.bl k,H,I,rfl,q⟩
theorem NO:OpR X (Si .Lt) (tR λi j=>.bl (decide (i<j))):=GI λ_ _ _ _ _ _ _ q=>lt_int q
theorem MM:OpR X (Si .LtE) (tR λi j=>.bl (decide (i<=j))):=GI λ_ _ _ _ _ _ _ q=>le_int q
theorem NJ:OpR X (Si .Gt) (tR λi j=>.bl (decide (j<i))):=GI λ_ _ _ _ _ _ _ q=>gt_int q
theorem NC:OpR X (Si .GtE) (tR λi j=>.bl (decide (j<=i))):=GI λ_ _ _ _ _ _ _ q=>ge_int q
theorem Lr:OpR X (Si .Is) (λx y H Q=>y=.TF/\Q (.bl (decide (x=.TF))) H):=by
 intro e s g H x y v u Q I d f h;obtain⟨rfl,q⟩:=h;cases f;refine is_none_gen (Cs I q ?_);cases x<;>first
  |(cases d;rfl)
  |(obtain⟨t,rfl⟩:=d;rfl)
theorem Eu:OpR X (Si .IsNot) (λx y H Q=>y=.TF/\Q (.bl (!decide (x=.TF))) H):=by
 intro e s g H x y v u Q I d f h;obtain⟨rfl,q⟩:=h;cases f;refine isnot_none_gen (Cs I q ?_);cases x<;>first
  |(cases d;rfl)
  |(obtain⟨t,rfl⟩:=d;rfl)
theorem E2{op:X0}{r:R2}(j:OpR X (Si op) r)(ha:PE X a Y)(l:PE X b Z)(hm:behindInMarks op b=QP):PE X (.Compare a [op] [b] pos) (Eh r Y Z):=by intro d s e H Q I h;exact acx (JH ha l I h λv u f x y n m i g q=>j d f e n x y v u Q m i g q) hm
def qV(t:TE):TT:=λd H Q=>t d H λx e=>∃k,x=.bl k/\Q k e
theorem Ek(q:OpR X (Si op) r)(ha:PE X a Y)(t:PE X b Z)(hm:behindInMarks op b=QP):PT X (.Compare a [op] [b] pos) (qV (Eh r Y Z)):=by
 intro d s f H Q I h;refine YM (cF (ha d s f H _ I h) λv i ⟨x,F,B,m,p⟩=>cF (t d i f F _ B p) λu g ⟨y,E,A,l,o⟩=>
  cF (q d g f E x y v u _ A m l o) λc G ⟨z,C,w,j,k,e,n⟩=>?_) hm
 subst e;cases j;exact R8 ⟨C,w,n⟩
def vV(r g:R2)(Y Z U:TE):TE:=λd H Q=>Y d H λx j=>Z d j λy i=>r x y i λz e=>∃k,z=.bl k/\
 (if k=QM then U d e λf h=>g y f h Q else Q (.bl QP) e)
theorem Dv(J:OpR X (Si op) r)(M:OpR X (Si op') r')(ha:PE X a Y)(L:PE X b Z)(K:PE X c U)
  (hm:lastMarks [op,op'] [b,c]=QP:=by with_unfolding_all rfl):PE X (.Compare a [op,op'] [b,c] pos) (vV r r' Y Z U):=by
 intro f s g H Q I h;refine Compare_chain (cF (ha f s g H _ I h) λv w ⟨x,T,P,C,G⟩=>chain_link (cF (L f w g T _ P G) λu t ⟨y,S,O,i,F⟩=>
  cF (J f t g S x y v u _ O C i F) λd q ⟨z,m,l,B,k,e,j⟩=>?_)) hm
 subst e;cases B;refine R8 ?_;cases k with
 |false=>exact ite_ff ⟨.bl QP,m,l,rfl,j⟩
 |true=>exact ite_tt (chain_last (cF (K f q g m _ l j) λo p ⟨n,R,N,A,E⟩=>M f p g R y n u o Q N i A E))
theorem CV(M:OpR X (Si op) r)(R:OpR X (Si op') r')(ha:PE X a Y)(O:PE X b Z)(N:PE X c U)
  (hm:lastMarks [op,op'] [b,c]=QP:=by with_unfolding_all rfl):PT X (.Compare a [op,op'] [b,c] pos) (qV (vV r r' Y Z U)):=by
 intro f s g H Q I h;refine isTrue_chain (cF (ha f s g H _ I h) λv w ⟨x,H1,I1,E,K⟩=>test_link (cF (O f w g H1 _ I1 K) λu t ⟨y,H2,I2,i,J⟩=>
  cF (M f t g H2 x y v u _ I2 E i J) λd q ⟨z,m,l,C,k,e,j⟩=>?_)) hm
 subst e;cases C;refine R8 ?_;cases k with
 |false=>obtain⟨k',P,L⟩:=j;cases P;exact ite_ff ⟨m,l,L⟩
 |true=>refine ite_tt (test_last (cF (N f q g m _ l j) λo p ⟨n,H4,T,B,G⟩=>cF (R f p g H4 y n u o _ T i B G) λd' s5 ⟨z2,H5,S,A,k2,e2,F⟩=>?_));subst e2;cases A;exact R8 ⟨H5,S,F⟩
theorem tL:(Q3:Nat)<2^63:=by rw[T9];decide
theorem hG(r:Vals [x] us):∃u,us=[u]/\RelV x u:=by
 cases r with
 |cons e d=>cases d;exact⟨_,rfl,e⟩
theorem BN(r:Vals [x,y] us):∃u w',us=[u,w']/\RelV x u/\RelV y w':=by
 cases r with
 |cons g f=>
  cases f with
  |cons e d=>cases d;exact⟨_,_,rfl,g,e⟩
theorem zx(f:X.calm=QM):S3 X (.builtin "max") (λxs H Q=>∃i j,xs=[.int i,.int j]/\Q (.int (if j>i then j else i)) H):=by
 intro e s g H xs m Q I r h;obtain⟨i,j,rfl,q⟩:=h;obtain⟨u,l,rfl,⟨t,rfl⟩,⟨o,rfl⟩⟩:=BN r;refine max_two_ints (I.ok.hd f) λp n k=>⟨_,H,I.kept k,?_,q⟩;by_cases d:j>i
 .rw[ax d,ax d];exact⟨_,rfl⟩
 .rw[a3 d,a3 d];exact⟨_,rfl⟩
theorem zM:S3 X (.type "int") (λxs H Q=>(∃i,xs=[.int i]/\Q (.int i) H)\/∃k,xs=[.bl k]/\Q (.int (if k then 1 else 0)) H):=by
 intro d s f H xs g Q I r h;rcases h with⟨i,rfl,q⟩|⟨k,rfl,q⟩
 .obtain⟨u,rfl,t,rfl⟩:=hG r;exact call_int_int ⟨.int i,H,I,⟨_,rfl⟩,q⟩
 .obtain⟨u,rfl,e⟩:=hG r;cases e;exact call_int_bool ⟨.int (if k then 1 else 0),H,I.tok _,⟨_,rfl⟩,q⟩
def ND(K:Bn)(x:V)(H:Hp)(n:Nat):Prop:=
 match x with
 |.str y=>y.length<=Q3/\n=y.length
 |.byt y=>y.size<=Q3/\n=y.size
 |.ref p=>(∃xs,Uq K H p xs/\n=xs.length)\/∃xs,UG K H p xs/\n=xs.length
 |_=>False
theorem Bc:S3 X (.builtin "len") (λxs H Q=>∃x n,xs=[x]/\ND X.K x H n/\Q (.int n) H):=by
 intro l s w H xs z Q I r h;obtain⟨x,n,rfl,e,q⟩:=h;obtain⟨u,rfl,g⟩:=hG r;have B:=tL;have A:=T9;cases x with
 |str y=>obtain⟨t,rfl⟩:=g;obtain⟨o,f⟩:=e;subst f;exact len_str (by ext) ⟨.int _,H,I.tok _,⟨_,rfl⟩,q⟩
 |byt y=>obtain⟨t,rfl⟩:=g;obtain⟨o,f⟩:=e;subst f;exact PySem.W.len_bytes (by ext) ⟨.int _,H,I.tok _,⟨_,rfl⟩,q⟩
 |ref p=>
  cases g;have f:=e;rcases f with⟨xs,j,f⟩|⟨xs,j,f⟩
  .subst f;obtain⟨v,i,pl,m⟩:=I.list j;have d:=i.length;exact Calls.call_len_list pl.isList (by simp only[Q4];ext) ⟨.int xs.length,H,I.tok _,⟨_,by simp only[Q4];rw[d]⟩,q⟩
  .subst f;obtain⟨v,i,pl,m⟩:=I.tuple j;have d:=i.length;exact len_tuple pl (by simp only[Q4];ext) ⟨.int xs.length,H,I.tok _,⟨_,by simp only[Q4];rw[d]⟩,q⟩
 |_=>exact(show False from e).elim
end
structure Xo(h:Heap)(x dx C:QT)(mA:Str->bg QN):Prop where
 obj:h.get? x=cL (SI C dx)
 ns:h.Ns1 dx mA
 ne:dx≠x
theorem yW{h:Heap}(n:h.Ns1 dx mA):∃od,h.get? dx=cL od/\∀name,UT name od=cL (mA name):=by
 obtain⟨o,es,l,f,i,g,_,hm⟩:=n;refine⟨o,f,λname=>?_⟩;have e:=hm name;unfold nsFind findBy at e;rw[<-Array.find?_toList]at e;unfold UT;rw[i];dsimp only;split
 .rename_i y q;rw[q]at e;exact d5 cL e
 .rename_i q
  rw[q]at e;have a:es.toList.any (·.refKey)=QP:=by rw[List.any_eq_false];intro y d;obtain⟨z,t,b⟩:=g y (Array.mem_toList_iff.mp d);simp[U9.refKey,b]
  have j:¬es.toList.any (·.refKey)=QM:=by rw[a];exact Rh
  rw[a3 j];exact d5 cL e
theorem Xo.look(I:Xo h x dx C mA):∃od,PySem.W.InstAt h x (SI C dx) C (cL od)/\∀name,UT name od=cL (mA name):=
 let⟨od,ho,hl⟩:=yW I.ns
 ⟨od,⟨I.obj,rfl,rfl,ho⟩,hl⟩
section
variable{prog:Rb}{w:Rr}{A:Rt}{E:QN->QS->Prop}{s:QS}{K:Bn}{x dx C f:QT}{Z:Str->bg QN}{name:Str}{v:QN}
theorem HC(X:K.In s.heap)(I:Xo s.heap x dx C Z)(g:TN K C name=QM)(e:Ug K C=QM)
  (ha:RN K (.ref C) name=cL lD) (b:Z name=cL v) (a:XG v=QM) (h:Q v {s with toks:=s.toks+1}):
  wpAny (model prog w) A (getAttr (.ref x) name expr) Q E s:=by
 obtain⟨i,J,d⟩:=I.look;exact PySem.W.get_value X J (Va g).1 (PySem.W.findObj_own e ha rfl (by rw[d,b])) a h
theorem AR(X:K.In s.heap)(I:Xo s.heap x dx C Z)(a:TN K C name=QM)
  (i:RN K (.ref C) name=cL (cL (.ref f))) (e:Vn K (.ref f)=QM) (d:Z name=lD) (h:Q (.ref f,[.ref x]) s):
  wpAny (model prog w) A (getMethod (.ref x) name pl) Q E s:=by
 obtain⟨b,J,g⟩:=I.look;exact PySem.W.method_fn X J (Va a).1 (Va a).2 i (beq_iff_eq.mp e) (by show(UT name b).map (·.isSome)=cL QP;rw[g,d];rfl) h
theorem E7(X:K.In s.heap)(I:Xo s.heap x dx C Z)
  (n:RN K (.ref C) "__setattr__"=cL (cL (.builtin "object.__setattr__"))) (o:Vo K C=QM) (m:VH K C name=cL lD) (p:Ug K C=QM)
  (l:WW Z ns) (hsz:ns.length<=Q3)
  (h:∀h',Xo h' x dx C (λy=>if y=name then cL v else Z y)->Heap.SameBut dx s.heap h'->Q () {s with heap:=h',toks:=s.toks+2}):
  wpAny (model prog w) A (setAttr (.ref x) name v) Q E s:=by
 obtain⟨z,J,F⟩:=I.look;refine PySem.W.set_plain X J n (PySem.W.osa_open X J o m λb=>?_);obtain⟨G,q,u⟩:=PySem.W.any_some p;have j:=I.obj;refine Ld (QW (Ld (Ld (wpAny_loadPart j (Ld (aaO (PySem.W.looks_clsIn X q) ?_))))));rw[u];refine QW (Ld (QW (Ld ?_)));refine wpAny_nsSet1 I.ns λh' a i=>?_;obtain⟨B,r,t,d,e,g⟩:=a.count (abI name v l);refine Ld (wpAny_lookBehind d (by rw[e];exact pastItsLine_dict (Rp g (by rw[QZ];ext))) ?_);exact QW (h _ ⟨(i.2 _ (dt I.ne)).trans I.obj,a,I.ne⟩ i)
theorem DT{R:Xf->QS->Prop}{vs:bb QN}{b:bb (Str×QN)}(X:K.In s.heap)(hm:VI K C=QM)
  (hi:RN K (.ref C) "__init__"=cL (cL (.ref f))) (e:PySem.W.typeIn K (.ref f)=cL (.type "function"))
  (h:codeAny (model prog w) (A.under (.builtin "type.__call__" ⟨.ref C::vs,b⟩)) (.call (.ref f) ⟨.ref (s.heap.objs.size+1)::vs,b⟩) (PySem.W.InitBack (s.heap.objs.size+1) R)
   {s with heap:=(s.heap.push Sh).push (SI C s.heap.objs.size)}):
  codeAny (model prog w) A (.call (.ref C) ⟨vs,b⟩) R s:=by
 obtain⟨j,g,d,t,i⟩:=s;exact PySem.W.make_core (PySem.W.makes_of X hm) (PySem.W.looks_findIn X hi) (λa=>PySem.W.bind_fn X a e) (.inl rfl) h
end
def iY(f:Str)(v:V):bb (Str×V)->bb (Str×V)
 |[]=>[(f,v)]
 |(g,x)::r=>if g=f then(g,v)::r else(g,x)::iY f v r
theorem ni(f g:Str)(v:V):∀fs:bb (Str×V),(iY f v fs).lookup g=if g=f then cL v else fs.lookup g
 |[]=>by
  show Tx g [(f,v)]=_;by_cases h:g=f
  .have a:=beq_iff_eq.mpr h;simp only[Tx,a,ax h]
  .have a:=beq_eq_false_iff_ne.mpr h;simp only[Tx,a,a3 h]
 |(k,x)::r=>by
  have d:=ni f g v r;rw[show iY f v ((k,x)::r)=(if k=f then(k,v)::r else(k,x)::iY f v r)from rfl];by_cases b:k=f
  .rw[ax b]
   by_cases h:g=k
   .have a:=beq_iff_eq.mpr h;simp only[Tx,a,ax (h.trans b)]
   .have a:=beq_eq_false_iff_ne.mpr h;simp only[Tx,a,a3 (λe:g=f=>h (e.trans b.symm))]
  .rw[a3 b]
   by_cases h:g=k
   .have a:=beq_iff_eq.mpr h;simp only[Tx,a,a3 (λe:g=f=>b (h.symm.trans e))]
   .have a:=beq_eq_false_iff_ne.mpr h;simp only[Tx,a];exact d
theorem me(f:Str)(v:V):∀fs:bb (Str×V),f∈(iY f v fs).map (·.1)/\∀g,g∈fs.map (·.1)->g∈(iY f v fs).map (·.1)
 |[]=>⟨by simp[iY],λg h=>by simp at h⟩
 |(k,x)::r=>by
  obtain⟨d,b⟩:=me f v r;rw[show iY f v ((k,x)::r)=(if k=f then(k,v)::r else(k,x)::iY f v r)from rfl];by_cases a:k=f
  .rw[ax a];subst a;exact⟨by simp,λg h=>by simpa using h⟩
  .rw[a3 a]
   refine⟨?_,λg h=>?_⟩
   .rw[Q7];exact Q0 _ d
   .rw[Q7]at h⊢
    rcases Rm.mp h with e|e
    .exact Rm.mpr (.inl e)
    .exact Q0 _ (b g e)
theorem mZ(f:Str)(v:V):∀fs:bb (Str×V),(iY f v fs).length<=fs.length+1
 |[]=>by simp[iY]
 |(k,x)::r=>by
  have b:=mZ f v r;rw[show iY f v ((k,x)::r)=(if k=f then(k,v)::r else(k,x)::iY f v r)from rfl];by_cases a:k=f
  .rw[ax a,QZ,QZ];ext
  .rw[a3 a,QZ,QZ];ext
theorem U3.some_of(r:U3 (cL v) o):∃u,o=cL u/\RelV v u:=by
 cases o with
 |none=>exact(show False from r).elim
 |some u=>exact⟨u,rfl,r⟩
theorem U3.none_of(r:U3 lD o):o=lD:=by
 cases o with
 |none=>rfl
 |some u=>exact(show False from r).elim
theorem zS(r:RelV v u):XG u=QM:=by
 cases v with
 |TF=>cases(show u=QN.none from r);rfl
 |bl b=>cases(show u=QN.bool b from r);rfl
 |int i=>obtain⟨t,e⟩:=(show∃t,u=QN.int i t from r);cases e;rfl
 |str x=>obtain⟨t,e⟩:=(show∃t,u=QN.str x t from r);cases e;rfl
 |byt b=>obtain⟨t,e⟩:=(show∃t,u=QN.bytes b t from r);cases e;rfl
 |flt b=>obtain⟨t,e⟩:=(show∃t,u=QN.float b t from r);cases e;rfl
 |ref a=>cases(show u=QN.ref a from r);rfl
 |ty n=>cases(show u=QN.type n from r);rfl
section
variable{P:Rb}{w:Rr}{H H':Hp}{h h':Heap}{a C dx:QT}{fs fs':bb (Str×V)}
theorem sV(Sk:Vb P w H h)(e:H a=cL (.ins C dx fs)):∃mA,Xo h a dx C mA/\(∀f,U3 (fs.lookup f) (mA f))/\WW mA (fs.map (·.1))/\fs.length<=1000/\H dx=cL (.own a):=by obtain⟨d,z,ne,b,mA,n,r,q⟩:=(show ObjOk P w H h a (.ins C dx fs)from Sk a _ e);exact⟨mA,⟨b,n,ne⟩,r,q,z,d⟩
end
structure XN(K:Bn)(C:QT):Prop where
 pg:TN K C Str.empty=QM
 hd:Ug K C=QM
 po:Vo K C=QM
 sa:RN K (.ref C) "__setattr__"=cL (cL (.builtin "object.__setattr__"))
theorem XN.get{K:Bn}(c:XN K C)(f:Str):TN K C f=QM:=c.pg
def U4(K:Bn)(C:QT)(f:Str):Prop:=RN K (.ref C) f=cL lD
theorem U4.aa2{K:Bn}(n:U4 K C f):VH K C f=cL lD:=by unfold VH;rw[show RN K (.ref C) f=cL lD from n];rfl
structure Con(K:Bn)(C:QT)(f:Str)(v:V)(u:QN):Prop where
 at_:RN K (.ref C) f=cL (cL u)
 rel:RelV v u
 get:Xu K u "__get__"=cL lD
 cp:PySem.W.copiedNames.contains f=QP
structure Meth(K:Bn)(C:QT)(m:Str)(f:QT):Prop where
 at_:RN K (.ref C) m=cL (cL (.ref f))
 fn:Vn K (.ref f)=QM
 kp:SU K (.ref f)=QM
section
variable{X:Cx}{Z:bb (QT×Obj)}{Y:St}{H:Hp}{s:QS}{a C dx:QT}{fs:bb (Str×V)}{f:Str}{v:V}{A:Rt}{E:QN->QS->Prop}
theorem vL(I:Inv X Z Y H s)(e:H a=cL (.ins C dx fs))(c:XN X.K C)(n:U4 X.K C f)(l:fs.lookup f=cL v)
  (h:∀u s',Inv X Z Y H s'->RelV v u->Q u s'):wpAny (model X.prog X.w) A (getAttr (.ref a) f b) Q E s:=by
 obtain⟨i,O,r,_,_,_⟩:=sV I.Sk e;obtain⟨u,g,d⟩:=U3.some_of (by rw[<-l];exact r f);exact HC I.V5 O (c.get f) c.hd n g (zS d) (h u _ (I.tok _) d)
theorem pd(I:Inv X Z Y H s)(e:H a=cL (.ins C dx fs))(c:XN X.K C)(k:Meth X.K C m g)(l:fs.lookup m=lD)
  (h:Q (.ref g,[.ref a]) s):wpAny (model X.prog X.w) A (getMethod (.ref a) m pl) Q E s:=by
 obtain⟨b,O,r,_,_,_⟩:=sV I.Sk e;have hn:=U3.none_of (by rw[<-l];exact r m);exact AR I.V5 O (c.get m) k.at_ k.fn hn h
theorem wF(I:Inv X Z Y H s)(e:H a=cL (.ins C dx fs))(c:XN X.K C)(n:U4 X.K C f)(L:fs.length<1000)(p:RelV y u)
  (h:∀s',Inv X Z Y (bf H a (.ins C dx (iY f y fs))) s'->Q () s'):wpAny (model X.prog X.w) A (setAttr (.ref a) f u) Q E s:=by
 obtain⟨j,O,r,i,_,l⟩:=sV I.Sk e;have t:(fs.map (·.1)).length<=Q3:=by rw[QQ,T9];ext
 refine E7 I.V5 O c.sa c.po n.aa2 c.hd i t λJ d m=>h _ ?_;have F:∃o,J.get? dx=cL o:=let⟨o,_,_,e',_⟩:=d.ns;⟨o,e'⟩
 refine I.write (by rw[e];exact True.intro) (.inr l) (λb q G z=>(m.2 b G).trans z) F ?_;refine⟨by rw[aJ O.ne];exact l,?_,O.ne,d.obj,_,d.ns,λg=>?_,λg B=>?_⟩
 .have:=mZ f y fs;ext
 .show U3 ((iY f y fs).lookup g) (if g=f then cL u else j g)
  rw[ni];by_cases q:g=f
  .rw[ax q,ax q];exact p
  .rw[a3 q,a3 q];exact r g
 .by_cases q:g=f
  .rw[q];exact(me f y fs).1
  .refine(me f y fs).2 g (i g λz=>B ?_);show(if g=f then cL u else j g)=lD;rw[a3 q];exact z
theorem Inv.made(I:Inv X Z Y H s):Inv X Z Y (bf (bf H s.heap.objs.size (.own (s.heap.objs.size+1))) (s.heap.objs.size+1) (.ins C s.heap.objs.size []))
  {s with heap:=(s.heap.push Sh).push (SI C s.heap.objs.size)}:=by
 have e1:(s.heap.push Sh).get? s.heap.objs.size=cL Sh:=b5 s.heap rfl;have e2:((s.heap.push Sh).push (SI C s.heap.objs.size)).get? (s.heap.objs.size+1)=cL (SI C s.heap.objs.size):=by have:=b5 (s.heap.push Sh) (o:=SI C s.heap.objs.size) rfl;rwa [ck]at this
 have e3:(s.heap.push Sh).Ns s.heap.objs.size (λ_=>lD):=⟨Sh,#[],_,e1,rfl,(λe g=>a7 g (by simp)),λ_=>rfl⟩;have h:=I.laid (a:=s.heap.objs.size) (o:=.own (s.heap.objs.size+1)) (h':=s.heap.push Sh) (t':=s.toks) (λb u q=>b3 _ q) (QV _) ⟨_,e1⟩;refine h.laid (a:=s.heap.objs.size+1) (o:=.ins C s.heap.objs.size []) (t':=s.toks) (λb u q=>b3 _ q) (aaP (ck _ _)) ?_;have ne:s.heap.objs.size≠s.heap.objs.size+1:=Ri (UM _);refine⟨by rw[aJ ne,aE],Rz _,ne,e2,λ_=>lD,(Heap.Ns1.of_empty e3).at λo q=>b3 _ q,λ_=>True.intro,λy d=>a7 rfl d⟩
theorem Ew{prog:Rb}{w:Rr}{env:Env}{e:Q9}{f:Str}{pos:Pos}{s:QS}{Q:QN->QS->Prop}(b:attributeBase e f env (eval e env)=eval e env)
  (h:wpAny (model prog w) A (eval e env) (λo s₁=>wpAny (model prog w) A (getAttr o f QM) Q E s₁) E s):wpAny (model prog w) A (eval (.Attribute e f pos) env) Q E s:=
 Attribute_any_ h (by rw[arm_eval_Attribute,b])
end
def MR(K:Bn)(ta:TE)(f:Str):TE:=λd H Q=>ta d H λx b=>∃a C dx fs v,x=.ref a/\b a=cL (.ins C dx fs)/\XN K C/\U4 K C f/\fs.lookup f=cL v/\Q v b
def NX(K:Bn)(ta e:TE)(f:Str):TS:=λD b H=>e b H λy g=>ta b g λx d=>∃a C dx fs,x=.ref a/\d a=cL (.ins C dx fs)/\XN K C/\U4 K C f/\fs.length<1000/\
 D.nx b (bf d a (.ins C dx (iY f y fs)))
section
variable{X:Cx}{o e Z:Q9}{f:Str}{pos Y acO:Pos}{U tv:TE}
theorem Ji(j:PE X e U)(m:attributeBase e f X.env (eval e X.env)=eval e X.env):PE X (.Attribute e f pos) (MR X.K U f):=by intro b s d H Q I h;refine Ew m (cF (j b s d H _ I h) λu B ⟨x,y,w,g,a,C,dx,fs,v,p,r,c,n,l,q⟩=>?_);subst p;obtain rfl:=g;exact vL w r c n l λz A t i=>⟨v,y,t,i,q⟩
theorem Jm(ha:PE X o U)(p:PE X Z tv)(r:TV Z (cL (.Attribute o f Y)) pos.line X.env=pure QP):PS X (.Assign [.Attribute o f Y] Z pos) (NX X.K U tv f):=by intro b s d H D I h;refine plainObj_wpAny_Assign_Attribute (cF (p b s d H _ I h) λu g ⟨y,B,A,i,q⟩=>cF (ha b g d B _ A q) λG F ⟨x,J,z,j,a,C,dx,fs,t,v,c,n,l,m⟩=>?_) r;subst t;obtain rfl:=j;exact wF z v c n l i λE w=>⟨d,_,w,m⟩
end
section
variable{X:Cx}{pins:bb (QT×Obj)}{σ:St}{H:Hp}{s:QS}{A:Rt}{E:QN->QS->Prop}{Q:QN->QS->Prop}{c:QN}{b:Bool}
inductive V2(K:Bn)(H:Hp):V->QN->Prop where
 |TF:V2 K H .TF (.type "NoneType")
 |bl (x:Bool):V2 K H (.bl x) (.type "bool")
 |int (i:Int):V2 K H (.int i) (.type "int")
 |str (x:Str):V2 K H (.str x) (.type "str")
 |flt (x:UInt64):V2 K H (.flt x) (.type "float")
 |lst {a:QT} {xs:bb V} (e:H a=cL (.lst xs)):V2 K H (.ref a) (.type "list")
 |frz {a:QT} {o:Obj} {xs:bb V} (e:H a=cL (.frz o (.lst xs))):V2 K H (.ref a) (.type "list")
 |tup {a:QT} {xs:bb V} (e:H a=cL (.tup xs)):V2 K H (.ref a) (.type "tuple")
 |dK {a:QT} {kvs:bb (bK×V)} (e:H a=cL (.dK kvs)):V2 K H (.ref a) (.type "dict")
 |dT {a:QT} {kvs:bb (bb bK×V)} (e:H a=cL (.dT kvs)):V2 K H (.ref a) (.type "dict")
 |ins {a C dx:QT} {fs:bb (Str×V)} (e:H a=cL (.ins C dx fs)) (cl:XN K C) (ha:RN K (.ref C) "__class__"=cL (cL (.builtin "object.__class__")))
   (hn:Xu K (.builtin "object.__class__") "__get__"=cL (cL (.builtin "getset_descriptor.__get__"))) (htk:PySem.W.takesIn K (.builtin "object.__class__")=cL QM)
   (hm:PySem.W.mroIn K C (.type "object")=cL QM):V2 K H (.ref a) (.ref C)
end
structure SY(k:Nat)(A:Rt):Prop where
 hd:A.handled=lD
 dp:A.depth+3*k+5<recursionLimit
 un:A.units+16*k+200<cLine
theorem SY.mono(r:SY k A)(h:j<=k):SY j A:=⟨r.hd,by have:=r.dp;ext,by have:=r.un;ext⟩
theorem SY.deeper(r:SY (k+1) A)(env:Env):SY k (A.deeper env):=
 ⟨r.hd,by have:=r.dp;show A.depth+1+3*k+5<_;ext,by have:=r.un;show A.units+3+16*k+200<_;ext⟩
theorem wM{A:Rt}:(A.under (.builtin "type.__call__" ⟨.ref C::us,kw⟩)).depth=A.depth+1:=by
 first|rfl|simp[Rt.under,Ye.weight,Ye.isCreation,Ye.isGuard,Ye.isCaller,Ye.frames,Ye.isFrame,guardIds]
theorem wP{A:Rt}:(A.under (.builtin "type.__call__" ⟨.ref C::us,kw⟩)).units=A.units+1:=by
 first|rfl|simp[Rt.under,Ye.cUnits,Ye.frames,Ye.isFrame]
theorem SY.make(r:SY (k+1) A)(C:QT)(us:bb QN)(a:bb (Str×QN)):SY k (A.under (.builtin "type.__call__" ⟨.ref C::us,a⟩)):=
 ⟨r.hd,by have:=r.dp;rw[wM];ext,by have:=r.un;rw[wP];ext⟩
theorem SY.depth(r:SY k A):A.depth<recursionLimit:=by have:=r.dp;ext
theorem SY.units(r:SY k A):A.units+64<cLine:=by have:=r.un;ext
def kx:TA:=λ_ H Q=>Q [] H
def iC(ta:TE)(b:TA):TA:=λa H Q=>ta a H λx e=>b a e λxs d=>Q (x::xs) d
section
variable{X:Cx}{e:Q9}{es:bb Q9}{te:TE}{t:TA}{pos:Pos}
theorem pU:PA X [] kx:=λ_ _ _ _ H Q I h=>Calls.spliced_nil ⟨[],H,I,.nil,h⟩
theorem kj(ha:PE X e te)(m:PA X es t)(l:Rg (e::es) X.env=(QP,eval e X.env)::Rg es X.env:=by rfl):PA X (e::es) (iC te t):=by intro pos a s b H Q I h;rw[l];refine Calls.spliced_cons (cF (ha a s b H _ I h) λu d ⟨x,q,o,g,j⟩=>?_);exact cF (m pos a d b q _ o j) λr v ⟨xs,p,n,f,i⟩=>⟨x::xs,p,n,.cons g f,i⟩
def E8(t:TA):TE:=λb H Q=>t b H λxs a=>xs.length<=Q3/\∀p,a p=lD->Q (.ref p) (bf a p (.tup xs))
def LO(t:TA):TE:=λb H Q=>t b H λxs a=>xs.length<=Q3/\∀p,a p=lD->Q (.ref p) (bf a p (.lst xs))
theorem J0{x1}(h:PA X es t):PE X (.Tuple es x1 pos) (E8 t):=by intro a s g H Q I j;refine wpAny_Tuple_spliced (cF (h pos a s g H _ I j) λi d ⟨xs,m,f,r,z,q⟩=>⟨by rw[<-r.length];exact z,?_⟩);have l:=f.Sk.fresh (QV _);refine⟨.ref d.heap.objs.size,bf m d.heap.objs.size (.tup xs),f.laid (λb u e=>b3 _ e) (QV _) ?_,rfl,q _ l⟩;exact⟨z,i,r,⟨_,b5 _ rfl,⟨rfl,_,rfl⟩,rfl⟩⟩
theorem Lp(h:PA X es t):PE X (.List es pos) (LO t):=by intro a s g H Q I j;refine wpAny_List_spliced (cF (h pos a s g H _ I j) λi d ⟨xs,m,f,r,z,q⟩=>⟨by rw[<-r.length];exact z,?_⟩);have l:=f.Sk.fresh (QV _);refine⟨.ref d.heap.objs.size,bf m d.heap.objs.size (.lst xs),f.laid (λb u e=>b3 _ e) (QV _) ?_,rfl,q _ l⟩;exact⟨z,i,0,r,b5 _ rfl⟩
end
abbrev Sp:=bb V->Hp->VK->XK->Prop
abbrev tS:=bb Env->Hp->QS->XK->QN->QS->Prop
structure Env0(P:Rb)(w:Rr)(K:Bn)(mg:Str->bg QN)(base:Heap)(A:Rt)(outer:bb Env)(s:QS)(H:Hp):Prop where
 frames:A.frames=cL outer
 mod:Mod K mg base
 bs:∀b o,base.get? b=cL o->s.heap.get? b=cL o/\H b=lD
 YZ:base.objs.size<=s.heap.objs.size
 Vy:s.heap.FunFrames base outer
 Zw:∀b∈vT outer,H b=lD
 Sk:Vb P w H s.heap
 bare:AllBare s.gens
def CE(outer:bb Env)(P:Rb)(w:Rr)(H:Hp)(s:QS)(Q:VK)(u:QN)(a:QS):Prop:=
 ∃v H',a.os=s.os/\AllBare a.gens/\Un (vT outer) [] H H' s.heap a.heap/\Vb P w H' a.heap/\RelV v u/\Q v H'
def CR(b:tS)(outer:bb Env)(P:Rb)(w:Rr)(H:Hp)(s:QS)(Q:VK)(E:XK)(r:Xf)(a:QS):Prop:=
 match r with
 |.ok (.ret u)=>CE outer P w H s Q u a
 |.ok _=>False
 |.error e=>b outer H s E e a
structure FnOk(P:Rb)(w:Rr)(K:Bn)(mg:Str->bg QN)(base:Heap)(CX:tS)(k:Nat)(f:QT)(fd:Sl)(ps:bb Str)(sp:Sp):Prop where
 len:∀vs H Q E,sp vs H Q E->vs.length=ps.length
 run:∀(A:Rt) (outer:bb Env) (s:QS) (H:Hp) (args:Args) (us:bb QN) (vs:bb V) (Q:VK) (E:XK),SY k A->Env0 P w K mg base A outer s H->Vz s fd args (ps.zip us)->Vals vs us->sp vs H Q E->
  codeAny (model P w) A (.call (.ref f) args) (CR CX outer P w H s Q E) s
theorem FnOk.imp{P:Rb}{w:Rr}{K:Bn}{mg:Str->bg QN}{base:Heap}{e:tS}{k:Nat}{f:QT}{fd:Sl}{ps:bb Str}{sp b:Sp}(F:FnOk P w K mg base e k f fd ps sp)
  (h:∀vs H Q E,b vs H Q E->sp vs H Q E):FnOk P w K mg base e k f fd ps b:=
 ⟨λvs H Q E q=>F.len vs H Q E (h _ _ _ _ q),λA a s H d g vs Q E l m n i j=>F.run A a s H d g vs Q E l m n i (h _ _ _ _ j)⟩
theorem Env0.make{K:Bn}(e:Env0 P w K mg base A outer s H)(C:QT)(us:bb QN)(a:bb (Str×QN)):
  Env0 P w K mg base (A.under (.builtin "type.__call__" ⟨.ref C::us,a⟩)) outer s H:=⟨by first|exact e.frames|(simpa [Rt.under,Ye.envs,Ye.isFrame,pushEnvs]using e.frames),e.mod,e.bs,e.YZ,e.Vy,e.Zw,e.Sk,e.bare⟩
section
variable{X:Cx}{Z:bb (QT×Obj)}{Y:St}{H:Hp}{s U:QS}
theorem Inv.aa9(I:Inv X Z Y H s):Env0 X.prog X.w X.K X.mg X.base X.A X.stack s H:=
 ⟨I.ok.frames,I.ok.mod,I.bs,Rp I.ok.YZ I.sz,I.stack,I.WC,I.Sk,I.bare⟩
theorem Inv.after{Q:VK}{u:QN}(I:Inv X Z Y H s)(h:CE X.stack X.prog X.w H s Q u U):EP X Z Y Q u U:=by obtain⟨v,j,f,a,un,Sk,r,q⟩:=h;obtain⟨i,g,d,t,e⟩:=U;obtain rfl:e=s.os:=f;exact⟨v,j,I.call (h':=i) (g':=g) (d':=d) (t':=t) (ch:=[]) un Sk a (λb z=>a7 z (by simp)),r,q⟩
end
def rA(sp:Sp)(b:bb V)(E:XK)(t:TA):TE:=λa H Q=>t a H λvs d=>sp (vs++b) d Q E
def ye(C:QT)(m:Str)(sp:Sp)(e:bb V)(E:XK)(ta:TE)(t:TA):TE:=λb H Q=>ta b H λx d=>∃a dx fs,x=.ref a/\d a=cL (.ins C dx fs)/\fs.lookup m=lD/\
 t b d λvs f=>sp (x::(vs++e)) f Q E
def D8(C:QT)(sp:Sp)(d:bb V)(E:XK)(t:TA):TE:=λb H Q=>t b H λvs a=>∀x dx,a x=lD->a dx=lD->dx≠x->
 sp (.ref x::(vs++d)) (bf (bf a dx (.own x)) x (.ins C dx [])) (λv e=>v=.TF/\Q (.ref x) e) E
def Binds(K:Bn)(fd:Sl)(ps:bb Str)(ds:bb QN):Prop:=
 ∀(s:QS) (a:bb QN),K.In s.heap->(a++ds).length=ps.length->Vz s fd ⟨a,[]⟩ (ps.zip (a++ds))
theorem Binds.all{K:Bn}{fd:Sl}{ps:bb Str}(h:∀us:bb QN,us.length=ps.length->bindArgs fd ⟨us,[]⟩=pure (ps.zip us)):Binds K fd ps []:=λs us _ a=>by rw[Ru]at a⊢;exact .of_eq (h us a)
def eY(f:tS)(X:Cx)(E:XK):Prop:=∀(a:bb (QT×Obj)) (d:St) (H:Hp) (s:QS) (e:QN) (b:QS),Inv X a d H s->f X.stack H s E e b->X.xe e b
section
variable{X:Cx}{T:tS}{k:Nat}{f C:QT}{fd:Sl}{U:bb Str}{sp:Sp}{Y:bb V}{ds:bb QN}{E:XK}{x m:Str}{p pos Z:Pos}{e o:Q9}{es:bb Q9}{S:TE}{t:TA}
theorem wA{a:bb (QT×Obj)}{d:St}{H:Hp}{s:QS}{Q:VK}{us:bb QN}{vs:bb V}(F:FnOk X.prog X.w X.K X.mg X.base T k f fd U sp)(l:SY k X.A)(q:Binds X.K fd U ds)(hd:Vals Y ds)(j:eY T X E)
  (I:Inv X a d H s) (r:Vals vs us) (h:sp (vs++Y) H Q E):wpAny (model X.prog X.w) X.A (call (.ref f) us) (EP X a d Q) X.xe s:=by
 have g:Vals (vs++Y) (us++ds):=r.append hd;have n:(us++ds).length=U.length:=by rw[<-g.length];exact F.len _ _ _ _ h
 refine ZE (V6 (F.run X.A X.stack s H ⟨us,[]⟩ (us++ds) (vs++Y) Q E l I.aa9 (q s us I.V5 n) g h) λr i b=>?_);cases r with
 |error e=>exact j a d H s e i I b
 |ok v=>
  cases v with
  |ret u=>exact I.after b
  |next=>exact False.elim b
  |brk=>exact False.elim b
  |cont=>exact False.elim b
theorem Gb(F:FnOk X.prog X.w X.K X.mg X.base T k f fd U sp)(i:SY k X.A)(l:Gl X x)(hm:X.mg x=cL (.ref f))(j:SU X.K (.ref f)=QM)(u:Binds X.K fd U ds)(hd:Vals Y ds)(g:eY T X E)
  (ha:PA X (e::es) t) (v:(x==("__debug__":Str))=QP:=by decide) (n:Rg (e::es) X.env=(QP,eval e X.env)::Rg es X.env:=by rfl) (y:(backTo pos (Rg es X.env)).any (·.1)=QP:=by rfl):
  PE X (.Call (.Name x p) (e::es) [] pos) (rA sp Y E t):=by
 intro a s d H Q I h;refine TQ (rN I l hm ?_ v);refine Vg I.ok.mod.kin j (cF (ha pos a s d H _ I h) λz B ⟨vs,G,b,r,q⟩=>⟨b.V5,?_⟩) n y;exact wA F i u hd g b r q
theorem F5{pl:Sem Bool}(G:PE X o S)(c:XN X.K C)(hm:Meth X.K C m f)(F:FnOk X.prog X.w X.K X.mg X.base T k f fd U sp)(B:SY k X.A)(J:Binds X.K fd U ds)(hd:Vals Y ds)(y:eY T X E)(ha:PA X (e::es) t)
  (dW:Rg (e::es) X.env=(QP,eval e X.env)::Rg es X.env:=by rfl) (N:(backTo pos (Rg es X.env)).any (·.1)=QP:=by rfl)
  (z:eval (.Call (.Attribute o m Z) (e::es) [] pos) X.env=(do
   let ov<-eval o X.env
   standAt Z.atName
   let(f,first)<-holding [ov] (getMethod ov m pl)
   callWith pos f first (backTo pos (Rg (e::es) X.env)) (backToKw pos (keywordEach [] X.env))):=by rfl):
  PE X (.Call (.Attribute o m Z) (e::es) [] pos) (ye C m sp Y E S t):=by
 intro b s d H Q I h;refine WH (pl:=pl) (cF (G b s d H _ I h) λu j ⟨x,O,i,n,a,dx,fs,L,M,l,q⟩=>?_) z;subst L;obtain rfl:u=QN.ref a:=n;refine pd i M c hm l ?_;refine Vg (first:=[.ref a]) (h₀:=X.base) I.ok.mod.kin hm.kp (cF (ha pos b j d O _ i q) λus P ⟨vs,R,g,r,v⟩=>⟨g.V5,?_⟩) dW N;exact wA (us:=.ref a::us) (vs:=.ref a::vs) F B J hd y g (.cons rfl r) v
theorem Ef{pl:Sem Bool}(v:PE X o S)(c:XN X.K C)(hm:Meth X.K C m f)(F:FnOk X.prog X.w X.K X.mg X.base T k f fd U sp)(r:SY k X.A)(y:Binds X.K fd U ds)(hd:Vals Y ds)(j:eY T X E)
  (n:eval (.Call (.Attribute o m Z) [] [] pos) X.env=(do
   let ov<-eval o X.env
   standAt Z.atName
   let(f,first)<-holding [ov] (getMethod ov m pl)
   callWith pos f first (backTo pos (Rg [] X.env)) (backToKw pos (keywordEach [] X.env))):=by rfl):
  PE X (.Call (.Attribute o m Z) [] [] pos) (ye C m sp Y E S kx):=by
 intro b s g H Q I h;refine WH (pl:=pl) (cF (v b s g H _ I h) λu G ⟨x,J,d,i,a,dx,fs,z,B,l,q⟩=>?_) n;subst z;obtain rfl:u=QN.ref a:=i;refine pd d B c hm l ?_;exact PySem.W.callWith_K0 (first:=[.ref a]) d.V5 hm.kp (wA (us:=[.ref a]) (vs:=[.ref a]) F r y hd j d (.cons rfl .nil) q)
structure Mk(K:Bn)(C f:QT):Prop where
 makes:VI K C=QM
 init:RN K (.ref C) "__init__"=cL (cL (.ref f))
 fn:Vn K (.ref f)=QM
 kp:SU K (.ref C)=QM
theorem Cq(M:Mk X.K C f)(F:FnOk X.prog X.w X.K X.mg X.base T k f fd U sp)(n:SY (k+1) X.A)(y:Binds X.K fd U ds)(hd:Vals Y ds)
  (l:eY T X E) (I:Inv X pins σ H s) (r:Vals vs us)
  (h:∀x dx,H x=lD->H dx=lD->dx≠x->sp (.ref x::(vs++Y)) (bf (bf H dx (.own x)) x (.ins C dx [])) (λv H2=>v=.TF/\Q (.ref x) H2) E):
  wpAny (model X.prog X.w) X.A (call (.ref C) us) (EP X pins σ Q) X.xe s:=by
 have g:=h (s.heap.objs.size+1) s.heap.objs.size (I.Sk.fresh (Vh _)) (I.Sk.fresh (QV _)) (Ri (UM _));have b:=Inv.made (C:=C) I;have d:Vals (V.ref (s.heap.objs.size+1)::(vs++Y)) (QN.ref (s.heap.objs.size+1)::(us++ds)):=.cons rfl (r.append hd);have q:(QN.ref (s.heap.objs.size+1)::us++ds).length=U.length:=by have e:=d.length;rw[F.len _ _ _ _ g]at e;exact e.symm
 refine ZE (DT I.V5 M.makes M.init (beq_iff_eq.mp M.fn) (V6 (F.run _ X.stack _ _ ⟨QN.ref (s.heap.objs.size+1)::us,[]⟩ (QN.ref (s.heap.objs.size+1)::(us++ds)) _ _ E (n.make C us [])
  (b.aa9.make C us []) (y _ (QN.ref (s.heap.objs.size+1)::us) b.V5 q) d g) λr i a=>?_))
 cases r with
 |error e=>exact l pins σ _ _ e i b a
 |ok z=>
  cases z with
  |ret u=>obtain⟨v,G,B,rv,ev,j⟩:=b.after a;subst ev;exact⟨rv,⟨V.ref (s.heap.objs.size+1),G,B,rfl,j⟩⟩
  |next=>exact False.elim a
  |brk=>exact False.elim a
  |cont=>exact False.elim a
theorem Ey(M:Mk X.K C f)(F:FnOk X.prog X.w X.K X.mg X.base T k f fd U sp)(i:SY (k+1) X.A)(j:Gl X x)(hm:X.mg x=cL (.ref C))(n:Binds X.K fd U ds)(hd:Vals Y ds)(g:eY T X E)
  (ha:PA X (e::es) t) (u:(x==("__debug__":Str))=QP:=by decide) (l:Rg (e::es) X.env=(QP,eval e X.env)::Rg es X.env:=by rfl) (v:(backTo pos (Rg es X.env)).any (·.1)=QP:=by rfl):
  PE X (.Call (.Name x p) (e::es) [] pos) (D8 C sp Y E t):=by
 intro a s d H Q I h;refine TQ (rN I j hm ?_ u);refine Vg I.ok.mod.kin M.kp (cF (ha pos a s d H _ I h) λy z ⟨vs,B,b,r,q⟩=>⟨b.V5,?_⟩) l v;exact Cq M F i n hd g b r q
end
section
variable{X:Cx}{CX:tS}{k:Nat}{f C:QT}{fd:Sl}{Z ks:bb Str}{sp:Sp}{E:XK}{x m:Str}{p pos apos af1:Pos}{e o:Q9}{es:bb Q9}{kws:bb UO}{te ta:TE}{t tk:TA}{nm:bg Str}
structure adL(K:Bn)(fd:Sl)(Z ks:bb Str)(g:bb QN->bb QN->bb QN)(gV:bb V->bb V->bb V):Prop where
 to:∀(s:QS) (us ws:bb QN),K.In s.heap->(g us ws).length=Z.length->Vz s fd ⟨us,ks.zip ws⟩ (Z.zip (g us ws))
 rel:∀{vs:bb V} {us:bb QN} {zs:bb V} {ws:bb QN},Vals vs us->Vals zs ws->Vals (gV vs zs) (g us ws)
variable{g:bb QN->bb QN->bb QN}{gV:bb V->bb V->bb V}
end
structure TY(N P:bb Str)(sc:SR):Prop where
 kind:sc.kind=.function
 co:sc.isCoroutine=QP
 gen:sc.isGenerator=QP
 nd:N.Nodup
 pre:N.take P.length=P
 par:∀x∈P,sc.names.lookup x=cL .local\/sc.names.lookup x=cL .cell
 ZU:∀y∈sc.names,y.2≠.free
theorem rG{a:Str->bg Q8}:∀{binds:bb (Str×QN)} {m:Str->bg QN},(∀v,(x,v)∉binds)->bindL a binds m x=m x
 |[],_,_=>rfl
 |(n,v)::r,m,h=>by
  unfold bindL;rw[rG λw b=>h w (Q0 _ b)];split
  .have:x≠n:=by rintro rfl;exact h v Q2
   simp[this]
  .rfl
theorem qU{a:Str->bg Q8}:∀{binds:bb (Str×QN)} {m:Str->bg QN},(∀v,(x,v)∉binds)->bindC a binds m x=m x
 |[],_,_=>rfl
 |(n,v)::r,m,h=>by
  unfold bindC;rw[qU λw b=>h w (Q0 _ b)];split
  .rfl
  .have:x≠n:=by rintro rfl;exact h v Q2
   simp[this]
theorem rD{kindOf:Str->bg Q8}:∀{P:bb Str} {vs:bb QN} {i:Nat} {m:Str->bg QN},P.Nodup->P[i]?=cL x->vs[i]?=cL v->kindOf x=cL .local->
  bindL kindOf (P.zip vs) m x=cL v
 |[],_,_,_,_,h,_,_=>by simp at h
 |_::_,[],_,_,_,_,h,_=>by simp at h
 |p::P,w::vs,0,m,nd,h1,h2,hk=>by simp at h1 h2;subst h1;subst h2;show bindL kindOf ((p,w)::P.zip vs) m p=_;unfold bindL;rw[rG λv hv=>(Sw.mp nd).1 (T5 hv).1,ax hk];simp
 |p::P,w::vs,i+1,m,nd,h1,h2,hk=>by unfold bindL;exact rD (Sw.mp nd).2 (by simpa using h1) (by simpa using h2) hk
theorem rB{kindOf:Str->bg Q8}:∀{P:bb Str} {vs:bb QN} {i:Nat} {m:Str->bg QN},P.Nodup->P[i]?=cL x->vs[i]?=cL v->kindOf x≠cL .local->
  bindC kindOf (P.zip vs) m x=cL v
 |[],_,_,_,_,h,_,_=>by simp at h
 |_::_,[],_,_,_,_,h,_=>by simp at h
 |p::P,w::vs,0,m,nd,h1,h2,hk=>by simp at h1 h2;subst h1;subst h2;show bindC kindOf ((p,w)::P.zip vs) m p=_;unfold bindC;rw[qU λv hv=>(Sw.mp nd).1 (T5 hv).1,a3 hk];simp
 |p::P,w::vs,i+1,m,nd,h1,h2,hk=>by unfold bindC;exact rB (Sw.mp nd).2 (by simpa using h1) (by simpa using h2) hk
def start(N:bb Str)(vs:bb V):St:=vs.map cL++QX (N.length - vs.length) lD
def kr(h:tS)(P:Rb)(w:Rr)(K:Bn)(mg:Str->bg QN)(base:Heap)(N:bb Str)(b:Str)(a:SR)(f:QT)(g:QN)(A:Rt)(outer:bb Env)(s:QS)(H:Hp)(E:XK):Cx where
 prog:=P
 w:=w
 K:=K
 mg:=mg
 base:=base
 A:=A.deeper (envOfC b a s.heap.objs.size f g)
 N:=N
 s₀:=s
 H₀:=H
 env:=envOfC b a s.heap.objs.size f g
 outer:=outer
 stack:=envOfC b a s.heap.objs.size f g::outer
 ex:=[]
 calm:=QM
 fn:=λ_=>QM
 pn:=[]
 xe:=λe i=>wpAny (model P w) (A.deeper (envOfC b a s.heap.objs.size f g)) (leaving (envOfC b a s.heap.objs.size f g) e) (λ_ d=>h outer H s E e d) (λj d=>h outer H s E j d) i
theorem vg{sc:SR}(h:sc.names.lookup x=cL .cell):∃c,(SJ n sc.names []).lookup x=cL c:=by have q:=Tz sc.names n [] (.inl h);exact SN.mp q
theorem zv{K:Bn}
  (S:TY N ps scope) (hd:A.handled=lD) (e0:Env0 P w K mg base A outer s H) (C:vs.length=ps.length) (r:Vals vs us)
  (x:InCallC s s.heap.objs.size (bindL (envOfC qual scope s.heap.objs.size f cd).kindOf (ps.zip us) λ_=>lD) (SJ (s.heap.objs.size+1) scope.names []) (bindC (envOfC qual scope s.heap.objs.size f cd).kindOf (ps.zip us) λ_=>lD) s1):
  Inv (kr CX P w K mg base N qual scope f cd A outer s H E) [] (start N vs) H s1:=by
 have G:ps.length<=N.length:=by have:=d5 Vc S.pre;rw[Sf]at this;ext
 obtain⟨n,B,rfl,t⟩:=x.done;have g:∀b:QT,b∉(kr CX P w K mg base N qual scope f cd A outer s H E).ex:=λb z=>a7 (show b∈([]:bb QT)from z) (by simp);refine⟨⟨e0.mod,S.kind,rfl,rfl,QV _,λy z c n d=>?_,λy j=>?_,λy c _ h=>?_,λ_=>hd,Rt.frames_deeper e0.frames,.inr ⟨rfl,rfl⟩,λb z=>a7 z (g b),e0.bs,e0.YZ,λb _ _=>g b,λb z=>a7 z (g b),e0.Vy,e0.Zw⟩,
  rfl,e0.bare,Un.kept t,⟨_,x.toInCall.ns,λi y v n d F=>?_⟩,λy c h=>⟨_,x.cell y c h⟩,e0.Sk.fresh (QV _),λy c h=>?_,λp m=>a7 (show p∈([]:bb (QT×Obj))from m) (by simp),e0.Sk.kept t,?_⟩
 .exact name_of_addr x.apart (SD n) (SD d)
 .have j:=j
  rcases j with j|j
  .exact vg j
  .exact a7 rfl (S.ZU _ (SD j))
 .exact US (x.above y c (SD h))
 .have hi:i<vs.length:=by
   unfold start at d;by_cases hi:i<vs.length
   .exact hi
   .rw[Rq (by simpa using hi)]at d;rw[Su]at d;split at d<;>cases d
  have ha:vs[i]?=cL v:=by
   unfold start at d;rw[Ro (by simpa using hi),Q5]at d;cases e:vs[i]? with
   |none=>rw[e]at d;cases d
   |some a=>rw[e]at d;cases d;rfl
  obtain⟨u,o,rv⟩:=r.get ha;have m:ps[i]?=cL y:=by rw[<-S.pre,List.getElem?_take_of_lt (by ext)];exact n
  have l:ps.Nodup:=by rw[<-S.pre];exact S.nd.sublist (List.take_sublist _ _)
  refine⟨u,rv,?_⟩;rcases S.par y (RO m)with k|k
  .exact .inl ⟨k,rD l m o k⟩
  .obtain⟨c,e⟩:=vg k;refine .inr ⟨.inl k,c,e,?_⟩;have q:=x.cell y c e;rw[rB l m o (by show scope.names.lookup y≠_;rw[k];decide)]at q;exact q
 .exact e0.Sk.fresh (US (x.above y c (SD h)))
 .unfold start;show _=N.length;rw[Q1,QQ,RZ];ext
theorem MW{CX:tS}{P:Rb}{w:Rr}{K:Bn}{mg:Str->bg QN}{base:Heap}{k:Nat}{f:QT}{name qual:Str}{params:Arguments}{body:bb Tb}{scope:SR}{dV kV doc pm Ti ct oc:QN}{an od:bg QT}
  {Ym:Array (bg QN)} {N ps:bb Str} {sp:Sp} (lk:K.lookup f=cL ⟨oc,od,.func (Tf name qual params body scope dV kV doc pm an Ti ct),Ym⟩) (YX:UU K Ti qual=QM) (S:TY N ps scope)
  (len:∀vs H Q E,sp vs H Q E->vs.length=ps.length)
  (Uw:∀(A:Rt) (outer:bb Env) (s:QS) (H:Hp) (vs:bb V) (Q:VK) (E:XK),SY k (A.deeper (envOfC qual scope s.heap.objs.size f Ti))->sp vs H Q E->
   ∃t,WO (kr CX P w K mg base N qual scope f Ti A outer s H E) body t/\t {nx:=λ_ H'=>Q .TF H',rt:=Q} (start N vs) H):
  FnOk P w K mg base CX (k+1) f (Tf name qual params body scope dV kV doc pm an Ti ct) ps sp:=by
 refine⟨len,λA outer s H args us vs Q E hr e0 hb r hsp=>?_⟩;have hl:=len _ _ _ _ hsp;have KX:K.In s.heap:=e0.mod.kin.keeps λb o e=>(e0.bs b o e).1;have lim:s.heap.NoLimit:=e0.mod.nolimit.keeps λb o e=>(e0.bs b o e).1;have Uj:∀y∈ps.zip us,scope.names.lookup y.1=cL .local\/(scope.names.lookup y.1=cL .cell/\((SJ (s.heap.objs.size+1) scope.names []).lookup y.1).isSome=QM):=λ⟨n,v⟩ hy=>by
  rcases S.par n (T5 hy).1 with q|q
  .exact .inl q
  .exact .inr ⟨q,Tz _ _ _ (.inl q)⟩
 refine codeAny_call_function hr.depth (KX _ _ lk) rfl S.co S.gen rfl (PySem.W.codeRec_of KX YX) (hb _ _ _ _ ?_);refine wpAny_newFunctionEnv_cells S.kind Uj λenv he s1 x=>?_;subst he;refine⟨lim.keeps x.toInCall.keep,codeAny_func ?_⟩;obtain⟨t,ht,hq⟩:=Uw A outer s H vs Q E (hr.deeper _) hsp;have I:Inv (kr CX P w K mg base N qual scope f Ti A outer s H E) [] (start N vs) H s1:=zv S hr.hd e0 hl r x;refine wpAny_mono (ht [] s1 (start N vs) H _ I hq) (λfl s' hs=>?_) λe s' hs=>hs
 have fin:∀{σ':St} {H':Hp} {v:V} {u:QN},Inv (kr CX P w K mg base N qual scope f Ti A outer s H E) [] σ' H' s'->RelV v u->Q v H'->CE outer P w H s Q u s':=
  λ{σ' H' v u} J rv q=>⟨v,H',J.os,J.bare,J.base,J.Sk,rv,q⟩
 cases fl with
 |ret u=>obtain⟨v,σ',H',J,rv,q⟩:=hs;exact fin J rv q
 |next=>obtain⟨σ',H',J,q⟩:=hs;exact fin (v:=V.TF) (u:=QN.none) J rfl q
 |brk=>obtain⟨_,_,_,q⟩:=hs;exact False.elim q
 |cont=>obtain⟨_,_,_,q⟩:=hs;exact False.elim q
section
variable{X:Cx}{x:Str}{p pos:Pos}{e:Q9}{es:bb Q9}{t:TA}{id T:String}{r:bb V->Hp->VK->Prop}
def zY(r:bb V->Hp->VK->Prop)(t:TA):TE:=λa H Q=>t a H λvs b=>r vs b Q
theorem C1(n:S3 X (.builtin id) r)(l:Gl X x)(hm:X.mg x=lD)(j:Ry x=cL (.builtin id))(ha:PA X (e::es) t)(hn:x≠ "__name__":=by decide)(o:(x==("__debug__":Str))=QP:=by decide)
  (m:Rg (e::es) X.env=(QP,eval e X.env)::Rg es X.env:=by rfl) (q:(backTo pos (Rg es X.env)).any (·.1)=QP:=by rfl):PE X (.Call (.Name x p) (e::es) [] pos) (zY r t):=by
 intro a s b H Q I h;refine TQ (my I l hm j ?_ hn o);exact abJ (cF (ha pos a s b H _ I h) λd f ⟨vs,v,u,g,i⟩=>n a f b v vs d Q u g i) m q
theorem y6(n:S3 X (.type T) r)(l:Gl X x)(hm:X.mg x=lD)(j:Ry x=cL (.type T))(ha:PA X (e::es) t)(hn:x≠ "__name__":=by decide)(o:(x==("__debug__":Str))=QP:=by decide)
  (m:Rg (e::es) X.env=(QP,eval e X.env)::Rg es X.env:=by rfl) (q:(backTo pos (Rg es X.env)).any (·.1)=QP:=by rfl):PE X (.Call (.Name x p) (e::es) [] pos) (zY r t):=by
 intro a s b H Q I h;refine TQ (my I l hm j ?_ hn o);exact TX (cF (ha pos a s b H _ I h) λd f ⟨vs,v,u,g,i⟩=>n a f b v vs d Q u g i) m q
end
end L2
namespace HT
open PySem PyProof.Rows
section
open PySem.SeqAt
open PySem.AutoSeq1 (wpAny_loadPart')
open PySem.MeetsSeq PySem.MeetsSeq2 PySem.MeetsSeq3
end
section
variable{prog:Rb}{w:Rr}{A:Rt}{E:QN->QS->Prop}{s:QS}
theorem cat_tup{t b:QT}{vs ws:bb QN}{Q:QN->QS->Prop}(u:IsTup s.heap t vs.toArray)(v:IsTup s.heap b ws.toArray)(o:vs≠[])
  (z:ws=[]->Q (.ref t) s) (y:ws≠[]->Q (.ref s.heap.objs.size) {s with heap:=s.heap.push {cls:=.type "tuple",data:=.seq (vs++ws).toArray}})
  (hsz:vs.length+ws.length<=Q3):wpAny (model prog w) A (SG .Add (.ref t) (.ref b)) Q E s:=by
 obtain⟨⟨cls,dd,data,l⟩,i,q,n,p⟩:=id u;obtain⟨⟨B,g,j,r⟩,a,f,m,d⟩:=id v;simp only at q p f d;subst q p f d;have e:vs.toArray++ws.toArray=(vs++ws).toArray:=by simp
 by_cases h:ws=[]
 .exact concat_meets ⟨_,i,rfl⟩ ⟨_,a,rfl⟩ aaQ aer Wo Wh (V7 _ _)
   (tuple_addW1 t b vs.toArray ws.toArray n m dd g l r (by simpa using o) (by simp[h])) ⟨i,a,z h⟩
 .refine concat_meets ⟨_,i,rfl⟩ ⟨_,a,rfl⟩ aaQ aer Wo Wh (V7 _ _)
   (tuple_addW2 t b vs.toArray ws.toArray n m dd g l r (by simpa using o) (by simpa using h) (by rw[Q4,Q4];exact hsz)) ⟨i,a,?_⟩
  rw[e];exact y h
def sIx(n d:Nat):bg Int->Nat
 |none=>d
 |some v=>if v<0 then(v+(n:Int)).toNat else min v.toNat n
theorem JX(n d:Nat)(hd:d<=n)(o:bg Int):sIx n d o<=n:=by
 cases o with
 |none=>exact hd
 |some v=>
  show(if v<0 then(v+(n:Int)).toNat else min v.toNat n)<=n;by_cases a:v<0
  .rw[ax a];ext
  .rw[a3 a];exact VW _ _
theorem yn(v:Int)(n d:Nat):(if v<0 then max (v+(n:Int)) 0 else min v (n:Int))=((sIx n d (cL v):Nat):Int):=by
 show(if v<0 then max (v+(n:Int)) 0 else min v (n:Int))=(((if v<0 then(v+(n:Int)).toNat else min v.toNat n):Nat):Int);by_cases a:v<0
 .simp only[ax a];ext
 .simp only[a3 a];ext
theorem wm(lo hi:bg Int)(n:Nat):RD.Slice.sliceAdjust lo hi 1 (n:Int)=(((sIx n 0 lo:Nat):Int),((sIx n n hi:Nat):Int)):=by
 have a:¬((1:Int)<0):=by ext
 unfold RD.Slice.sliceAdjust;simp only[a,if_false];refine Prod.ext ?_ ?_
 .cases lo with
  |none=>rfl
  |some v=>exact yn v n 0
 .cases hi with
  |none=>rfl
  |some v=>exact yn v n n
theorem vX(i j:Nat):RD.Slice.slicePlaces (i:Int) (j:Int) 1=j - i:=by
 unfold RD.Slice.slicePlaces;have a:(1:Int)>0:=by ext
 simp only[a,if_true,Int.ediv_one];split<;>ext
theorem n9(p:Wr v o)(h:Q o s):wpAny (model prog w) A (RD.Slice.slicePartIndex v) Q E s:=by
 cases p with
 |none=>exact slicePart_none h
 |int i t=>exact slicePart_int h
theorem mL{lo hi:bg Int}{Q:Int×Int×Nat->QS->Prop}(e:s.heap.IsSliceOf sl vl vu .none)(pl:Wr vl lo)(d:Wr vu hi)
  (h:Q (((sIx n 0 lo:Nat):Int),1,sIx n n hi - sIx n 0 lo) s):wpAny (model prog w) A (RD.Slice.sliceApplied (.ref sl) (pure (n:Int))) Q E s:=by
 obtain⟨g,a,f,b⟩:=id e;unfold RD.Slice.sliceApplied RD.Slice.sliceFields;refine Ld (Ld (RQ a b rfl (Ld (RQ a b rfl (Ld (RQ a b rfl (QW ?_)))))));refine Ld (slicePart_none ?_);rw[a3 (by decide)];refine Ld (n9 pl (Ld (n9 d (Ld (QW ?_)))));show wpAny _ _ (match RD.Slice.sliceAdjust lo hi 1 (n:Int)with|(lo,hi)=>pure (lo,(1:Int),RD.Slice.slicePlaces lo hi 1)) _ _ s;rw[wm lo hi n];show wpAny _ _ (pure (((sIx n 0 lo:Nat):Int),(1:Int),RD.Slice.slicePlaces ((sIx n 0 lo:Nat):Int) ((sIx n n hi:Nat):Int) 1)) _ _ s;rw[vX];exact QW h
theorem De(xs:Array QN)(i k:Nat):((Rc k).filterMap λ(m:Nat)=>xs[((i:Int)+(m:Int)*1).toNat]?).toArray=((xs.toList.drop i).take k).toArray:=by
 have e:(λ(m:Nat)=>xs[((i:Int)+(m:Int)*1).toNat]?)=λm=>xs[i+m]? :=by
  funext m;have:((i:Int)+(m:Int)*1).toNat=i+m:=by ext
  rw[this]
 rw[e];have:=pick_run xs i k;rw[List.filterMap_map]at this;have e2:((λx=>xs[x]?)∘λx=>i+x)=λm=>xs[i+m]? :=rfl;rw[e2]at this;rw[this]
theorem getItem_tuple_cut{lo hi:bg Int}(a:IsTup s.heap t items)(i:s.heap.IsSliceOf sl vl vu .none)(pl:Wr vl lo)(j:Wr vu hi)
  (m:¬(sIx items.size 0 lo=0/\sIx items.size items.size hi=items.size))
  (h:Q (.ref s.heap.objs.size) {s with heap:=s.heap.push {cls:=.type "tuple",data:=.seq ((items.toList.drop (sIx items.size 0 lo)).take (sIx items.size items.size hi - sIx items.size 0 lo)).toArray}})
  (hsz:items.size<=Q3):wpAny (model prog w) A (getItem (.ref t) (.ref sl)) Q E s:=by
 have b:sizeOk (.seq ((items.toList.drop (sIx items.size 0 lo)).take (sIx items.size items.size hi - sIx items.size 0 lo)).toArray):=by show((items.toList.drop (sIx items.size 0 lo)).take (sIx items.size items.size hi - sIx items.size 0 lo)).toArray.size<=Q3;rw[Q4,Sf,VR,RL];ext
 have r:sIx items.size items.size hi<=items.size:=JX _ _ (QV _) hi;obtain⟨l,d,f,n⟩:=id i;have g:s.TypeIs (.ref sl) "slice":=⟨l,d,f⟩;unfold getItem
 try specialize TH ?_
 first|refine Ld (QW ?_)|skip
 refine Ld (wpAny_sequenceKey a.typeIs (by decide) ?_);refine Ld (S8 a.typeIs Ts
  (S9 Ts a.typeIs entry_tuple_getitem ?_ (args_tuple_getitem _ _)))
 show wpAny _ _ (RD.Tuple.tupleItemsOf (.ref t)>>=_) _ _ s;refine Ld (tupleItemsOf_ a ?_);refine Ld (Yf g ?_);rw[ax (by decide)];refine Ld (mL i pl j ?_);have e:¬((((sIx items.size 0 lo:Nat):Int)==0&&(1:Int)==1&&(sIx items.size items.size hi - sIx items.size 0 lo)==items.size)=QM):=by intro q;rw[CL,CL]at q;have p:=eq_of_beq q.1.1;have o:=eq_of_beq q.2;exact m ⟨by ext,by ext⟩
 show wpAny _ _ (if(((sIx items.size 0 lo:Nat):Int)==0&&(1:Int)==1&&(sIx items.size items.size hi - sIx items.size 0 lo)==items.size)=QM then _ else _) _ _ s;rw[a3 e,De]
 first
  |exact Ld (Sb (QW ⟨_,rfl,QW h⟩) b)
  |exact Ld (Sb (Ld (QW (QW ⟨_,rfl,QW h⟩))) b)
  |exact Ld (Ld (Sb (QW (QW ⟨_,rfl,QW h⟩)) b))
  |exact Ld (Ld (Sb (QW ⟨_,rfl,QW h⟩) b))
end
end HT
namespace L2
open PySem PySem.Spec PyProof.Rows
abbrev TO:=St->Hp->(bg Int->Hp->Prop)->Prop
def PO(X:Cx)(e:bg Q9)(t:TO):Prop:=
 ∀(a:bb (QT×Obj)) (s:QS) (b:St) (H:Hp) (Q:bg Int->Hp->Prop),Inv X a b H s->t b H Q->
  wpAny (model X.prog X.w) X.A (evalPart e X.env) (λu d=>∃o H',Inv X a b H' d/\Wr u o/\Q o H') X.xe s
def HN(t:TE):TO:=λa H Q=>t a H λx b=>∃i,x=.int i/\Q (cL i) b
theorem ju:∀{us:bb QN},Vals (ns.map V.int) us->IntsAre us ns:=by
 induction ns with
 |nil=>intro us r;rw[S7]at r;cases r;exact .nil
 |cons n ns d=>
  intro us r;rw[Q7]at r;cases r with
  |cons b a=>obtain⟨t,e⟩:=b;subst e;exact .cons n t (d a)
section
variable{X:Cx}{e:Q9}{U:TE}{Z Y:bg Q9}{S R:TO}{pos P:Pos}
theorem GG(h:PE X e U):PO X (cL e) (HN U):=by intro a s b H Q I g;rw[evalPart_some];refine cF (h a s b H _ I g) λu m ⟨x,l,j,d,f⟩=>?_;obtain⟨i,rfl,q⟩:=f;obtain⟨t,rfl⟩:=d;exact⟨cL i,l,j,.int i t,q⟩
def Ob(X:Cx)(r:V->bg Int->bg Int->Hp->VK->Prop):Prop:=
 ∀(a:bb (QT×Obj)) (s:QS) (b:St) (H:Hp) (x:V) (v f d:QN) (Z Y:bg Int) (g:QT) (Q:VK),Inv X a b H s->RelV x v->s.heap.IsSliceOf g f d .none->Wr f Z->Wr d Y->r x Z Y H Q->
  ∃T id,typeLookup (.type T) "__getitem__"=pure (cL (.builtin id))/\s.TypeIs v T/\wpAny (model X.prog X.w) X.A (getItem v (.ref g)) (EP X a b Q) X.xe s
def Ps(r:V->bg Int->bg Int->Hp->VK->Prop)(U:TE)(S R:TO):TE:=λa H Q=>U a H λx f=>S a f λl d=>R a d λu b=>r x l u b Q
theorem B3{r:V->bg Int->bg Int->Hp->VK->Prop}(E:Ob X r)(J:PE X e U)(F:PO X Z S)(B:PO X Y R):PE X (.Subscript e (.Slice Z Y lD P) pos) (Ps r U S R):=by intro a s f H Q I h;refine Subscript_ (cF (J a s f H _ I h) λv n ⟨x,H1,O,o,y⟩=>?_);refine wpAny_Slice (cF (F a n f H1 _ O y) λi m ⟨l,H2,N,pl,t⟩=>cF (B a m f H2 _ N t) λg d ⟨u,j,M,z,p⟩=>?_);rw[evalPart_none];refine QW ?_;have L:Inv X a f j {d with heap:=d.heap.push {cls:=.type "slice",data:=.fields #[i,g,.none]}}:=M.kept (t':=d.toks) λb ob q=>b3 _ q;obtain⟨T,id,K,C,G⟩:=E a {d with heap:=d.heap.push {cls:=.type "slice",data:=.fields #[i,g,.none]}} f j x v i g l u d.heap.objs.size Q L o (Heap.IsSliceOf.new ..) pl z p;show wpAny (model X.prog X.w) X.A (subscriptTail e (.Slice Z Y lD P) v (.ref d.heap.objs.size)) (EP X a f Q) X.xe {d with heap:=d.heap.push {cls:=.type "slice",data:=.fields #[i,g,.none]}};exact tail_any (ops:=[.ref d.heap.objs.size,v]) C K G (by with_unfolding_all rfl)
def zd(xs:bb V)(Z Y:bg Int):bb V:=(xs.drop (HT.sIx xs.length 0 Z)).take (HT.sIx xs.length xs.length Y - HT.sIx xs.length 0 Z)
theorem ng(xs:bb V)(Z Y:bg Int):(zd xs Z Y).length<=xs.length:=by unfold zd;rw[Sf,VR];ext
def Mw(K:Bn):V->bg Int->bg Int->Hp->VK->Prop:=λx Z Y H Q=>∃a xs,x=.ref a/\UG K H a xs/\
 ¬(HT.sIx xs.length 0 Z=0/\HT.sIx xs.length xs.length Y=xs.length)/\∀p,H p=lD->Q (.ref p) (bf H p (.tup (zd xs Z Y)))
theorem JJ:Ob X (Mw X.K):=by
 intro f s t H x v w u Z Y y Q I j o pl l h;obtain⟨a,xs,rfl,m,n,q⟩:=h;cases j;obtain⟨p,r,i,g⟩:=I.tuple m;have d:p.toArray.size=xs.length:=by rw[Q4];exact r.length.symm
 refine⟨"tuple",_,Ts.lookup,i.typeIs,?_⟩;refine HT.getItem_tuple_cut i o pl l (by rw[d];exact n) ?_ (by rw[d];exact g);rw[d];refine⟨.ref s.heap.objs.size,_,I.laid (λb z q=>b3 _ q) (QV _) ?_,rfl,q _ (I.Sk.fresh (QV _))⟩;exact⟨Rp (ng xs Z Y) g,_,(r.drop (HT.sIx xs.length 0 Z)).take (HT.sIx xs.length xs.length Y - HT.sIx xs.length 0 Z),VN.new _ _⟩
def IC(K:Bn):R2:=λx y H Q=>∃a b xs ys,x=.ref a/\y=.ref b/\UG K H a xs/\UG K H b ys/\xs≠[]/\xs.length+ys.length<=Q3/\
 (ys=[]->Q (.ref a) H)/\(ys≠[]->∀p,H p=lD->Q (.ref p) (bf H p (.tup (xs++ys))))
theorem Vals.Wy(r:Vals xs us):us=[]↔xs=[]:=by
 cases r with
 |nil=>simp
 |cons _ _=>simp
theorem E6:OpR X (SG .Add) (IC X.K):=by intro g s t H x y v u Q I l j h;obtain⟨a,b,xs,A,rfl,rfl,ha,r,p,i,n,m⟩:=h;cases l;cases j;obtain⟨E,f,o,_⟩:=I.tuple ha;obtain⟨C,d,P,_⟩:=I.tuple r;refine HT.cat_tup o P (λz=>p (f.Wy.mp z)) (λz=>⟨.ref a,H,I,rfl,n (d.Wy.mp z)⟩) (λz=>?_) (by rw[<-f.length,<-d.length];exact i);refine⟨.ref s.heap.objs.size,_,I.laid (λb B q=>b3 _ q) (QV _) ?_,rfl,m (λw=>z (d.Wy.mpr w)) _ (I.Sk.fresh (QV _))⟩;exact⟨by rw[Q1];exact i,_,f.append d,VN.new _ _⟩
end
def IT(n:Nat)(i:Int):bg Nat:=if 0<=i then(if i<n then cL i.toNat else lD)else if -(n:Int)<=i then cL (i+n).toNat else lD
def kY(xs:bb α)(i:Int):bg α:=(IT xs.length i).bind λj=>xs[j]?
theorem Gg(h:IT n i=cL j):seqIndex? i n=cL j/\j<n/\ -(n:Int)<=i/\i<n:=by
 unfold IT at h;by_cases b:0<=i
 .rw[ax b]at h
  by_cases a:i<n
  .rw[ax a]at h;have e:=Ra h;exact⟨by rw[seqIndex_of b a,e],by ext,by ext,a⟩
  .rw[a3 a]at h;cases h
 .rw[a3 b]at h
  by_cases a: -(n:Int)<=i
  .rw[ax a]at h;have e:=Ra h;exact⟨by rw[seqIndex_neg (by ext) a,e],by ext,a,by ext⟩
  .rw[a3 a]at h;cases h
theorem tQ(h:kY xs i=cL v):∃j,seqIndex? i xs.length=cL j/\xs[j]?=cL v/\j<xs.length/\ -(xs.length:Int)<=i/\i<xs.length:=by
 unfold kY at h;cases e:IT xs.length i with
 |none=>rw[e]at h;cases h
 |some j=>rw[e]at h;obtain⟨f,d,b,a⟩:=Gg e;exact⟨j,f,h,d,b,a⟩
theorem yi{j:Nat}(h:xs[j]?=cL v):kY xs (j:Int)=cL v:=by
 have a:=(QU.mp h).1;have e:IT xs.length (j:Int)=cL j:=by unfold IT;rw[ax (by ext),ax (by ext)];simp
 unfold kY;rw[e];exact h
def xj(b:Q9):Prop:=∀o i,subscripted b QP o i=operate [o,i] (getItem o i)
def Zc(X:Cx)(r:R2):Prop:=
 ∀(d a:Q9) (b:bb (QT×Obj)) (s:QS) (e:St) (H:Hp) (x y:V) (v u:QN) (Q:VK),Inv X b e H s->RelV x v->RelV y u->r x y H Q->
  subscripted a QP v u=operate [v,u] (getItem v u)->wpAny (model X.prog X.w) X.A (subscriptTail d a v u) (EP X b e Q) X.xe s
def Nr(X:Cx)(id:String)(r:V->bb V->Hp->VK->Prop):Prop:=
 ∀(a:bb (QT×Obj)) (s:QS) (b:St) (H:Hp) (x:V) (xs:bb V) (v:QN) (d:bb QN) (Q:VK),Inv X a b H s->RelV x v->Vals xs d->r x xs H Q->
  wpAny (model X.prog X.w) X.A (call (.builtin id) (v::d)) (EP X a b Q) X.xe s
section
variable{X:Cx}{a b:Q9}{ta tb:TE}{pos:Pos}
theorem Zc.or(h:Zc X r)(h':Zc X r'):Zc X (λx y H Q=>r x y H Q\/r' x y H Q):=by
 intro d e f s g H x y v u Q I j i q l;rcases q with q|q
 .exact h d e f s g H x y v u Q I j i q l
 .exact h' d e f s g H x y v u Q I j i q l
theorem HL{r:R2}(l:Zc X r)(ha:PE X a ta)(m:PE X b tb)(j:xj b):PE X (.Subscript a b pos) (Eh r ta tb):=by intro d s e H Q I h;exact Subscript_ (JH ha m I h λv u f x y o n i g q=>l a b d f e o x y v u Q n i g q (j _ _))
def Nb(K:Bn):R2:=λx y H Q=>∃p xs i v,x=.ref p/\y=.int i/\Uq K H p xs/\kY xs i=cL v/\Q v H
def MZ(K:Bn):R2:=λx y H Q=>∃p xs i v,x=.ref p/\y=.int i/\UG K H p xs/\kY xs i=cL v/\Q v H
def Nn:R2:=λx y H Q=>∃z i c,x=.str z/\y=.int i/\z.length<=Q3/\kY z.cps.toList i=cL c/\Q (.str ⟨#[c]⟩) H
theorem Hm:Zc X (Nb X.K):=by
 intro g l d s B H x y v u Q I E C h n;obtain⟨p,xs,i,z,rfl,rfl,F,J,q⟩:=h;cases E;obtain⟨t,rfl⟩:=C;obtain⟨P,r,pl,R⟩:=I.list F;obtain⟨j,f,N,S,M,L⟩:=tQ J;obtain⟨w,A,O⟩:=r.get N;have G:=r.length;have hn:=tL;have e:EP X d B Q w s:=⟨z,H,I,O,q⟩;by_cases o:0<=i
 .have m:i.toNat=j:=by
   rw[seqIndex_of o L]at f;exact Ra f
  exact item_listR pl.isList o (by ext) (by rw[m];simpa using A) e n
 .have m:(i+(P.toArray.size:Int)).toNat=j:=by
   rw[seqIndex_neg (by ext) M]at f;rw[Q4,<-G];exact Ra f
  exact subscriptTail_builtinR pl.isList.typeIs aaj.lookup
   (wpAny_getItem_list_neg pl.isList (by ext) (by rw[Q4]<;>ext) (by ext) (by rw[m];simpa using A) ⟨rfl,e⟩) n
theorem KN:Zc X (MZ X.K):=by
 intro e f d s l H x y v u Q I n m h o;obtain⟨p,xs,i,z,rfl,rfl,A,C,q⟩:=h;cases n;obtain⟨t,rfl⟩:=m;obtain⟨P,r,pl,L⟩:=I.tuple A;obtain⟨j,F,E,O,N,M⟩:=tQ C;obtain⟨w,G,J⟩:=r.get E;have B:=r.length;have hn:=tL;have g:EP X d l Q w s:=⟨z,H,I,J,q⟩;exact subscriptTail_builtinR pl.typeIs slot_tuple_getitem.lookup
  (getItem_tuple pl (by ext) (by ext) (by rw[Q4,<-B];exact F) (by simpa using G) ⟨rfl,g⟩) o
theorem KP:Zc X Nn:=by
 intro d e f s B H x y v u Q I m l h n;obtain⟨z,i,c,rfl,rfl,E,p,q⟩:=h;obtain⟨t,rfl⟩:=m;obtain⟨C,rfl⟩:=l;obtain⟨j,g,A,F,w,r⟩:=tQ p;have o:z.cps.toList.length=z.length:=by simp[Str.length]
 rw[o]at g w r;have hn:=tL;exact tail_any (typeIs_str s z t) slot_str_getitem.lookup (getItem_str (by have e1:decide (i< -(2^63:Int))=QP:=a5 (by ext);have e2:decide (i≥2^63)=QP:=a5 (by ext);rw[e1,e2,WI]) (by rw[g];simpa using A) ⟨.str ⟨#[c]⟩,H,I.tok _,⟨_,rfl⟩,q⟩) n
def MQ(K:Bn):R2:=λx y H Q=>Nb K x y H Q\/MZ K x y H Q\/Nn x y H Q
theorem A0:Zc X (MQ X.K):=Hm.or (KN.or KP)
theorem tf(lo hi:bg Int)(n:Nat):(sliceBounds lo hi lD n).1=((HT.sIx n 0 lo:Nat):Int)/\(sliceBounds lo hi lD n).2.1=((HT.sIx n n hi:Nat):Int)/\(sliceBounds lo hi lD n).2.2=1:=by
 refine⟨?_,?_,rfl⟩
 .cases lo with
  |none=>simp[sliceBounds,HT.sIx]
  |some i=>
   simp only[sliceBounds,HT.sIx,X1,show(1:Int)>0 by decide,if_true];by_cases h:i<0
   .simp only[h,if_true]<;>ext
   .simp only[h,if_false]<;>ext
 .cases hi with
  |none=>simp[sliceBounds,HT.sIx]
  |some i=>
   simp only[sliceBounds,HT.sIx,X1,show(1:Int)>0 by decide,if_true];by_cases h:i<0
   .simp only[h,if_true]<;>ext
   .simp only[h,if_false]<;>ext
theorem qu(d:bb QN)(lo hi:bg Int):slicePick d.toArray lo hi lD=((d.drop (HT.sIx d.length 0 lo)).take (HT.sIx d.length d.length hi - HT.sIx d.length 0 lo)).toArray:=by obtain⟨g,f,e⟩:=tf lo hi d.toArray.size;unfold slicePick;rw[g,f,e];simp only[sliceRange_one,pick_run,Q4]<;>rfl
def NM(K:Bn):V->bg Int->bg Int->Hp->VK->Prop:=λx lo hi H Q=>∃a xs,x=.ref a/\Uq K H a xs/\∀p,H p=lD->Q (.ref p) (bf H p (.lst (zd xs lo hi)))
theorem Hh:Ob X (NM X.K):=by intro e s n H x v p o lo hi t Q I g m pl i h;obtain⟨a,xs,rfl,l,q⟩:=h;cases g;obtain⟨w,r,f,j⟩:=I.list l;have d:=r.length;refine⟨"list",_,aaj.lookup,f.isList.typeIs,?_⟩;refine wpAny_getItem_list_slice f.isList m pl i .none (by simp) ?_ (by rw[Q4]<;>ext);rw[qu,<-d];refine⟨.ref s.heap.objs.size,_,I.laid (λb u q=>b3 _ q) (QV _) ?_,rfl,q _ (I.Sk.fresh (QV _))⟩;exact⟨Rp (ng xs lo hi) j,_,0,(r.drop (HT.sIx xs.length 0 lo)).take (HT.sIx xs.length xs.length hi - HT.sIx xs.length 0 lo),b5 _ rfl⟩
theorem S3.or(h:S3 X f r)(h':S3 X f r'):S3 X f (λxs H Q=>r xs H Q\/r' xs H Q):=by
 intro d s e H xs g Q I i q;rcases q with q|q
 .exact h d s e H xs g Q I i q
 .exact h' d s e H xs g Q I i q
theorem sD:S3 X (.type "list") (λxs H Q=>∃p ys,xs=[.ref p]/\(Uq X.K H p ys\/UG X.K H p ys)/\∀l,H l=lD->Q (.ref l) (bf H l (.lst ys))):=by
 intro j s E H xs G Q I r h;obtain⟨p,ys,rfl,v,q⟩:=h;obtain⟨u,rfl,F⟩:=hG r;cases F
 have z:∀(f:bb QN),Vals ys f->ys.length<=Q3->∀(d:Heap) (i:Nat),(∀b o',s.heap.get? b=cL o'->d.get? b=cL o')->
   d.get? s.heap.objs.size=cL {cls:=.type "list",dict:=lD,data:=.seq f.toArray i,slots:= #[]}->EP X j E Q (.ref s.heap.objs.size) {s with heap:=d}:=λf g t d i m e=>
  ⟨.ref s.heap.objs.size,_,I.laid m (QV _) (show ObjOk X.prog X.w _ d _ (.lst ys)from⟨t,f,i,g,e⟩),rfl,q _ (I.Sk.fresh (QV _))⟩
 rcases v with v|v
 .obtain⟨f,g,pl,t⟩:=I.list v;have y:=g.length;obtain⟨o,A,C,n,B⟩:=pl.isList;exact aes p (.inl rfl) A C B (λd i m e=>z f g t d i m e) (by simp only[Q4]<;>ext)
 .obtain⟨f,g,pl,t⟩:=I.tuple v;have y:=g.length;obtain⟨o,A,C,n,B⟩:=pl;exact aes p (.inr rfl) A C B (λd i m e=>z f g t d i m e) (by simp only[Q4]<;>ext)
theorem qv:S3 X (.type "tuple") (λxs H Q=>∃p ys,xs=[.ref p]/\((Uq X.K H p ys/\∀l,H l=lD->Q (.ref l) (bf H l (.tup ys)))\/(UG X.K H p ys/\Q (.ref p) H))):=by
 intro g s A H xs B Q I r h;obtain⟨p,ys,rfl,h⟩:=h;obtain⟨u,rfl,t⟩:=hG r;cases t;rcases h with⟨f,q⟩|⟨f,q⟩
 .obtain⟨m,d,pl,i⟩:=I.list f
  have j:=d.length;refine call_tuple_list pl.isList (λy v=>?_) (by simp only[Q4]<;>ext);have n:=I.kept (t':=s.toks) v
  have z:=
   n.laid (t':=s.toks) (λb o e=>b3 _ e) (QV _) (show ObjOk X.prog X.w _ _ _ (.tup ys)from⟨i,m,d,VN.new _ _⟩)
  exact⟨.ref y.objs.size,_,z,rfl,q _ (n.Sk.fresh (QV _))⟩
 .obtain⟨m,d,pl,i⟩:=I.tuple f;exact call_tuple_same pl ⟨.ref p,H,I,rfl,q⟩
def Pb(K:Bn)(T:String)(x:V)(H:Hp):Prop:=match x with
 |.str _=>T= "str"
 |.int _=>T= "int"
 |.ref p=>(T= "list"/\∃xs,Uq K H p xs)\/(T= "tuple"/\∃o,K.lookup p=cL o/\o.cls=.type "tuple"/\o.dict=lD)\/
   (T= "dict"/\((∃kvs,H p=cL (.dK kvs))\/∃kvs,H p=cL (.dT kvs)))\/(T= "set"/\∃S n,H p=cL (.set S n))
 |_=>False
theorem Cp(I:Inv X pins σ H s)(r:RelV x v)(ty:Pb X.K T x H):
  s.TypeIs v T/\∀a,v=.ref a->∃ob,s.heap.get? a=cL ob/\ob.dict=lD:=by
 cases x with
 |str z=>obtain⟨t,rfl⟩:=r;cases(show T= "str" from ty);exact⟨typeIs_str s z t,λ_ e=>nomatch e⟩
 |int i=>obtain⟨t,rfl⟩:=r;cases(show T= "int" from ty);exact⟨VX s i t,λ_ e=>nomatch e⟩
 |ref p=>
  cases r;rcases ty with⟨rfl,xs,h⟩|⟨rfl,o,d,j,g⟩|⟨rfl,d⟩|⟨rfl,S,n,d⟩
  .obtain⟨l,_,pl,_⟩:=I.list h;refine⟨pl.isList.typeIs,λa e=>?_⟩;cases e;obtain⟨o,n,e,c,g,_⟩:=pl;exact⟨o,e,g⟩
  .refine⟨⟨o,I.V5 p o d,j⟩,λa e=>?_⟩;cases e;exact⟨o,I.V5 _ o d,g⟩
  .have z:∃o,s.heap.get? p=cL o/\o.ExactDict:=by
    rcases d with⟨kvs,d⟩|⟨kvs,d⟩
    .obtain⟨_,_,_,_,o,_,_,e,f,_⟩:=I.Sk p _ d;exact⟨o,e,f⟩
    .obtain⟨_,_,_,_,o,_,_,e,f,_⟩:=I.Sk p _ d;exact⟨o,e,f⟩
   obtain⟨o,e,f⟩:=z;refine⟨⟨o,e,f.1⟩,λa e2=>?_⟩;cases e2;exact⟨o,e,f.2.1⟩
  .obtain⟨o,_,_,_,e,f,_⟩:=I.Sk p _ d;refine⟨⟨o,e,f.1⟩,λa e2=>?_⟩;cases e2;exact⟨o,e,f.2.1⟩
 |_=>exact False.elim ty
def Fm(K:Bn)(T:String)(r:V->bb V->Hp->VK->Prop)(to:TE):TE:=λe H Q=>to e H λx d=>Pb K T x d/\r x [] d Q
def M8(K:Bn)(T:String)(r:V->bb V->Hp->VK->Prop)(to:TE)(t:TA):TE:=λd H Q=>to d H λx e=>Pb K T x e/\t d e λxs f=>r x xs f Q
variable{o e:Q9}{es:bb Q9}{to:TE}{t:TA}{name:Str}{Z Y:Pos}{T U:String}{r:V->bb V->Hp->VK->Prop}
theorem Bs(pa:PlainAttrs T)(slot:Slot T name U)(f:typeOf (.builtin U)=pure (.type "method_descriptor"))(hm:Nr X U r)(n:PE X o to)
  (u:attributeBase o name X.env (eval o X.env)=eval o X.env:=by rfl) (w:(Z.endLine==Y.line)=QM:=by rfl):PE X (.Call (.Attribute o name Z) [] [] Y) (Fm X.K T r to):=by
 intro d s g H Q I h;refine wpAny_Call_method0_late u w (cF (n d s g H _ I h) λv l ⟨x,y,j,i,ty,m⟩=>?_);obtain⟨q,p⟩:=Cp j i ty;exact⟨T,U,pa,slot,f,q,p,Calls.callWith_builtin rfl (PySem.evalArgs_none (hm d l g y x [] v [] Q j i .nil m))⟩
theorem NH(pa:PlainAttrs T)(slot:Slot T name U)(g:typeOf (.builtin U)=pure (.type "method_descriptor"))(hm:Nr X U r)(A:PE X o to)(ha:PA X (e::es) t)
  (F:attributeBase o name X.env (eval o X.env)=eval o X.env:=by rfl)
  (i:((backTo Y (Rg (e::es) X.env)).all (λx=> !x.1)&&(backToKw Y (keywordEach [] X.env)).all (λx=>x.1.isSome)
   &&decide ((e::es).length+([]:bb UO).length+(if([]:bb UO).isEmpty then 0 else 1)<30))=QM:=by rfl)
  (G:(Z.endLine==Y.line)=QM:=by rfl) (z:Rg (e::es) X.env=(QP,eval e X.env)::Rg es X.env:=by rfl) (E:(backTo Y (Rg es X.env)).any (·.1)=QP:=by rfl):
  PE X (.Call (.Attribute o name Z) (e::es) [] Y) (M8 X.K T r to t):=by
 intro d s f H Q I h;refine wpAny_Call_method_late F i G rfl (cF (A d s f H _ I h) λv q ⟨x,M,m,j,ty,y⟩=>?_);obtain⟨C,B⟩:=Cp m j ty;refine⟨T,U,pa,slot,g,C,B,?_⟩;have l:=ha Y d q f M _ m y;rw[z]at l⊢;refine Calls.callWith_builtin (by show(QP||(backTo Y (Rg es X.env)).any (·.1))=QP;rw[E]<;>rfl) (Calls.evalArgs_plain ?_);exact cF l λn p ⟨vs,L,J,u,w⟩=>hm d p f L x vs v n Q J j u w
end
def QA(X:Cx)(id:String)(r:V->bb V->Hp->VK->Prop):Prop:=
 ∀(a:bb (QT×Obj)) (s:QS) (b:St) (H:Hp) (x:V) (xs:bb V) (v:QN) (d:bb QN) (Q:VK),Inv X a b H s->RelV x v->Vals xs d->r x xs H Q->
  wpAny (model X.prog X.w) X.A (call (.builtin id) (v::d)) (EP X a b Q) X.xe s
theorem Vals.one:∀{x:V} {us:bb QN},Vals [x] us->∃u,us=[u]/\RelV x u
 |_,_,.cons r .nil=>⟨_,rfl,r⟩
theorem Vals.rep(h:Vals xs us):∀k:Nat,Vals (QX k xs).flatten (QX k us).flatten
 |0=>.nil
 |k+1=>by rw[RY,RY,SQ,SQ];exact Vals.append h (Vals.rep h k)
theorem mP(a:bb QN):∀(k:Nat) (acc:bb QN),
  UP (λx1 x2=>x1++x2) acc.toArray (QX k a.toArray)=(acc++(QX k a).flatten).toArray
 |0,acc=>by simp
 |k+1,acc=>by
  have e:acc.toArray++a.toArray=(acc++a).toArray:=by simp
  have e2:(acc++a)++(QX k a).flatten=acc++(QX (k+1) a).flatten:=by rw[RY,SQ,Sa]
  rw[<-e2,<-mP a k (acc++a),<-e,RY,UW]
section
variable{X:Cx}{Z:bb (QT×Obj)}{Y:St}{H:Hp}{s:QS}{l b:QT}{xs ys zs:bb V}
theorem Inv.acT{d a:bb QN}(I:Inv X Z Y H s)(m:H l=cL (.lst xs))
  (e:s.heap.get? l=cL {cls:=.type "list",data:=.seq d.toArray n}) (i:f d.toArray=a.toArray) (g:Vals ys a) (hz:ys.length<=Q3):
  Inv X Z Y (bf H l (.lst ys)) {s with heap:=s.heap.update l (Obj.mapSeq f),toks:=t'}:=by
 have q:=afU e f;rw[i]at q;refine I.write (by rw[m];exact trivial) (.inl rfl) (λo u j h=>(b7 s.heap (Obj.mapSeq f) (dt j)).trans h) ⟨_,q⟩ ?_;exact⟨hz,a,_,g,q⟩
theorem Inv.abi(I:Inv X Z Y H s)(a:Vals ys RG)(hz:ys.length<=Q3):
  Inv X Z Y (bf H s.heap.objs.size (.lst ys)) {s with heap:=s.heap.push {cls:=.type "list",data:=.seq RG.toArray},toks:=t'}:=
 I.laid (λ_ _ q=>b3 _ q) (QV _) ⟨hz,RG,0,a,b5 _ rfl⟩
theorem Inv.fresh(I:Inv X Z Y H s):H s.heap.objs.size=lD:=I.Sk.fresh (QV _)
theorem Inv.abo(I:Inv X Z Y H s)(d:H l=cL (.lst xs)):xs.length<=Q3/\∃(a:bb QN) (n:Nat),Vals xs a/\xs.length=a.length/\s.heap.get? l=cL {cls:=.type "list",data:=.seq a.toArray n}:=by obtain⟨z,a,n,r,e⟩:=I.Sk l _ d;exact⟨z,a,n,r,r.length,e⟩
theorem Cm(h:n<=Q3):RD.List.listTooLong n=QP:=by unfold RD.List.listTooLong;exact a5 (by ext)
end
section
variable{X:Cx}
def r9:V->bb V->Hp->VK->Prop:=λx vs H Q=>∃l xs y,x=.ref l/\vs=[y]/\H l=cL (.lst xs)/\xs.length<Q3/\Q .TF (bf H l (.lst (xs++[y])))
theorem mM:QA X "list.append" r9:=by intro a s i H x vs v j Q I d rv h;obtain⟨l,xs,y,rfl,rfl,b,m,q⟩:=h;cases d;obtain⟨u,rfl,f⟩:=rv.one;obtain⟨z,g,n,r,o,e⟩:=I.abo b;refine Vi F.slot_list_append ⟨_,e,rfl⟩ F.entry_list_append (F.args_list_append_2 _ _) (PySem.list_append l g.toArray n u (by rw[Q4];ext)) ⟨e,?_⟩;refine⟨.TF,_,I.acT b e (by simp) (r.append (.cons f .nil)) ?_,rfl,q⟩;rw[Q1,TZ];ext
theorem xG(xs:bb α)(k:Nat):(QX k xs).flatten.length=k*xs.length:=by
 induction k with
 |zero=>simp
 |succ k a=>rw[RY,SQ,Q1,a,aaR,Nat.add_comm]
end
section
variable{prog:Rb}{w:Rr}{A:Rt}{E:QN->QS->Prop}{s:QS}
set_option maxRecDepth 100000 in
end
end L2
namespace Att
open PySem PySem.W PySem.Calls PyProof.Rows
theorem nz:∀(ns:bb Int) (vs:bb QN),WellAll P h vs (ns.map WData.int)->IntsAre vs ns:=by
 intro ns
 induction ns with
 |nil=>intro vs w;rw[S7]at w;cases w;exact .nil
 |cons n ns d=>
  intro vs w;rw[Q7]at w;cases w with
  |cons a b=>cases a;exact .cons _ _ (d _ b)
theorem zi{l:OpenLaw}(hn:l.most=cL n)
  (m:l.row.toRowW.claim.pre args=QM) (g:WellAll P h vals args):
  ∃a vs ns,vals=[QN.ref a]/\args=[WData.list (ns.map WData.int)]/\h.get? a=cL {cls:=.type "list",data:=.seq vs.toArray}/\IntsAre vs ns/\ns.length<=n:=by
 have i:=(pre_splitW m).1;have j:l.pre.holds [] {args:=args}=QM:=(pre_splitW m).2;obtain⟨d,r,rfl,y,w⟩:=hasAllW_cons i;obtain rfl:=hasAllW_nil w;obtain⟨xs,rfl,v⟩:=hasW_list y;obtain⟨ns,rfl⟩:=items_int v;have b:ns.length<=n:=by
  unfold OpenLaw.pre at j;have f:(WTm.not (.lt (.lit (.int (n:Int))) (.len (.arg 0)))).holds [] {args:=[.list (ns.map .int)]}=QM:=by have f:=(holds_andW j).1;rw[hn]at f;exact f
  have e:=condW_of f (w_not (w_lt w_lit (w_len_list (w_arg rfl))));rw[QQ]at e;refine Nat.le_of_not_lt λq=>?_;have t:(n:Int)<((ns.length:Nat):Int):=by ext
  first
   |(rw[a4 t]at e;exact a7 e (by decide))
   |(simp at e;ext)
 cases g with
 |cons p o=>
  cases o;cases p with
  |list u z=>exact⟨_,_,ns,rfl,rfl,u,nz ns _ z,b⟩
theorem zc(l:OpenLaw)(args:bb WData):l.row.toRowW.claim.post args (.bool QM) args=QM:=
 postW_of
  (show WShape.has [] (.bool QM) .bool=QM by first|rfl|decide|simp[WShape.has,WShape.arms,WShape.armsAll])
  (show(WTm.eq .res (.lit (.bool QM))).value [] {args:=args,res:=cL (.bool QM),after:=args}=cL (.bool (QM==QM))from w_eq_bool (w_res rfl) w_lit) rfl
theorem attach_call{l:OpenLaw}{n:Nat}{q:Rb}{e:bb Str}{C:(Str->bg QN)->Heap->Prop}{B:Rr->Heap->Prop}{d:DefRec}
  (hn:l.most=cL n) (v:d.params.defaults=[])
  (call:∀(w:Rr) (s₀ b:QS) (mg p:Str->bg QN) (fa:QT) (o:Obj) (m j h:QN) (a:QT) (vs:bb QN) (ns:bb Int),
   Ground q e [] C w s₀ mg p b.heap->B w b.heap->
   b.heap.get? fa=cL o->o.data=.func (docDef d.name d.params d.body d.scope m j h)->b.heap.CodeRec j d.name->mg d.name=cL (.ref fa)->
   b.heap.get? a=cL {cls:=.type "list",data:=.seq vs.toArray}->IntsAre vs ns->ns.length<=n->b.gens= #[]->
   codeAny (model l.prog w) callerA (.call (.ref fa) ⟨[.ref a],[]⟩) (λr s'=>r=.ok (.ret (.bool QM))/\OldK b.heap s'.heap/\s'.os=b.os/\AllBare s'.gens) b):
  WalkO q e C B l.row.toRowW d [] (λf vs=>aaS f vs):=by
 intro w s₀ b mg p G Y fa o m j h O kV H K R z u J A y as S P E t I;obtain rfl:O=.none:=Dflts.none z v;obtain rfl:kV=.none:=Dflts.noKw z;obtain⟨a,vs,ns,rfl,rfl,Q,g,i⟩:=zi hn S t;refine enter_call (V6 (call w s₀ b mg p fa o m j h a vs ns G Y H (fd_plain K) R u Q g i J) λr s' F=>?_);obtain⟨rfl,N,M,L⟩:=F;exact⟨.inl ⟨.bool QM,.bool QM,[],rfl,λ_=>rfl,.bool QM,zc l _,λ_=>⟨UX,λ_ hm=>(nomatch hm)⟩⟩,N,M,L⟩
end Att
namespace L2
open PySem PySem.Spec PyProof.Rows
theorem i4:∀{vs:bb QN} {ns:bb Int},IntsAre vs ns->Vals (ns.map V.int) vs
 |_,_,.nil=>.nil
 |_,_,.cons n t h=>.cons ⟨t,rfl⟩ (i4 h)
def Nz(H:Hp):Prop:=∀b,H b=lD\/∃o xs,H b=cL (.frz o (.lst xs))
theorem Co{P:Rb}{w:Rr}{K:Bn}{mg B:Str->bg QN}{S:tS}{k:Nat}{fa a:QT}{fd:Sl}{x:Str}{sp:Sp}{f:QS}{vs:bb QN}{ns:bb Int}
  (R:K.In f.heap) (Q:f.heap.Ns Rk mg) (g:f.heap.Ns builtinsNs B) (E:∀x:Str,x≠ "__name__"->B x=Ry x) (ZN:f.heap.NoLimit) (hg:f.gens= #[])
  (ha:f.heap.get? a=cL {cls:=.type "list",data:=.seq vs.toArray}) (hi:IntsAre vs ns) (M:ns.length<=Q3) (Z:SY k callerA)
  (F:∀base:Heap,K.In base->base.Ns Rk mg->FnOk P w K mg base S k fa fd [x] sp) (YL:∀(s:QS) (u:QN),Vz s fd ⟨[u],[]⟩ [(x,u)])
  (C:∀H:Hp,Nz H->Uq K H a (ns.map V.int)->sp [.ref a] H (λv _=>v=.bl QM) λ_ _ _=>False)
  (G:∀H e s',S [] H f (λ_ _ _=>False) e s'->False):
  codeAny (model P w) callerA (.call (.ref fa) ⟨[.ref a],[]⟩) (λr s'=>r=.ok (.ret (.bool QM))/\OldK f.heap s'.heap/\s'.os=f.os/\AllBare s'.gens) f:=by
 have rv:=i4 hi;have J:=hi.length
 have j:∀H:Hp,Nz H->Uq K H a (ns.map V.int)->Vb P w H f.heap->(∀b,H b≠lD->b=a)->(H a≠lD->K.lookup a=lD)->
   codeAny (model P w) callerA (.call (.ref fa) ⟨[.ref a],[]⟩) (λr s'=>r=.ok (.ret (.bool QM))/\OldK f.heap s'.heap/\s'.os=f.os/\AllBare s'.gens) f:=by
  intro H N hS Sk O hK;have gY:∀{b:QT} {o:Obj},f.heap.get? b=cL o->H b=lD->(sf f.heap H).get? b=cL o:=λe n=>DE e n;have A:∀{b:QT} {o:Obj} {es:Array U9} {t:Nat},f.heap.get? b=cL o->o.data=.dict es t->H b=lD:=λ{b o es t} e d=>by
   cases q:H b with
   |none=>rfl
   |some u=>have I:b=a:=O b (by rw[q];simp);subst I;rw[ha]at e;cases e;have d':ZF.seq vs.toArray _=ZF.dict es t:=d;cases d'
  have i:∀{b:QT} {m:Str->bg QN},f.heap.Ns b m->(sf f.heap H).Ns b m:=λ{b m} ⟨o,es,t,e,d,r⟩=>⟨o,es,t,gY e (A e d),d,r⟩;have p:K.In (sf f.heap H):=λb o e=>gY (R b o e) (by
   cases q:H b with
   |none=>rfl
   |some u=>have I:b=a:=O b (by rw[q];simp);subst I;rw[hK (by rw[q];simp)]at e;cases e)
  have hM:Mod K mg (sf f.heap H):=⟨p,i Q,⟨B,i g,E⟩,let⟨mc,h1,h2⟩:=ZN;⟨mc,i h1,h2⟩⟩;have e0:Env0 P w K mg (sf f.heap H) callerA [] f H:=⟨rfl,hM,λb o e=>EG e,aaP (zH _ _),trivial,λb g=>a7 (show b∈([]:bb QT)from g) (by simp),Sk,.of_eq hg⟩;refine V6 ((F _ p (i Q)).run callerA [] f H ⟨[.ref a],[]⟩ [.ref a] [.ref a] _ _ Z e0 (YL f (.ref a)) (.cons rfl .nil) (C H N hS)) λr s' h=>?_;cases r with
  |error e=>exact(G H e s' h).elim
  |ok fl=>
   cases fl with
   |next=>exact False.elim h
   |brk=>exact False.elim h
   |cont=>exact False.elim h
   |ret u=>
    obtain⟨v,H',Y,y,un,L,U,q⟩:=h;have X:v=.bl QM:=q;subst X;obtain rfl:u=QN.bool QM:=U;refine⟨rfl,OldK.of_keep λb o e=>?_,Y,y⟩;cases q:H b with
    |none=>exact un.keep b o e q (by intro z;exact a7 (show b∈([]:bb QT)from z) (by simp)) (by simp)
    |some u=>
     rcases N b with z|⟨ob,xs,z⟩
     .rw[q]at z;cases z
     .have T:=un.We b ob _ z;obtain⟨e1,_⟩:=Sk b _ z;obtain⟨e2,_⟩:=L b _ T;rw[e]at e1;cases e1;exact e2
 cases hk:K.lookup a with
 |some o=>have e:=R a o hk;rw[ha]at e;cases e;refine j (λ_=>lD) (λ_=>.inl rfl) (.inr ⟨_,vs.toArray,_,hk,rfl,rfl,rfl,by rw[Q4,J];exact M,by simpa using rv⟩) (λb u z=>by have l:(lD:bg HO)=cL u:=z;cases l) (λb z=>a7 rfl z) λz=>a7 rfl z
 |none=>
  refine j (λb=>if b=a then cL (.frz {cls:=.type "list",data:=.seq vs.toArray} (.lst (ns.map V.int)))else lD) (λb=>?_) (.inl (.inr ⟨{cls:=.type "list",data:=.seq vs.toArray},ax rfl⟩)) (λb u z=>?_) (λb z=>?_) λ_=>hk
  .by_cases g:b=a
   .exact .inr ⟨_,_,ax g⟩
   .exact .inl (a3 g)
  .by_cases g:b=a
   .have l:=(ax g).symm.trans z;cases l;subst g;exact⟨ha,by rw[QQ];exact M,vs,_,rv,ha⟩
   .have l:=(a3 g).symm.trans z;cases l
  .by_cases g:b=a
   .exact g
   .exact a7 (a3 g) z
def bh(s:Tb)(j:Nat):Tb:=match s with
 |.ClassDef _ _ _ body _ _ _ _ _ _ _=>body.getD j (.Pass ⟨0,0,0,0⟩)
 |_=>.Pass ⟨0,0,0,0⟩
def kh(s:Tb):Arguments:=match s with
 |.FunctionDef _ a _ _ _ _ _ _ _ _=>a
 |_=>{posonlyargs:=[],args:=[],vararg:=lD,kwonlyargs:=[],kw_defaults:=[],kwarg:=lD,defaults:=[]}
def d8(s:Tb):bb Tb:=match s with
 |.FunctionDef _ _ b _ _ _ _ _ _ _=>b
 |_=>[]
def aI(s:Tb):SR:=match s with
 |.FunctionDef _ _ _ _ _ _ sc _ _ _=>sc
 |_=>{kind:=.function,names:=[],isGenerator:=QP,isCoroutine:=QP}
abbrev l9:tS:=λ_ _ _ _ _ _=>False
abbrev E0:XK:=λ_ _ _=>False
theorem C3:eY l9 X E0:=λ_ _ _ _ _ _ _ h=>h.elim
structure Wf(K:Bn)(x qual:Str)(st:Tb)(f:QT)(fd:Sl):Prop where
 ex:∃(oc:QN) (od:bg QT) (kV doc pm:QN) (an:bg QT) (Ti ct:QN) (Ym:Array (bg QN)),
  fd=Tf x qual (kh st) (d8 st) (aI st) .none kV doc pm an Ti ct/\K.lookup f=cL ⟨oc,od,.func fd,Ym⟩/\UU K Ti qual=QM
 kp:SU K (.ref f)=QM
section
variable{P:Rb}{w:Rr}{K:Bn}{mg:Str->bg QN}{base:Heap}
theorem Wf.ok{x a:Str}{b:Tb}{f:QT}{fd:Sl}{N ps:bb Str}{k:Nat}{sp:Sp}(F:Wf K x a b f fd)(S:TY N ps (aI b))(len:∀vs H Q E,sp vs H Q E->vs.length=ps.length)
  (m:∀(d:QN) (A:Rt) (outer:bb Env) (s:QS) (H:Hp) (vs:bb V) (Q:VK) (E:XK),SY k (A.deeper (envOfC a (aI b) s.heap.objs.size f d))->sp vs H Q E->
   ∃t,WO (kr l9 P w K mg base N a (aI b) f d A outer s H E).YY (d8 b) t/\t {nx:=λ_ H'=>Q .TF H',rt:=Q} (start N vs) H):FnOk P w K mg base l9 (k+1) f fd ps sp:=by
 obtain⟨p,o,kV,j,n,r,d,ct,u,rfl,g,l⟩:=F.ex;refine MW g l S len λA outer s H vs Q E i e=>?_;obtain⟨t,h,q⟩:=m d A outer s H vs Q E i e;exact⟨t,h.YY,q⟩
theorem Wf.binds{x a:Str}{d:Tb}{f:QT}{fd:Sl}{ps:bb Str}(F:Wf K x a d f fd)
  (h:∀(kV b e:QN) (g:bg QT) (i ct:QN) (us:bb QN),us.length=ps.length->bindArgs (Tf x a (kh d) (d8 d) (aI d) .none kV b e g i ct) ⟨us,[]⟩=pure (ps.zip us)):Binds K fd ps []:=by
 obtain⟨l,j,kV,b,e,g,i,ct,n,rfl,m,o⟩:=F.ex;exact .all (h kV b e g i ct)
theorem C6{a:Tb}{kV b e d ct:QN}(l:K.lookup f=cL ⟨oc,od,.func (Tf x qual (kh a) (d8 a) (aI a) .none kV b e an d ct),Ym⟩)
  (c:UU K d qual=QM) (k:SU K (.ref f)=QM):Wf K x qual a f (Tf x qual (kh a) (d8 a) (aI a) .none kV b e an d ct):=⟨⟨oc,od,kV,b,e,an,d,ct,Ym,rfl,l,c⟩,k⟩
end
theorem Ab(a:SY k A):A.units+1<cLine:=Vs (Nat.add_le_add_left (by decide:1<=64) _) a.units
def Sv(H a:Hp):Prop:=∀b o,H b=cL o->a b=cL o
theorem Sv.refl(H:Hp):Sv H H:=λ_ _ h=>h
theorem Sv.trans(a:Sv H H1)(b:Sv H1 H2):Sv H H2:=λc o h=>b c o (a c o h)
theorem Sv.free(e:Sv H H')(h:H' l=lD):H l=lD:=by
 cases q:H l with
 |none=>rfl
 |some o=>rw[e l o q]at h;cases h
end L2
set_option maxHeartbeats 4000000
namespace L2
open PySem PySem.Spec PyProof.Rows
section
variable{X:Cx}{Z:bb (QT×Obj)}{σ:St}{H:Hp}{s:QS}{h':Heap}
theorem Inv.Xl{ch:bb QT}(I:Inv X Z σ H s)(g:∀b∈ch,mI X Z H b)
  (k:∀b u,b∉ch->s.heap.get? b=cL u->h'.get? b=cL u) (i:s.heap.objs.size<=p)
  (new:ObjOk X.prog X.w (bf H p o) h' p o):Inv X Z σ (bf H p o) {s with heap:=h',toks:=t'}:=by
 have hn:=I.Sk.fresh i;have j:∀b u,H b=cL u->b∉ch:=λb u e z=>by rw[(g b z).1]at e;cases e
 have f:∀b u,s.heap.get? b=cL u->b≠p:=λb u e=>Ri (Rf (b4 e) i);refine I.step (λb d=>?_) (λb u _ _ a e _=>k b u a e) (λb u _ _ a e _=>⟨u.slots,k b u a e⟩)
  (λb u _ e n=>by rw[aJ (f b u e)];exact n) (λb u a e=>⟨u,k b u a e⟩) (λb xs e=>by rw[aJ (bI e hn)];exact e)
  (λb u xs e=>by rw[aJ (bI e hn)];exact e) (λb ps e=>⟨#[],by rw[aJ (bI e hn),e];simp⟩) (λm hm=>?_) (λb u e=>?_) I.bare
 .obtain⟨_,B,_,A,y,t⟩:=g b d;exact⟨A,B,y,t⟩
 .obtain⟨h,es,C,l,r⟩:=hm;exact⟨h,es,C,k _ h (λz=>(g _ z).2.1 rfl) l,r⟩
 .by_cases d:b=p
  .subst d;rw[aE]at e;cases e;exact new
  .rw[aJ d]at e
   refine(I.Sk b u e).VQ (λc v a q=>k c v ?_ q) (λc q=>by rw[aJ (bI q hn)];exact q) λc xs q=>by rw[aJ (bI q hn)];exact q
   rcases a with z|z
   .rw[z];exact j b u e
   .exact j c _ z
end
mutual
inductive DV(K:Bn)(H:Hp):V->QO->Prop
 |TF:DV K H .TF .none
 |bl (b:Bool):DV K H (.bl b) (.bool b)
 |int (i:Int):DV K H (.int i) (.int i)
 |str (x:Str):DV K H (.str x) (.str x)
 |tup {a:QT} {xs:bb V} {ds:bb QO}:UG K H a xs->Ss K H xs ds->DV K H (.ref a) (.tuple ds)
 |lst {a:QT} {xs:bb V} {ds:bb QO}:Uq K H a xs->Ss K H xs ds->DV K H (.ref a) (.list ds)
inductive Ss(K:Bn)(H:Hp):bb V->bb QO->Prop
 |nil:Ss K H [] []
 |cons {v:V} {vs:bb V} {d:QO} {ds:bb QO}:DV K H v d->Ss K H vs ds->Ss K H (v::vs) (d::ds)
end
section
variable{X:Cx}{Z:bb (QT×Obj)}{σ:St}{H:Hp}{s:QS}
mutual
theorem DV.reads(I:Inv X Z σ H s):∀{v:V} {d:QO} {u:QN},DV X.K H v d->RelV v u->∃as,Xg s.heap u d as
 |_,_,_,.TF,r=>by cases r;exact⟨_,.none⟩
 |_,_,_,.bl b,r=>by cases r;exact⟨_,.bool b⟩
 |_,_,_,.int i,r=>by obtain⟨t,rfl⟩:=r;exact⟨_,.int i t⟩
 |_,_,_,.str x,r=>by obtain⟨t,rfl⟩:=r;exact⟨_,.str x t⟩
 |_,_,_,.tup h hs,r=>by cases r;obtain⟨a,rv,⟨o,e,c,n,d⟩,_⟩:=I.tuple h;obtain⟨as,q⟩:=Ss.reads I hs rv;exact⟨_,.tuple e c d (by simpa using q)⟩
 |_,_,_,.lst h hs,r=>by cases r;obtain⟨a,rv,⟨o,n,e,c,_,d⟩,_⟩:=I.list h;obtain⟨as,q⟩:=Ss.reads I hs rv;exact⟨_,.list e c d (by simpa using q)⟩
theorem Ss.reads(I:Inv X Z σ H s):∀{vs:bb V} {ds:bb QO} {us:bb QN},Ss X.K H vs ds->Vals vs us->∃as,Vt s.heap us ds as
 |_,_,_,.nil,r=>by cases r;exact⟨_,.nil⟩
 |_,_,_,.cons h hs,r=>by
  cases r with
  |cons b a=>obtain⟨as,q⟩:=DV.reads I h b;obtain⟨bs,d⟩:=Ss.reads I hs a;exact⟨_,.cons q d⟩
end
end
def GC(K:Bn)(neg:Bool):R2:=λx y H Q=>∃dx dy,DV K H x dx/\DV K H y dy/\dx.canLay0=QM/\dy.canLay0=QM/\dx.depth<=64/\Q (.bl (if neg then !QO.eqv dx dy else QO.eqv dx dy)) H
section
variable{X:Cx}
theorem JL(n:X.A.units+64<cLine):OpR X (Si .Eq) (GC X.K QP):=by intro a s m H x y v u Q I d b h;obtain⟨dx,p,l,j,i,g,o,q⟩:=h;obtain⟨as,f⟩:=l.reads I d;obtain⟨bs,e⟩:=j.reads I b;exact acz f e i g (by ext) ⟨.bl _,H,I,rfl,q⟩
theorem J9(n:X.A.units+64<cLine):OpR X (Si .NotEq) (GC X.K QM):=by intro a s m H x y v u Q I d b h;obtain⟨dx,p,l,j,i,g,o,q⟩:=h;obtain⟨as,f⟩:=l.reads I d;obtain⟨bs,e⟩:=j.reads I b;exact acA f e i g (by ext) ⟨.bl _,H,I,rfl,q⟩
theorem AA:OpR X (SG .FloorDiv) (rI (λ_ j=>0<j/\j.natAbs.log2<9000) λi j=>.int (i/j)):=NF λi j _ _ _ _ _ a q=>by have b:(0:Int)<j:=a.1;exact floordiv_int (by ext) (by rw[Wn i (by ext)];exact q) (.inl (PyProof.noPylong_of_log2 a.2))
end
def gD(env:Env):bb (Str×Q8)->bb (Str×QT)->bb (Str×QT)
 |[],acc=>acc
 |(n,k)::r,acc=>if(k==Q8.free)=QM then(match env.cells.lookup n with|some c=>gD env r ((n,c)::acc)|none=>gD env r acc)else gD env r acc
theorem kP{f:Str×Q8->bb (Str×QT)->Sem (ForInStep (bb (Str×QT)))}
  (b:∀n k acc,(k==Q8.free)=QP->f (n,k) acc=pure (.yield acc)) (a:∀n c acc,env.cells.lookup n=cL c->f (n,.free) acc=pure (.yield ((n,c)::acc))):
  ∀(names:bb (Str×Q8)) (acc:bb (Str×QT)),(∀y∈names,y.2=.free->∃c,env.cells.lookup y.1=cL c)->forIn names acc f=pure (gD env names acc)
 |[],acc,_=>rfl
 |(n,k)::r,acc,h=>by
  have d:=λy i=>h y (Q0 _ i);rw[UY];cases hk:(k==Q8.free)with
  |false=>rw[b n k acc hk,pure_bind];show forIn r acc f=_;rw[kP b a r acc d];simp only[gD,hk,Tw,if_false]
  |true=>
   have e:k=.free:=by simpa using hk
   subst e;obtain⟨c,g⟩:=h _ Q2 rfl;rw[a n c acc g,pure_bind];show forIn r ((n,c)::acc) f=_;rw[kP b a r _ d];have j:=g;simp only[gD,hk,if_true,j]
theorem oh(h:∀y∈scope.names,y.2=.free->∃c,env.cells.lookup y.1=cL c):closureFor scope env=pure (gD env scope.names []):=by simp only[closureFor];rw[kP (λn k a b=>by simp only[b,Tw,if_false]) (λn c a d=>by simp only[d7,if_true,cellOf,d,pure_bind]) scope.names [] h,pure_bind]
theorem jC:∀(names:bb (Str×Q8)) (acc:bb (Str×QT)),(∀x c,acc.lookup x=cL c->env.cells.lookup x=cL c)->∀x c,(gD env names acc).lookup x=cL c->env.cells.lookup x=cL c
 |[],_,h,x,c,e=>h x c e
 |(n,k)::r,acc,h,x,c,e=>by
  unfold gD at e;split at e
  .split at e
   .rename_i f b
    refine jC r _ (λy d q=>?_) x c e;rw[Rx]at q;split at q
    .rename_i a;cases q;rw[eq_of_beq a];exact b
    .exact h y d q
   .exact jC r acc h x c e
  .exact jC r acc h x c e
theorem kl:∀(names:bb (Str×Q8)) (acc:bb (Str×QT)) (x:Str),(acc.lookup x).isSome=QM->((gD env names acc).lookup x).isSome=QM
 |[],_,_,h=>h
 |(n,k)::r,acc,x,h=>by
  unfold gD;split
  .split
   .refine kl r _ x ?_
    rw[Rx];split
    .rfl
    .exact h
   .exact kl r acc x h
  .exact kl r acc x h
theorem lZ:∀(names:bb (Str×Q8)) (acc:bb (Str×QT)) (x:Str) (c:QT),(x,Q8.free)∈names->env.cells.lookup x=cL c->((gD env names acc).lookup x).isSome=QM
 |[],_,_,_,h,_=>by cases h
 |(n,k)::r,acc,x,c,h,hc=>by
  rcases Rm.mp h with z|h
  .cases z;simp only[gD,d7,if_true,hc];exact kl r _ _ (by simp[Rx])
  .unfold gD
   split
   .split
    .exact lZ r _ x c h hc
    .exact lZ r acc x c h hc
   .exact lZ r acc x c h hc
theorem um(h:(x,Q8.free)∈names)(a:env.cells.lookup x=cL c):(gD env names []).lookup x=cL c:=by
 have q:=lZ names [] x c h a;cases e:(gD env names []).lookup x with
 |none=>rw[e]at q;cases q
 |some d=>have z:=jC names [] (λy d q=>by cases q) x d e;rw[a]at z;exact z.symm
theorem vd{env:Env}{a:SR}{x:Str}{k:Q8}(h:(relabel a env).names.lookup x=cL k):∃k0,(x,k0)∈a.names/\(k=k0\/(k0=.free/\k=.cell)):=by
 obtain⟨⟨n,k0⟩,hm,e⟩:=RP.mp (SD h);simp only at e;split at e
 .rename_i b
  cases e;have d:(k0==Q8.free)=QM:=by rw[CL,CL]at b;exact b.1.1
  exact⟨k0,hm,.inr ⟨by simpa using d,rfl⟩⟩
 .cases e;exact⟨_,hm,.inl rfl⟩
theorem jh{env:Env}:∀{names:bb (Str×Q8)} {x:Str},names.lookup x=cL .free->
  (names.map λ(n,k)=>if(k==Q8.free&&env.scope.kind==.function&&env.kindOf n==cL .cell)then(n,Q8.cell)else(n,k)).lookup x=cL .cell\/
  (names.map λ(n,k)=>if(k==Q8.free&&env.scope.kind==.function&&env.kindOf n==cL .cell)then(n,Q8.cell)else(n,k)).lookup x=cL .free
 |[],_,h=>by cases h
 |(n,k)::r,x,h=>by
  rw[Rx]at h;rw[Q7];dsimp only;by_cases a:(k==Q8.free&&env.scope.kind==.function&&env.kindOf n==cL .cell)=QM
  .rw[ax a,Rx]
   cases hx:x==n with
   |true=>exact .inl rfl
   |false=>rw[hx]at h;exact jh h
  .rw[a3 a,Rx]
   cases hx:x==n with
   |true=>rw[hx]at h;exact .inr h
   |false=>rw[hx]at h;exact jh h
def et(own:bb Str)(fv:bb (Str×Nat)):bb Str:=own++fv.map (·.1)
def hJ(own:bb Str)(fv:bb (Str×Nat))(a:St):St:=own.map (λ_=>lD)++fv.map λp=>(a[p.2]?).join
def Wz(X:Cx)(a:SR):bb (Str×Nat)->Prop
 |[]=>True
 |p::r=>(X.N[p.2]?=cL p.1/\a.names.lookup p.1=cL .free/\(X.env.scope.names.lookup p.1=cL .cell\/X.env.scope.names.lookup p.1=cL .free))/\Wz X a r
theorem Wz.mem:∀{fv:bb (Str×Nat)},Wz X scope fv->∀p∈fv,X.N[p.2]?=cL p.1/\scope.names.lookup p.1=cL .free/\(X.env.scope.names.lookup p.1=cL .cell\/X.env.scope.names.lookup p.1=cL .free)
 |[],_,p,hp=>by cases hp
 |q::r,h,p,hp=>by
  rcases Rm.mp hp with z|hp
  .rw[z];exact h.1
  .exact h.2.mem p hp
def rX(X:Cx)(a:SR)(C:QT):bb (Str×QT):=SJ (C+1) a.names (gD X.env a.names [])
theorem on:∀(names:bb (Str×Q8)) (n:Nat) (acc:bb (Str×QT)) (x:Str) (c:QT),(SJ n names acc).lookup x=cL c->(n<=c/\(x,Q8.cell)∈names)\/acc.lookup x=cL c
 |[],_,_,_,_,h=>.inr h
 |(y,k)::r,n,acc,x,c,h=>by
  unfold SJ at h;by_cases b:(k==Q8.cell)=QM
  .rw[ax b]at h
   have e:k=.cell:=by simpa using b
   rcases on r _ _ x c h with⟨a,d⟩|a
   .exact .inl ⟨Ux a,Q0 _ d⟩
   .rw[Rx]at a
    split at a
    .rename_i f;cases a;exact .inl ⟨QV _,by rw[eq_of_beq f,e];exact Q2⟩
    .exact .inr a
  .rw[a3 b]at h
   rcases on r _ _ x c h with⟨a,d⟩|a
   .exact .inl ⟨a,Q0 _ d⟩
   .exact .inr a
theorem DP:∀(names:bb (Str×Q8)) (n:Nat) (acc:bb (Str×QT)) (x:Str),(x,Q8.cell)∉names->(SJ n names acc).lookup x=acc.lookup x
 |[],_,_,_,_=>rfl
 |(y,k)::r,n,acc,x,h=>by
  have b:=λz=>h (Q0 _ z);unfold SJ;by_cases a:(k==Q8.cell)=QM
  .have e:k=.cell:=by simpa using a
   rw[ax a,DP r _ _ x b,Rx];have d:(x==y)=QP:=by refine beq_eq_false_iff_ne.mpr λz=>h ?_;rw[z,e];exact Q2
   rw[d]
  .rw[a3 a];exact DP r _ _ x b
theorem oY:∀(names:bb (Str×Q8)) (h:Heap) (acc:bb (Str×QT)) (x:Str) (c:QT),(SJ h.objs.size names acc).lookup x=cL c->(h.objs.size<=c/\(pushCells h names).IsCell c lD)\/acc.lookup x=cL c
 |[],_,_,_,_,e=>.inr e
 |(y,k)::r,h,acc,x,c,e=>by
  unfold SJ at e;unfold pushCells;by_cases b:(k==Q8.cell)=QM
  .rw[ax b]at e⊢
   rw[<-ck h {cls:=.type "cell",data:=.cell lD}]at e;rcases oY r _ _ x c e with⟨a,d⟩|a
   .rw[ck]at a;exact .inl ⟨Ux a,d⟩
   .rw[Rx]at a
    split at a
    .cases a;exact .inl ⟨QV _,_,WY _ _ _ _ (b5 _ rfl),rfl⟩
    .exact .inr a
  .rw[a3 b]at e⊢;exact oY r _ _ x c e
theorem wl:∀(names:bb (Str×Q8)) (n:Nat) (acc:bb (Str×QT)),(∀x c,acc.lookup x=cL c->c<n)->(∀x y c,acc.lookup x=cL c->acc.lookup y=cL c->x=y)->∀x y c,(SJ n names acc).lookup x=cL c->(SJ n names acc).lookup y=cL c->x=y
 |[],_,_,_,h2,x,y,c,e1,e2=>h2 x y c e1 e2
 |(z,k)::r,n,acc,h1,h2,x,y,c,e1,e2=>by
  unfold SJ at e1 e2;by_cases g:(k==Q8.cell)=QM
  .rw[ax g]at e1 e2
   refine wl r (n+1) ((z,n)::acc) (λa d q=>?_) (λa b d f e=>?_) x y c e1 e2
   .rw[Rx]at q
    split at q
    .cases q;exact UM _
    .exact Uy (h1 a d q)
   .rw[Rx]at f e
    split at f
    .rename_i ha
     split at e
     .rename_i h;rw[eq_of_beq ha,eq_of_beq h]
     .cases f;exact a7 (h1 b _ e) (Sj _)
    .split at e
     .cases e;exact a7 (h1 a _ f) (Sj _)
     .exact h2 a b d f e
  .rw[a3 g]at e1 e2;exact wl r n acc h1 h2 x y c e1 e2
theorem wL:∀{names:bb (Str×Q8)} {x:Str} {k a:Q8},(names.map (·.1)).Nodup->names.lookup x=cL k->(x,a)∈names->k=a
 |[],_,_,_,_,h,_=>by cases h
 |(y,j)::r,x,k,a,hn,h,hm=>by
  rw[Q7,Sw]at hn;rw[Rx]at h;rcases Rm.mp hm with e|hm'
  .cases e;rw[d7]at h;exact(Ra h).symm
  .cases hx:x==y with
   |true=>rw[eq_of_beq hx]at hm';exact a7 (RP.mpr ⟨_,hm',rfl⟩) hn.1
   |false=>rw[hx]at h;exact wL hn.2 h hm'
def cI(X:Cx)(s:QS)(H:Hp)(a:SR)(C:QT)(N:bb Str)(fp:bb QT):Cx:=
 {X with N:=N,s₀:=s,H₀:=H,env:=compEnvC a (rX X a C) C X.env,outer:=X.stack,stack:=X.stack,ex:=fp,fn:=λx=>((gD X.env a.names []).lookup x).isNone,pn:=[],xe:=λ_ _=>False}
section
variable{X:Cx}{Z:bb (QT×Obj)}{Y:St}{H:Hp}{s:QS}
theorem qE{a:SR}(I:Inv X Z Y H s)(e:(gD X.env a.names []).lookup x=cL c):X.env.cells.lookup x=cL c/\c<s.heap.objs.size:=by have h:=jC _ _ (λ_ _ q=>by cases q) x c e;obtain⟨v,o,z,_⟩:=I.cell x c h;exact⟨h,b4 z⟩
theorem yd(I:Inv X Z Y H s)(K:scope.kind=.function)(E:(scope.names.map (·.1)).Nodup)
  (F:∀y∈scope.names,y.2=.free->∃c,X.env.cells.lookup y.1=cL c) (d:s.heap.objs.size<=C) (g:∀b∈fp,mI X Z H b) (n:∀b∈fp,b<s.heap.objs.size):(cI X s H scope C N fp).Ok where
 mod:=I.ok.mod
 kind:=K
 glob:=I.ok.glob
 blt:=I.ok.blt
 above:=d
 inj:=wl _ _ _ (λx c e=>Uy (Rf (qE I e).2 d)) λx y c m j=>I.ok.inj x y c (qE I m).1 (qE I j).1
 has:=λx u=>by
  have G:∃k,(relabel scope X.env).names.lookup x=cL k/\(k=.cell\/k=.free):=by
   rcases u with z|z
   .exact⟨_,z,.inl rfl⟩
   .exact⟨_,z,.inr rfl⟩
  obtain⟨k,w,J⟩:=G;obtain⟨k0,hm,i⟩:=vd w;have e:k0=.free\/k0=.cell:=by
   rcases i with z|⟨z,_⟩
   .subst z
    rcases J with z|z
    .exact .inr z
    .exact .inl z
   .exact .inl z
  have q:((rX X scope C).lookup x).isSome=QM:=by
   rcases e with e|e
   .subst e;obtain⟨c,A⟩:=F _ hm rfl;exact Tz _ _ _ (.inr (by rw[um hm A];rfl))
   .subst e
    refine Tz _ _ _ (.inl ?_);cases z:scope.names.lookup x with
    |none=>exact a7 hm (λhm=>by
      have:∀{l:bb (Str×Q8)},l.lookup x=lD->(x,Q8.cell)∉l:=λ{l}=>by
       induction l with
       |nil=>exact λ_=>by simp
       |cons p r t=>
        intro h q;rw[Rx]at h;rcases Rm.mp q with q|q
        .rw[<-q,d7]at h;cases h
        .split at h
         .cases h
         .exact t h q
      exact this z hm)
    |some L=>rw[wL E z hm]
  exact SN.mp q
 cab:=λx c m j=>by
  have f:((gD X.env scope.names []).lookup x).isNone=QM:=m;have B:=j;rcases on _ _ _ x c B with⟨z,_⟩|z
  .exact Rp d (Ux z)
  .rw[z]at f;cases f
 hd:=I.ok.hd
 frames:=I.ok.frames
 stk:=.inl rfl
 exf:=λb a=>⟨Ri (Rf (n b a) d),λx c e=>by
  rcases on _ _ _ x c e with⟨z,_⟩|z
  .exact Se (Rf (Rf (n b a) d) (Ux z))
  .exact(g b a).2.2.2.2.1 x c (qE I z).1⟩
 bs:=I.bs
 YZ:=Rp I.ok.YZ I.sz
 XM:=λb o e a=>by
  rcases(g b a).2.2.2.1 with z|z
  .exact I.ok.XM b o e z
  .exact a7 (Rf (b4 e) (Rp I.ok.YZ z)) (Sj _)
 XT:=λb a v=>by
  rcases Rm.mp (I.Ww b v)with z|z
  .exact(g b a).2.1 z
  .exact(g b a).2.2.1 z
 Vy:=I.stack
 Zw:=I.WC
theorem Dw(I:Inv X Z Y H s)(Uj:scope.kind=.function)(Yi:(scope.names.map (·.1)).Nodup)
  (Yd:∀y∈scope.names,y.2=.free->∃c,X.env.cells.lookup y.1=cL c) (Z0:Wz X scope fv) (hD:s.heap.objs.size<=D) (hDC:D<C) (hC:s.heap.objs.size<=C) (hf:∀b∈fp,mI X Z H b) (YR:∀b∈fp,b<s.heap.objs.size)
  (W2:h1.Ns C m) (hoc:∀x c,(rX X scope C).lookup x=cL c->C<c->∃v,h1.IsCell c v) (hk:∀b o,s.heap.get? b=cL o->h1.get? b=cL o) (hd:∃n,h1.get? D=cL {cls:=.type "list",data:=.seq #[] n}):
  Inv (cI X s H scope C (et own fv) fp) [] (hJ own fv Y) (bf H D (.lst [])) {s with heap:=h1,toks:=t1}:=by
 have hn:=I.Sk.fresh hD;obtain⟨n,hd⟩:=hd;have hCD:=Se hDC;have hcs:∀x c,(rX X scope C).lookup x=cL c->C<c\/(X.env.cells.lookup x=cL c/\c<s.heap.objs.size):=λx c e=>by
  rcases on _ _ _ x c e with⟨z,_⟩|z
  .exact .inl z
  .exact .inr (qE I z)
 refine⟨yd I Uj Yi Yd hC hf YR,rfl,I.bare,Un.laid hk hD hn,⟨m,W2,λi x v e1 e2 e3=>?_⟩,λx c e=>?_,?_,λx c e=>?_,λp hp=>a7 (show p∈([]:bb (QT×Obj))from hp) (by simp),?_,?_⟩
 .
  have e1':(own++fv.map (·.1))[i]?=cL x:=e1;have Zp:(own.map (λ_=>(lD:bg V))++fv.map λp=>(Y[p.2]?).join)[i]?=cL (cL v):=e2;have hi:own.length<=i:=by
   by_cases hi:i<own.length
   .rw[Ro (by simpa using hi),Q5]at Zp
    cases q:own[i]? with
    |none=>rw[q]at Zp;cases Zp
    |some _=>rw[q]at Zp;cases Zp
   .omega
  rw[Rq hi,Q5]at e1';rw[Rq (by simpa using hi),Q5,QQ]at Zp;cases q:fv[i - own.length]? with
  |none=>rw[q]at e1';cases e1'
  |some p=>
   rw[q]at e1' Zp;have ex:=Ra e1';subst ex;have ev:(Y[p.2]?).join=cL v:=Ra Zp;obtain⟨g1,g2,g3⟩:=Z0.mem p (RO q);have ev2:Y[p.2]?=cL (cL v):=by
    cases z:Y[p.2]? with
    |none=>rw[z]at ev;cases ev
    |some y=>rw[z]at ev;exact d5 cL ev
   obtain⟨m0,_,hl⟩:=I.loc;obtain⟨u,r,l⟩:=hl p.2 p.1 v g1 ev2 (.inr g3);refine⟨u,r,?_⟩;have l2:∃c,X.env.cells.lookup p.1=cL c/\s.heap.IsCell c (cL u):=by
    rcases l with⟨k,_⟩|⟨_,c,e,z⟩
    .have k':X.env.scope.names.lookup p.1=cL .local:=k
     rcases g3 with z|z
     .rw[z]at k';cases k'
     .rw[z]at k';cases k'
    .exact⟨c,e,z⟩
   obtain⟨c,e,o,ho,hdc⟩:=l2;refine .inr ⟨?_,c,?_,o,hk c o ho,hdc⟩
   .exact jh g2
   .show(rX X scope C).lookup p.1=cL c;unfold rX;rw[DP _ _ _ _ λz=>by cases wL Yi g2 z];exact um (SD g2) e
 .rcases hcs x c e with z|⟨z,_⟩
  .exact hoc x c e z
  .obtain⟨v,o,ho,hdc⟩:=I.cell x c z;exact⟨v,o,hk c o ho,hdc⟩
 .show bf H D (.lst []) C=lD;rw[aJ hCD];exact I.Sk.fresh hC
 .show bf H D (.lst []) c=lD
  rcases hcs x c e with z|⟨z1,z2⟩
  .rw[aJ (Se (TR hDC z))];exact I.Sk.fresh (Rp hC (US z))
  .rw[aJ (Ri (Rf z2 hD))];exact I.Vf x c z1
 .exact I.Sk.laid hk hD ⟨by show 0<=Q3;exact Rz _,[],n,.nil,hd⟩
 .show(own.map (λ_=>(lD:bg V))++fv.map λp=>(Y[p.2]?).join).length=(own++fv.map (·.1)).length;simp
end
def vW(X:Cx)(d:bb Q9)(t:TT):Prop:=
 ∀(a:bb (QT×Obj)) (s:QS) (b:St) (H:Hp) (Q:Bool->Hp->Prop),Inv X a b H s->t b H Q->
  wpAny (model X.prog X.w) X.A (forIn d QM λc r=>if r=QM then do let ok<-isTrue c X.env (eval c X.env);pure (ForInStep.yield ok)else pure (ForInStep.yield r)) (TP X a b Q) X.xe s
def Di:TT:=λ_ H Q=>Q QM H
theorem tZ:vW X [] Di:=λ_ _ _ H _ I h=>wpAny_tests_nil ⟨H,I,h⟩
theorem BQ(h:PT X c tc):vW X [c] tc:=λa s b H Q I d=>wpAny_tests_one (h a s b H Q I d)
def xW(J:It)(D:QT)(d:St)(g:TG)(j:TT)(h:TE)(n:Hp)(Fin:Hp->Prop):Prop:=
 ∃W:Nat->Nat->St->Hp->Prop,(∃m,W 0 m d (bf n D (.lst [])))/\∀i m σ H,W i m σ H->
  (J.stop i H/\Fin H)\/(J.go i H/\∃N:St->Hp->Prop,(∀σ' H',N σ' H'->∃m',m'<m/\W (i+1) m' σ' H')/\
   ∀x H',J.yld i H x H'->g x σ H' λa l=>j a l λb f=>if b=QM then h a f λy e=>∃ys,e D=cL (.lst ys)/\ys.length<Q3/\N a (bf e D (.lst (ys++[y])))else N a f)
section
variable{prog:Rb}{w:Rr}{A:Rt}{s:QS}
theorem zb{g tg d:Q9}{f:bb Q9}{b:SR}{pos:Pos}{j acc:QN}{env:Env}{R:Xf->QS->Prop}{XE:QN->QS->Prop}(u:∀x s1,XE x s1->notedBy (model prog w) A env (λe s2=>R (.error e) s2) x s1)(I:Nat->QS->Prop)
  (turn:∀n s,I n s->wpAny (model prog w) A (pyNext j) (λr s1=>match r with
   |none=>R (.ok .next) s1
   |some v=>wpAny (model prog w) A (letOwnedTupleGo tg j v) (λ_ s2=>wpAny (model prog w) A (assign tg env v) (λ_ s3=>
     wpAny (model prog w) A (forIn f QM λc r=>if r=QM then do let ok<-isTrue c env (eval c env);pure (ForInStep.yield ok)else pure (ForInStep.yield r)) (λok s4=>
      if ok=QM then wpAny (model prog w) A (eval g env) (λx s5=>
       wpAny (model prog w) A (call (.builtin "list.append") [acc,x]) (λ_ s6=>∃m,m<n/\I m s6) (λ_ _=>False) s5) XE s4
      else∃m,m<n/\I m s4) (λ_ _=>False) s3) (λ_ _=>False) s2) (λ_ _=>False) s1) (λ_ _=>False) s)
  (n:Nat) (h:I n s):codeAny (model prog w) A (.compLoop (.ListComp g [⟨tg,d,f,0⟩] b pos) 0 j acc env) R s:=by
 refine codeAny_loop rfl I (λn s y=>?_) n h;show wpAny _ A (Sem.onRaise (compTurn (.ListComp g [⟨tg,d,f,0⟩] b pos) 0 j acc env) (λx=>do noteFrame x env;theTreesLotGoes x)) _ _ s;refine wpAny_noted ?_;rw[compTurn_list]
 have i:∀{α:Type} {t:Sem α} {Q q:α->QS->Prop} {E:QN->QS->Prop} {s:QS},wpAny (model prog w) A t Q (λ_ _=>False) s->(∀a s',Q a s'->q a s')->wpAny (model prog w) A t q E s:=
  λl o=>wpAny_mono l o λ_ _ z=>False.elim z
 refine Ld (aet (Ld (i (turn n s y) λr s1 l=>?_)));cases r with
 |none=>exact QW l
 |some v=>
  refine Ld (i l λ_ s2 o=>Ld (i o λ_ s3 F=>Ld (i F λok s4 p=>?_)));cases ok with
  |false=>exact QW ⟨rfl,p⟩
  |true=>exact Ld (Ld (wpAny_mono p (λx s5 C=>Ld (i C λ_ s6 B=>QW (QW ⟨rfl,B⟩))) u))
end
section
variable{X:Cx}{Z:bb (QT×Obj)}{Y:St}{H:Hp}{s:QS}
theorem sZ
  (h:Q (newEnv scope s.heap.objs.size globals (SJ (s.heap.objs.size+1) scope.names closure) qual lD .none (cL env) builtinsNs) {s with heap:=pushCells (s.heap.push {cls:=.type "dict",data:=.dict #[]}) scope.names}):
  wpAny M A (newFunctionEnv scope globals closure [] qual lD .none (cL env)) Q E s:=by
 simp only[newFunctionEnv,Xv,if_true];refine Ld (wpAny_alloc ?_);refine Ld (wpAny_layCells _ (λd a b=>by cases hkc:a==Q8.cell<;>simp[hkc]) _ _ _ _ ?_);rw[show({s with heap:=s.heap.push {cls:=.type "dict",data:=.dict #[]}}:QS).heap.objs.size=s.heap.objs.size+1 from ck ..];rw[Wi];exact Ld (QW (QW h))
theorem pf{M tg l:Q9}{B:bb Q9}{scope:SR}{pos:Pos}{own:bb Str}{fv:bb (Str×Nat)}{g:TG}{tc:TT}{te:TE}{E:QN->QS->Prop}{it:QT}{fp:bb QT}{S:Nat->Heap->Prop}{J:It}{Fin:QT->Hp->Prop}
  {RR:QN->QT->Xf->QS->Prop} (I:Inv X Z Y H s) (hc:X.calm=QM) (Uj:scope.kind=.function) (Yi:(scope.names.map (·.1)).Nodup) (Yd:∀y∈scope.names,y.2=.free->∃c,X.env.cells.lookup y.1=cL c) (Z0:Wz X scope fv)
  (T:Turn X.prog X.w X.K tg J fp it S) (st:S 0 s.heap) (F:∀b∈fp,mI X Z H b)
  (hg:∀C,PG (cI X s H scope C (et own fv) fp) tg g) (ht:∀C,vW (cI X s H scope C (et own fv) fp) B tc) {W:QT->QN->QS->Prop} (he:∀C,PE ((cI X s H scope C (et own fv) fp).VO (W C)) M te) (hEE:∀D C x s1,s.heap.objs.size<=C->W C x s1->notedBy (model X.prog X.w) X.A (compEnvC scope (rX X scope C) C X.env) (λe s2=>RR (.ref D) C (.error e) s2) x s1)
  (hR:∀D,H D=lD->xW J D (hJ own fv Y) g tc te H (Fin D))
  (hRR:∀D C H' s',Inv X Z Y H' s'->Fin D H'->(∃m,s'.heap.Ns C m)->s.heap.objs.size<=C->H' C=lD->RR (.ref D) C (.ok .next) s'):
  wpAny (model X.prog X.w) X.A (newList []) (λacc s3=>wpAny (model X.prog X.w) X.A (newFunctionEnv scope X.env.globals (gD X.env scope.names []) [] X.env.qual lD .none (cL X.env)) (λabF s4=>
   codeAny (model X.prog X.w) X.A (.compStart (.ListComp M [⟨tg,l,B,0⟩] scope pos) 0 (.ref it) acc {abF with scope:=relabel scope X.env}) (RR acc abF.locals) s4) E s3) E s:=by
 refine Sb ?_;generalize hH2:s.heap.push {cls:=.type "list",dict:=lD,data:=.seq ([]:bb QN).toArray}=h2;have hz:h2.objs.size=s.heap.objs.size+1:=by rw[<-hH2,ck]
 refine sZ (s:={s with heap:=h2}) ?_;have G:s.heap.objs.size<h2.objs.size:=by rw[hz];exact UM _
 have hC:s.heap.objs.size<=h2.objs.size:=US G;generalize hH1:pushCells (h2.push {cls:=.type "dict",data:=.dict #[]}) scope.names=h1;have kp2:∀b o,h2.get? b=cL o->h1.get? b=cL o:=λb o e=>by rw[<-hH1];exact WY _ _ b o (b3 _ e)
 have kp:∀b o,s.heap.get? b=cL o->h1.get? b=cL o:=λb o e=>kp2 b o (by rw[<-hH2];exact b3 _ e);have W2:h1.Ns h2.objs.size (λ_=>lD):=by rw[<-hH1];exact(Heap.Ns.new h2 (.type "dict")).keeps (WY _ _)
 have hoc:∀x c,(rX X scope h2.objs.size).lookup x=cL c->h2.objs.size<c->∃v,h1.IsCell c v:=λx c e Uv=>by
  have e':(SJ (h2.push {cls:=.type "dict",data:=.dict #[]}).objs.size scope.names (gD X.env scope.names [])).lookup x=cL c:=by rw[ck];exact e
  rcases oY _ _ _ x c e' with⟨_,z⟩|z
  .exact⟨lD,by rw[<-hH1];exact z⟩
  .exact a7 (TR (qE I z).2 (TR G Uv)) (Sj _)
 have hd:∃n,h1.get? s.heap.objs.size=cL {cls:=.type "list",data:=.seq #[] n}:=⟨0,kp2 _ _ (by rw[<-hH2];exact b5 _ rfl)⟩;have YR:∀b∈fp,b<s.heap.objs.size:=λb f=>by obtain⟨o,e,_⟩:=T.obj 0 _ st b f;exact b4 e
 have hn:H s.heap.objs.size=lD:=I.Sk.fresh (QV _);obtain⟨W,⟨m0,w0⟩,turn⟩:=hR s.heap.objs.size hn;have L:∀{pl:bb (QT×Obj)} {H':Hp},(∀b∈fp,H' b=lD)->(∀p∈pl,p.1∉fp)->∀b∈fp,mI (cI X s H scope h2.objs.size (et own fv) fp) pl H' b:=λ{pl H'} YA WT b f=>by have ok:=yd (C:=h2.objs.size) (N:=et own fv) I Uj Yi Yd hC F YR;exact⟨YA b f,(ok.exf b f).1,ok.XT b f,.inl f,(ok.exf b f).2,λp hp=>by have hp':p∈([]:bb (QT×Obj))++pl:=hp;intro z;exact WT p (by simpa using hp') (by rw[z];exact f)⟩
 have j:∀s4:QS,s4={s with heap:=h1}->
   codeAny (model X.prog X.w) X.A (.compLoop (.ListComp M [⟨tg,l,B,0⟩] scope pos) 0 (.ref it) (.ref s.heap.objs.size) (compEnvC scope (rX X scope h2.objs.size) h2.objs.size X.env)) (RR (.ref s.heap.objs.size) h2.objs.size) s4:=by
  rintro s4 rfl
  have I0:Inv (cI X s H scope h2.objs.size (et own fv) fp) [] (hJ own fv Y) (bf H s.heap.objs.size (.lst [])) {s with heap:=h1}:=
   Dw I Uj Yi Yd Z0 (QV _) G hC F YR W2 hoc kp hd
  have st0:S 0 h1:=T.keep 0 _ _ st λb _ o e=>kp b o e;have fr0:∀b∈fp,(bf H s.heap.objs.size (.lst [])) b=lD:=λb f=>by rw[aJ (Ri (YR b f))];exact(F b f).1
  refine zb (λx s1 z=>hEE _ _ x s1 hC z) (λn s'=>∃i σ' H',Inv (cI X s H scope h2.objs.size (et own fv) fp) [] σ' H' s'/\S i s'.heap/\(∀b∈fp,H' b=lD)/\W i n σ' H') ?_ m0 ⟨0,_,_,I0,st0,fr0,w0⟩;rintro n s5 ⟨i,h,H5,I5,st5,fr5,w5⟩;rcases turn i n h H5 w5 with⟨U,fin⟩|⟨go,N,hN,step⟩
  .refine cF (T.done (cI X s H scope h2.objs.size (et own fv) fp) rfl rfl rfl hc i [] s5 h H5 (λ_ _=>False) I5 (L fr5 (by simp)) st5 U) λr s6 ⟨hr,Q⟩=>?_;subst hr;obtain⟨mm,hm,_⟩:=Q.loc;refine hRR _ _ H5 s6 ?_ fin ⟨mm,hm⟩ hC Q.free;exact I.Zs (ch:=fp) Q.os Q.base Q.Sk Q.bare λb f=>⟨(F b f).2.2.2.1,(F b f).2.1,(F b f).2.2.2.2.1,(F b f).2.2.2.2.2⟩
  .refine cF (T.item (cI X s H scope h2.objs.size (et own fv) fp) rfl rfl rfl hc i [] s5 h H5 (λ_ _=>False) I5 (L fr5 (by simp)) st5 go) λr s6 ⟨u,hr,h6⟩=>?_
   subst hr;refine cF h6 λ_ s7 ⟨x,H7,I7,r7,y7,t,fr7⟩=>?_;have I7':=I7.pinned (fp:=fp) (L fr7 (by simp)) (T.obj _ _ t);have q:∀{a:St} {O:Hp} {P:QS},Inv (cI X s H scope h2.objs.size (et own fv) fp) ([]++pR fp s7.heap) a O P->N a O->∃m,m<n/\∃i σ' H',Inv (cI X s H scope h2.objs.size (et own fv) fp) [] σ' H' P/\S i P.heap/\(∀b∈fp,H' b=lD)/\W i m σ' H':=λ{a O P} I8 n8=>by obtain⟨m',hm,w8⟩:=hN a O n8;refine⟨m',hm,i+1,a,O,I8.Vq,T.keep _ _ _ t λb f o e=>(I8.pin (b,o) (RM _ (RM _ (i9 f e)))).1,λb f=>?_,w8⟩;obtain⟨o,e,d⟩:=T.obj _ _ t b f;exact(I8.pin (b,o) (RM _ (RM _ (i9 f e)))).2.1
   refine cF (hg _ _ s7 h H7 x u _ I7' r7 (step x H7 y7)) λ_ P ⟨a,O,I8,q8⟩=>?_;refine cF (ht _ _ P a O _ I8 q8) λok s9 ⟨H9,I9,q9⟩=>?_;cases ok with
   |false=>rw[a3 Rh]at q9⊢;exact q I9 q9
   |true=>rw[ax rfl]at q9⊢;refine cF (he _ _ s9 a H9 _ (I9.VO _) q9) λy s10 ⟨R,H10,adz,r10,ys,hy,hl,q10⟩=>?_;have I10:=adz.UI;refine cF (mM _ s10 a H10 (.ref s.heap.objs.size) [R] (.ref s.heap.objs.size) [y] (λ_ H11=>N a H11) I10 rfl (.cons r10 .nil) ⟨_,ys,R,rfl,rfl,hy,hl,q10⟩) λ_ s11 ⟨v11,H11,I11,_,q11⟩=>?_;exact q I11 q11
 exact codeAny_compStart_list (j _ rfl) (T.self _ 0 _ _ _ (T.keep 0 _ _ st λb _ o e=>kp b o e) (j _ rfl))
def oB(own:bb Str)(fv:bb (Str×Nat))(b:TI)(g:TG)(e:TT)(d:TE):TE:=λY H Q=>b Y H λJ a=>∀D,a D=lD->xW J D (hJ own fv Y) g e d a λf=>Q (.ref D) f
theorem nJ{a:SR}(ok:X.Ok)(h:∀y∈a.names,y.2=.free->(X.env.scope.names.lookup y.1=cL .cell\/X.env.scope.names.lookup y.1=cL .free)):∀y∈a.names,y.2=.free->∃c,X.env.cells.lookup y.1=cL c:=
 λy b e=>ok.has y.1 (h y b e)
theorem IP{a sc:SR}(h:(a.names.all λy=> !(y.2==Q8.free)||(sc.names.lookup y.1==cL Q8.cell)||(sc.names.lookup y.1==cL Q8.free))=QM):
  ∀y∈a.names,y.2=.free->(sc.names.lookup y.1=cL .cell\/sc.names.lookup y.1=cL .free):=λy b e=>by
 have q:=Sg.mp h y b;rw[e]at q
 simpa using q
theorem sk{elt tg iter:Q9}{ifs:bb Q9}{scope:SR}{pos:Pos}(own:bb Str)(fv:bb (Str×Nat)){wi:TI}{g:TG}{tc:TT}{te:TE}(hc:X.calm=QM)(hi:PI X tg iter wi)
  (hg:∀s H C fp,PG (cI X s H scope C (et own fv) fp) tg g) (ht:∀s H C fp,vW (cI X s H scope C (et own fv) fp) ifs tc) (he:∀s H C fp,PE (cI X s H scope C (et own fv) fp) elt te) (Z0:Wz X scope fv)
  (ZQ:(scope.names.all λy=> !(y.2==Q8.free)||(X.env.scope.names.lookup y.1==cL Q8.cell)||(X.env.scope.names.lookup y.1==cL Q8.free))=QM)
  (Uj:scope.kind=.function:=by rfl) (Yi:(scope.names.map (·.1)).Nodup:=by left)
  (Xm:∀y∈scope.names,y.2=.local->scope.names.lookup y.1=cL .local:=by left) (hs:∀x,foldedSetIterable iter X.env x=pure x:=by intro _;rfl):
  PE X (.ListComp elt [⟨tg,iter,ifs,0⟩] scope pos) (oB own fv wi g tc te):=by
 intro Z s Y H Q I h;have Yd:=IP ZQ;rw[eval_ListComp];refine XH (use:=lD) rfl hs (oh (nJ I.ok Yd)) Uj Xm (cF (hi Z s Y H _ I h) λxv s1 h1=>cF h1 λitv s2 h2=>?_);obtain⟨it,fp,tn,J,H2,e,I2,T,st2,f2,R⟩:=h2;subst e;refine pf I2 hc Uj Yi (nJ I.ok Yd) Z0 T st2 f2 (λC=>hg _ _ C _) (λC=>ht _ _ C _) (W:=λ_ _ _=>False) (λC=>he _ _ C _) (λ_ _ _ _ _ z=>z.elim) (Fin:=λD H'=>Q (.ref D) H') R ?_;intro D C H' s' I' fin hm hC hn;obtain⟨m,hm⟩:=hm;refine⟨m,hm,λh' hs'=>⟨.ref D,H',?_,rfl,fin⟩⟩;obtain⟨f0,f1,_,f3,f4,f5⟩:=I2.Xq hC hn;exact I'.turned (t':=s'.toks) (λb o hb q=>(hs'.2 b hb).trans q) f0 f1 f3 f4 f5
theorem G6{elt tg iter:Q9}{ifs:bb Q9}{scope:SR}{pos abl py:Pos}{i:Nat}{x:Str}(own:bb Str)(fv:bb (Str×Nat)){wi:TI}{g:TG}{tc:TT}{te:TE}(hN:X.N.Nodup)(hi':X.N[i]?=cL x)(hx:X.env.scope.names.lookup x=cL .local)
  (hc:X.calm=QM) (hi:PI X tg iter wi)
  (hg:∀s H C fp,PG (cI X s H scope C (et own fv) fp) tg g) (ht:∀s H C fp,vW (cI X s H scope C (et own fv) fp) ifs tc) (he:∀s H C fp,PE (cI X s H scope C (et own fv) fp) elt te) (Z0:Wz X scope fv)
  (ZQ:(scope.names.all λy=> !(y.2==Q8.free)||(X.env.scope.names.lookup y.1==cL Q8.cell)||(X.env.scope.names.lookup y.1==cL Q8.free))=QM)
  (hsw:TV (.ListComp elt [⟨tg,iter,ifs,0⟩] scope pos) (cL (.Name x py)) abl.line X.env=pure QM:=by rfl)
  (Uj:scope.kind=.function:=by rfl) (Yi:(scope.names.map (·.1)).Nodup:=by left)
  (Xm:∀y∈scope.names,y.2=.local->scope.names.lookup y.1=cL .local:=by left) (hs:∀x,foldedSetIterable iter X.env x=pure x:=by intro _;rfl):
  PS X (.Assign [.Name x py] (.ListComp elt [⟨tg,iter,ifs,0⟩] scope pos) abl) (uo (oB own fv wi g tc te) (mW i)):=by
 intro Z s Y H D I h;have Yd:=IP ZQ;rw[exec_Assign_Name_used _ _ _ _ hsw];refine Ld (aet (Ld ?_));show wpAny _ _ (do let _<-comprehension (.ListComp elt [⟨tg,iter,ifs,0⟩] scope pos) scope X.env _ (newList []) QP (eval iter X.env) (cL (assign (.Name x py) X.env))) _ _ s;refine Ld (cF (XH (use:=cL (assign (.Name x py) X.env)) (Q:=λ_ s'=>SP X Z D .next s') rfl hs (oh (nJ I.ok Yd)) Uj Xm
  (cF (hi Z s Y H _ I h) λxv s1 h1=>cF h1 λitv s2 h2=>?_)) λ_ s' q=>QW (QW q))
 obtain⟨it,fp,tn,J,H2,e,I2,T,st2,f2,R⟩:=h2;subst e;refine pf I2 hc Uj Yi (nJ I.ok Yd) Z0 T st2 f2 (λC=>hg _ _ C _) (λC=>ht _ _ C _) (W:=λ_ _ _=>False) (λC=>he _ _ C _) (λ_ _ _ _ _ z=>z.elim) (Fin:=λL H'=>D.nx (Y.set i (cL (.ref L))) H') R ?_;intro L C H' s' I' fin hm hC hn;obtain⟨m,hm⟩:=hm;obtain⟨f0,f1,f2',f3,f4,f5⟩:=I2.Xq hC hn;show wpAny _ _ (assign (.Name x py) X.env (.ref L)) _ _ s';refine aai (qC I' hN hi' (.inl hx) (v:=.ref L) rfl (λs'' I'' ⟨a,sb,ha⟩=>?_) (.inr hx));have hCa:C≠a:=by
  rcases ha with z|z
  .rw[z];exact f1
  .exact λq=>f4 x a z q.symm
 refine⟨m,hm.sameBut sb hCa,λh' hs'=>⟨_,H',?_,fin⟩⟩;exact I''.turned (t':=s''.toks) (λb o hb q=>(hs'.2 b hb).trans q) f0 f1 f3 f4 f5
end
def tY(P:Rb)(w:Rr)(K:Bn)(mg:Str->bg QN)(base:Heap)(k:Nat)(x:Str)(ps:bb Str)(sp:Sp):Prop:=
 ∃(f:QT) (a:Sl),FnOk P w K mg base l9 k f a ps sp/\Binds K a ps []/\SU K (.ref f)=QM/\mg x=cL (.ref f)
theorem rH(C:tY X.prog X.w X.K X.mg X.base k x ps sp)(d:SY j X.A)(ha:PA X (e::es) t)(i:k<=j:=by decide)(g:Gl X x:=by rfl)
  (l:(x==("__debug__":Str))=QP:=by decide) (h:Rg (e::es) X.env=(QP,eval e X.env)::Rg es X.env:=by rfl) (n:(backTo pos (Rg es X.env)).any (·.1)=QP:=by rfl):
  PE X (.Call (.Name x p) (e::es) [] pos) (rA sp [] E0 t):=by
 obtain⟨f,o,F,b,a,m⟩:=C;exact Gb F (d.mono i) g m a b .nil C3 ha l h n
theorem Ka{α:Type}{xs:bb α}{i:Int}{v:α}(a:0<=i)(h:xs[i.toNat]?=cL v):kY xs i=cL v:=by have q:=yi h;rwa [Tn a]at q
theorem Sv.tup{K:Bn}(e:Sv H H')(h:UG K H a xs):UG K H' a xs:=by
 rcases h with(h|⟨o,h⟩)|h
 .exact .inl (.inl (e _ _ h))
 .exact .inl (.inr ⟨o,e _ _ h⟩)
 .exact .inr h
theorem bO(h:H p=lD)(o:HO):Sv H (bf H p o):=λb u q=>by rw[aJ (bI q h)];exact q
theorem Cj:Ry "max"=cL (.builtin "max"):=by left
theorem rJ:Ry "isinstance"=cL (.builtin "isinstance"):=by left
theorem Nt:Ry "len"=cL (.builtin "len"):=by left
theorem ur:Ry "sorted"=cL (.builtin "sorted"):=by left
theorem Nv:Ry "all"=cL (.builtin "all"):=by left
theorem NV:Ry "any"=cL (.builtin "any"):=by left
theorem MJ:Ry "int"=cL (.type "int"):=by left
theorem DK:Ry "list"=cL (.type "list"):=by left
theorem Ep:Ry "tuple"=cL (.type "tuple"):=by left
section
variable{X:Cx}
theorem uL:S3 X (.builtin "sorted") (λxs H Q=>∃(p:QT) (ns:bb Int),xs=[.ref p]/\Uq X.K H p (ns.map V.int)/\ns.length<64/\∀(l:QT) (a:bb Int),H l=lD->a.Perm ns->a.Pairwise (·<=·)->Q (.ref l) (bf H l (.lst (a.map V.int)))):=by
 intro g s B H xs C Q I r h;obtain⟨p,ns,rfl,n,w,q⟩:=h;obtain⟨u,rfl,j⟩:=hG r;cases j;obtain⟨A,rv,pl,F⟩:=I.list n;have t:=rv.length;rw[QQ]at t;refine sorted_ints pl.isList (ju rv) (by ext) λd a hi i m=>?_;obtain⟨e,v⟩:=sortedAll_at s.heap A d;have f:a.length=ns.length:=i.length_eq;have y:d.toList.length=a.length:=hi.length;refine⟨.ref (s.heap.objs.size+1),_,I.laid (t':=s.toks) (o:=.lst (a.map V.int)) (λb E z=>sortedAll_old z) (Vh _) ?_,rfl,q _ a (I.Sk.fresh (Vh _)) i m⟩;refine⟨?_,d.toList,e,i4 hi,v⟩;rw[QQ,f];have:(64:Nat)<=Q3:=by decide
 ext
end
end L2
namespace L3
open PySem L2
abbrev D:=QO
inductive PV where
 |fz (d:D)
 |ow (ds:bb D)
 |pl (i:Nat)
abbrev aQ:=bb (bg PV)
structure Xc where
 cls:Str
 fs:bb (Str×D)
inductive Res(α:Type) where
 |ok (a:α)
 |er (x:Xc)
 |bad
namespace Res
def bind(r:Res α)(f:α->Res β):Res β:=match r with
 |.ok a=>f a
 |.er x=>.er x
 |.bad=>.bad
def RK:bg α->Res α
 |some a=>.ok a
 |none=>.bad
theorem bind_ok(a:α)(f:α->Res β):(Res.ok a).bind f=f a:=rfl
end Res
abbrev ea:=@Res.bind_ok
abbrev bS:=QT->Prop
def bZ(O:bS)(p:QT):bS:=λb=>O b\/b=p
def Ai(O:bS)(p:QT):bS:=λb=>O b/\b≠p
def Xb:bS:=λ_=>False
def Ev(O:bS)(H:Hp)(a:bS)(d:Hp):Prop:=∀b o,H b=cL o->¬O b->d b=cL o/\¬a b
theorem Ev.refl:Ev O H O H:=λ_ _ h n=>⟨h,n⟩
theorem Ev.trans(a:Ev O H O1 H1)(b:Ev O1 H1 O2 H2):Ev O H O2 H2:=λp o h n=>let⟨h1,n1⟩:=a p o h n;b p o h1 n1
theorem Ev.grow(s:Sv H H'):Ev O H O H':=λb o h n=>⟨s b o h,n⟩
theorem Ev.add(s:Sv H H')(a:H p=lD):Ev O H (bZ O p) H':=λb o h n=>⟨s b o h,λz=>z.elim n λe=>by simp_all⟩
theorem Ev.sub(h:∀b,O' b->O b):Ev O H O' H:=λb o e n=>⟨e,λz=>n (h b z)⟩
theorem Ev.mut(a:O p)(u:HO):Ev O H O (bf H p u):=λb o h n=>⟨by rw[aJ (λe=>n (by simp_all))];exact h,n⟩
def Ue(K:Bn)(H:Hp)(a:QT)(xs:bb V):Prop:=Rd H a (.lst xs)\/∃(b:bb QN) (n:Nat),K.lookup a=cL {cls:=.type "list",data:=.seq b.toArray n}/\xs.length<=Q3/\Vals xs b
theorem Ue.sq(h:Ue K H a xs):Uq K H a xs:=by
 rcases h with h|⟨RG,n,h1,h2,h3⟩
 .exact .inl h
 .exact .inr ⟨_,RG.toArray,n,h1,rfl,rfl,rfl,by rw[Q4,<-h3.length];exact h2,by ext⟩
theorem Ue.of(h:H a=cL (.lst xs)):Ue K H a xs:=.inl (.inl h)
theorem Ue.same(e:Sv H H')(h:Ue K H a xs):Ue K H' a xs:=by
 rcases h with(h|⟨o,h⟩)|h
 .exact .inl (.inl (e _ _ h))
 .exact .inl (.inr ⟨o,e _ _ h⟩)
 .exact .inr h
theorem j3(H:Hp):Sv (λ_=>lD) H:=λ_ _ h=>by cases h
def VP(O:bS)(K:Bn)(H:Hp)(a:QT)(xs:bb V):Prop:=Ue K H a xs/\(O a->Ue K (λ_=>lD) a xs)
def UN(O:bS)(K:Bn)(H:Hp)(a:QT)(xs:bb V):Prop:=UG K H a xs/\(O a->UG K (λ_=>lD) a xs)
section
variable{O Y:bS}{K:Bn}{H Z:Hp}{a:QT}{xs:bb V}
theorem VP.ev(h:VP O K H a xs)(e:Ev O H Y Z):VP Y K Z a xs:=by
 obtain⟨h,k⟩:=h;by_cases z:O a
 .exact⟨Ue.same (j3 Z) (k z),λ_=>k z⟩
 .rcases h with(h|⟨o,h⟩)|h
  .obtain⟨d,b⟩:=e a _ h z;exact⟨.inl (.inl d),λy=>a7 y b⟩
  .obtain⟨d,b⟩:=e a _ h z;exact⟨.inl (.inr ⟨o,d⟩),λy=>a7 y b⟩
  .exact⟨.inr h,λ_=>.inr h⟩
theorem UN.ev(h:UN O K H a xs)(e:Ev O H Y Z):UN Y K Z a xs:=by
 obtain⟨h,k⟩:=h;by_cases z:O a
 .exact⟨(j3 Z).tup (k z),λ_=>k z⟩
 .rcases h with(h|⟨o,h⟩)|h
  .obtain⟨d,b⟩:=e a _ h z;exact⟨.inl (.inl d),λy=>a7 y b⟩
  .obtain⟨d,b⟩:=e a _ h z;exact⟨.inl (.inr ⟨o,d⟩),λy=>a7 y b⟩
  .exact⟨.inr h,λ_=>.inr h⟩
end
mutual
inductive DV(O:bS)(K:Bn)(H:Hp):V->D->Prop
 |TF:DV O K H .TF .none
 |bl (b:Bool):DV O K H (.bl b) (.bool b)
 |int (i:Int):DV O K H (.int i) (.int i)
 |str (x:Str):DV O K H (.str x) (.str x)
 |tup {a:QT} {xs:bb V} {ds:bb D}:UN O K H a xs->Ss O K H xs ds->DV O K H (.ref a) (.tuple ds)
 |lst {a:QT} {xs:bb V} {ds:bb D}:VP O K H a xs->Ss O K H xs ds->DV O K H (.ref a) (.list ds)
inductive Ss(O:bS)(K:Bn)(H:Hp):bb V->bb D->Prop
 |nil:Ss O K H [] []
 |cons {v:V} {vs:bb V} {d:D} {ds:bb D}:DV O K H v d->Ss O K H vs ds->Ss O K H (v::vs) (d::ds)
end
section
variable{O Z:bS}{K:Bn}{H Y:Hp}
mutual
theorem DV.ev(e:Ev O H Z Y):∀{v:V} {d:D},DV O K H v d->DV Z K Y v d
 |_,_,.TF=>.TF
 |_,_,.bl b=>.bl b
 |_,_,.int i=>.int i
 |_,_,.str x=>.str x
 |_,_,.tup h hs=>.tup (h.ev e) (Ss.ev e hs)
 |_,_,.lst h hs=>.lst (h.ev e) (Ss.ev e hs)
theorem Ss.ev(e:Ev O H Z Y):∀{vs:bb V} {ds:bb D},Ss O K H vs ds->Ss Z K Y vs ds
 |_,_,.nil=>.nil
 |_,_,.cons h hs=>.cons (DV.ev e h) (Ss.ev e hs)
end
theorem Ss.length:∀{vs:bb V} {ds:bb D},Ss O K H vs ds->vs.length=ds.length
 |_,_,.nil=>rfl
 |_,_,.cons _ t=>by rw[QZ,QZ,t.length]
theorem Ss.get:∀{vs:bb V} {ds:bb D} {i:Nat} {d:D},Ss O K H vs ds->ds[i]?=cL d->∃v,vs[i]?=cL v/\DV O K H v d
 |_,_,_,_,.nil,e=>by simp at e
 |_,_,0,_,.cons h _,e=>by simp_all
 |_,_,i+1,d,.cons _ t,e=>by obtain⟨v,b,a⟩:=Ss.get t (by simpa using e);simp_all
theorem Ss.Yk:∀{vs:bb V} {ds:bb D} {i:Nat} {v:V},Ss O K H vs ds->vs[i]?=cL v->∃d,ds[i]?=cL d/\DV O K H v d
 |_,_,_,_,.nil,e=>by simp at e
 |_,_,0,_,.cons h _,e=>by simp_all
 |_,_,i+1,v,.cons _ t,e=>by obtain⟨d,b,a⟩:=Ss.Yk t (by simpa using e);simp_all
theorem Ss.append:∀{vs ws:bb V} {ds es:bb D},Ss O K H vs ds->Ss O K H ws es->Ss O K H (vs++ws) (ds++es)
 |_,_,_,_,.nil,h=>h
 |_,_,_,_,.cons h t,g=>.cons h (Ss.append t g)
theorem Ss.take:∀{vs:bb V} {ds:bb D} (n:Nat),Ss O K H vs ds->Ss O K H (vs.take n) (ds.take n)
 |_,_,0,_=>.nil
 |_,_,_+1,.nil=>.nil
 |_,_,n+1,.cons h t=>.cons h (Ss.take n t)
theorem Ss.drop:∀{vs:bb V} {ds:bb D} (n:Nat),Ss O K H vs ds->Ss O K H (vs.drop n) (ds.drop n)
 |_,_,0,h=>h
 |_,_,_+1,.nil=>.nil
 |_,_,n+1,.cons _ t=>Ss.drop n t
theorem Ss.flat(h:Ss O K H vs ds):∀n:Nat,Ss O K H (QX n vs).flatten (QX n ds).flatten
 |0=>.nil
 |n+1=>by rw[RY,RY,SQ,SQ];exact h.append (Ss.flat h n)
mutual
theorem DV.plain:∀{v:V} {d:D},DV O K H v d->L2.DV K H v d
 |_,_,.TF=>.TF
 |_,_,.bl b=>.bl b
 |_,_,.int i=>.int i
 |_,_,.str x=>.str x
 |_,_,.tup h hs=>.tup h.1 (Ss.plain hs)
 |_,_,.lst h hs=>.lst h.1.sq (Ss.plain hs)
theorem Ss.plain:∀{vs:bb V} {ds:bb D},Ss O K H vs ds->L2.Ss K H vs ds
 |_,_,.nil=>.nil
 |_,_,.cons h hs=>.cons (DV.plain h) (Ss.plain hs)
end
end
def DX(O:bS)(K:Bn)(H:Hp)(v:V):D->Prop
 |.list ds=>∃a xs,v=.ref a/\Ue K H a xs/\Ss O K H xs ds
 |d=>DV O K H v d
theorem DV.x(h:DV O K H v d):DX O K H v d:=by
 cases h with
 |lst h a=>exact⟨_,_,rfl,h.1,a⟩
 |TF=>exact .TF
 |bl b=>exact .bl b
 |int i=>exact .int i
 |str x=>exact .str x
 |tup h a=>exact .tup h a
theorem DX.plain(h:DX O K H v d):L2.DV K H v d:=by
 cases d with
 |list ds=>obtain⟨a,xs,rfl,f,e⟩:=h;exact .lst f.sq e.plain
 |none=>exact DV.plain h
 |bool b=>exact DV.plain h
 |int i=>exact DV.plain h
 |str x=>exact DV.plain h
 |tuple ds=>exact DV.plain h
 |dict kvs=>exact DV.plain h
def Wu(K:Bn)(b:Hp)(O:bS)(H:Hp)(v:V):PV->Prop
 |.fz d=>DV O K H v d
 |.ow ds=>∃a vs,v=.ref a/\O a/\b a=lD/\H a=cL (.lst vs)/\Ss O K H vs ds
 |.pl _=>False
structure Rl(K:Bn)(B:bS)(H0:Hp)(O:bS)(σ:St)(H:Hp)(ρ:aQ):Prop where
 same:Sv H0 H
 bo:∀a,B a->O a
 bd:∀a,B a->H0 a≠lD
 od:∀a,H a=lD->¬O a
 len:σ.length=ρ.length
 slot:∀(i:Nat) (x:PV),ρ[i]?=cL (cL x)->∃v,σ[i]?=cL (cL v)/\Wu K H0 O H v x
 one:∀(i j:Nat) (ds es:bb D) (v:V),ρ[i]?=cL (cL (.ow ds))->ρ[j]?=cL (cL (.ow es))->σ[i]?=cL (cL v)->σ[j]?=cL (cL v)->i=j
def U1(K:Bn)(e:Hp)(O:bS)(b:St)(H:Hp)(ρ:aQ)(v:V):PV->Prop
 |.fz d=>DV O K H v d
 |.ow ds=>∃a vs,v=.ref a/\O a/\e a=lD/\H a=cL (.lst vs)/\Ss O K H vs ds/\∀(i:Nat) (es:bb D),ρ[i]?=cL (cL (.ow es))->b[i]?≠cL (cL (.ref a))
 |.pl i=>b[i]?=cL (cL v)
def j9:PV->Prop
 |.ow _=>False
 |_=>True
def bu:PV->PV
 |.ow ds=>.fz (.list ds)
 |p=>p
section
variable{K:Bn}{B O X:bS}{Z H U:Hp}{Y:St}{ρ ρ':aQ}{v:V}
theorem Wu.grow(s:Sv H U)(h:Wu K Z O H v x):Wu K Z O U v x:=by
 cases x with
 |fz d=>exact DV.ev (Ev.grow s) h
 |ow ds=>obtain⟨a,vs,e,j,g,f,b⟩:=h;exact⟨a,vs,e,j,g,s _ _ f,b.ev (Ev.grow s)⟩
 |pl i=>exact h
theorem Rl.grow(R:Rl K B Z O Y H ρ)(s:Sv H U):Rl K B Z O Y U ρ:=
 ⟨R.same.trans s,R.bo,R.bd,λa h=>R.od a (s.free h),R.len,λi x h=>let⟨v,h1,h2⟩:=R.slot i x h;⟨v,h1,h2.grow s⟩,R.one⟩
theorem Rl.Zx(R:Rl K B Z O Y H ρ)(h:H p=lD):Z p=lD:=R.same.free h
theorem Rl.add(R:Rl K B Z O Y H ρ)(s:Sv H U)(f:H p=lD)(g:U p≠lD):Rl K B Z (bZ O p) Y U ρ:=by
 refine⟨R.same.trans s,λa h=>.inl (R.bo a h),R.bd,λa h z=>z.elim (R.od a (s.free h)) λe=>g (by simp_all),R.len,λi x h=>?_,R.one⟩;obtain⟨v,j,b⟩:=R.slot i x h;refine⟨v,j,?_⟩;cases x with
 |fz d=>exact DV.ev (Ev.add s f) b
 |ow ds=>obtain⟨a,vs,e,o,n,m,l⟩:=b;exact⟨a,vs,e,.inl o,n,s _ _ m,l.ev (Ev.add s f)⟩
 |pl i=>exact b
theorem Rl.Y4(R:Rl K B Z O Y H ρ)(h:Z a=lD):¬B a:=λz=>R.bd a z h
theorem Rl.sub(R:Rl K B Z O Y H ρ){a:QT}(m:Z a=lD)(h:∀(i:Nat) (es:bb D),ρ[i]?=cL (cL (.ow es))->Y[i]?≠cL (cL (.ref a))):Rl K B Z (Ai O a) Y H ρ:=by
 refine⟨R.same,λb f=>⟨R.bo b f,λe=>R.Y4 m (e▸f)⟩,R.bd,λb f z=>R.od b f z.1,R.len,λi x j=>?_,R.one⟩;obtain⟨v,l,g⟩:=R.slot i x j;refine⟨v,l,?_⟩;cases x with
 |fz d=>exact DV.ev (Ev.sub λb z=>z.1) g
 |ow ds=>obtain⟨b,vs,e,q,p,o,n⟩:=g;subst e;exact⟨b,vs,rfl,⟨q,λe=>h i ds j (by rw[l,e])⟩,p,o,n.ev (Ev.sub λb z=>z.1)⟩
 |pl i=>exact g
theorem rR(h:H a=cL (.lst vs))(n:¬O a)(hd:Ss O K H vs ds):DV O K H (.ref a) (.list ds):=.lst ⟨Ue.of h,λz=>a7 z n⟩ hd
theorem fT{pv:PV}(R:Rl K B Z O Y H ρ)(h:U1 K Z O Y H ρ v pv):∃X,Ev O H X H/\Rl K B Z X Y H ρ/\U1 K Z X Y H ρ v (bu pv):=by
 cases pv with
 |fz d=>exact⟨O,.refl,R,h⟩
 |pl i=>exact⟨O,.refl,R,h⟩
 |ow ds=>obtain⟨a,vs,rfl,l,j,g,f,e⟩:=h;exact⟨Ai O a,Ev.sub λb z=>z.1,R.sub j e,rR g (λz=>z.2 rfl) (f.ev (Ev.sub λb z=>z.1))⟩
theorem jZ(pv:PV):j9 (bu pv):=by cases pv<;>trivial
theorem U1.keep{pv:PV}(a:j9 pv)(e:Ev O H X U)(h:U1 K Z O Y H ρ v pv):U1 K Z X Y U ρ' v pv:=by
 cases pv with
 |fz d=>exact DV.ev e h
 |pl i=>exact h
 |ow ds=>exact a.elim
def Pt:bg (bg PV)->bg D
 |some (cL (.fz d))=>cL d
 |some (cL (.ow ds))=>cL (.list ds)
 |_=>lD
def qB(ρ:aQ):PV->bg D
 |.fz d=>cL d
 |.ow ds=>cL (.list ds)
 |.pl i=>Pt ρ[i]?
theorem jF{pv:PV}(R:Rl K B Z O Y H ρ)(h:U1 K Z O Y H ρ v pv)(e:qB ρ pv=cL d):DX O K H v d:=by
 cases pv with
 |fz p=>cases e;exact DV.x h
 |ow ds=>cases e;obtain⟨a,vs,rfl,w,t,m,l,r⟩:=h;exact⟨a,vs,rfl,Ue.of m,l⟩
 |pl i=>
  have b:Pt ρ[i]?=cL d:=e;have n:=h;cases q:ρ[i]? with
  |none=>rw[q]at b;cases b
  |some o=>
   cases o with
   |none=>rw[q]at b;cases b
   |some x=>
    obtain⟨u,g,f⟩:=R.slot i x q;rw[n]at g;cases g;rw[q]at b;cases x with
    |fz p=>cases b;exact DV.x f
    |ow ds=>cases b;obtain⟨a,vs,rfl,k1,k2,k3,k4⟩:=f;exact⟨a,vs,rfl,Ue.of k3,k4⟩
    |pl j=>exact f.elim
def OI(ρ:aQ)(i:Nat):bg (bg PV)->bg (D×aQ)
 |some (cL (.fz d))=>cL (d,ρ)
 |some (cL (.ow ds))=>cL (.list ds,ρ.set i (cL (.fz (.list ds))))
 |_=>lD
def uw(ρ:aQ):PV->bg (D×aQ)
 |.fz d=>cL (d,ρ)
 |.ow ds=>cL (.list ds,ρ)
 |.pl i=>OI ρ i ρ[i]?
theorem bL{l:bb α}(h:(l.set i x)[j]?=cL y):(j=i/\y=x)\/(j≠i/\l[j]?=cL y):=by
 rw[R0]at h;by_cases e:i=j
 .rw[ax e]at h
  split at h
  .cases h;exact .inl ⟨e.symm,rfl⟩
  .cases h
 .rw[a3 e]at h;exact .inr ⟨λz=>e z.symm,h⟩
theorem qL{pv:PV}(R:Rl K B Z O Y H ρ)(h:U1 K Z O Y H ρ v pv)(e:uw ρ pv=cL (d,ρ')):∃X,Ev O H X H/\Rl K B Z X Y H ρ'/\DV X K H v d:=by
 cases pv with
 |fz T=>cases e;exact⟨O,.refl,R,h⟩
 |ow ds=>cases e;obtain⟨a,vs,rfl,h1,S,Q,P,N⟩:=h;exact⟨Ai O a,Ev.sub λb z=>z.1,R.sub S N,rR Q (λz=>z.2 rfl) (P.ev (Ev.sub λb z=>z.1))⟩
 |pl i=>
  have f:OI ρ i ρ[i]?=cL (d,ρ'):=e;have t:=h;cases q:ρ[i]? with
  |none=>rw[q]at f;cases f
  |some o=>
   cases o with
   |none=>rw[q]at f;cases f
   |some x=>
    obtain⟨u,C,y⟩:=R.slot i x q;rw[t]at C;cases C;rw[q]at f;cases x with
    |fz T=>cases f;exact⟨O,.refl,R,y⟩
    |pl j=>exact y.elim
    |ow ds=>
     cases f;obtain⟨a,vs,rfl,k1,k2,k3,k4⟩:=y;have es:Ev O H (Ai O a) H:=Ev.sub λb z=>z.1;have E:=rR k3 (λz=>z.2 rfl) (k4.ev es);refine⟨Ai O a,es,⟨R.same,λb m=>⟨R.bo b m,λe=>R.Y4 k2 (e▸m)⟩,R.bd,λb m z=>R.od b m z.1,by rw[RU];exact R.len,λj x l=>?_,λj k xs F w r p=>?_⟩,E⟩
     .rcases bL l with⟨rfl,g⟩|⟨U0,l⟩
      .cases g;exact⟨_,t,E⟩
      .obtain⟨u,A,n⟩:=R.slot j x l
       refine⟨u,A,?_⟩;cases x with
       |fz d=>exact DV.ev es n
       |pl i=>exact n
       |ow xs=>obtain⟨b,G,rfl,M,L,J,I⟩:=n;exact⟨b,G,rfl,⟨M,λz=>U0 (R.one j i xs ds (.ref a) l q (by rw[A,z]) t)⟩,L,J,I.ev es⟩
     .rcases bL r with⟨rfl,g⟩|⟨_,r⟩
      .cases g
      .rcases bL p with⟨rfl,g⟩|⟨_,p⟩
       .cases g
       .exact R.one j k xs F w r p
end
def Y7(K:Bn)(B:bS)(H:Hp)(c:QN)(dx:bg QT)(x:Xc):Prop:=
 (∃a,c=.ref a/\RA K Rk x.cls=cL (cL (.ref a)))/\∃fs,(∀p,dx=cL p->H p=cL (.xd fs))/\∀f d,x.fs.lookup f=cL d->dx≠lD/\∃v,fs.lookup f=cL v/\DV B K H v d
def XE(K:Bn)(B:bS)(a:Hp)(E:XK)(x:Xc):Prop:=∀c dx H',Sv a H'->Y7 K B H' c dx x->E c dx H'
def WR(K:Bn)(E:XK)(B:bS)(b:Hp)(P:α->Prop):Res α->Prop
 |.ok a=>P a
 |.er x=>XE K B b E x
 |.bad=>False
section
variable{K:Bn}{E:XK}{B:bS}{Z:Hp}
theorem WR.bind(h:WR K E B Z P (r.bind k)):WR K E B Z (λa=>WR K E B Z P (k a)) r:=by cases r<;>exact h
theorem WR.RK(h:WR K E B Z P ((Res.RK o).bind k)):∃a,o=cL a/\WR K E B Z P (k a):=by
 cases o with
 |none=>exact h.elim
 |some a=>exact⟨a,rfl,h⟩
theorem WR.imp(h:WR K E B Z P r)(g:∀a,P a->P' a):WR K E B Z P' r:=by
 cases r with
 |ok a=>exact g a h
 |er x=>exact h
 |bad=>exact h
end
abbrev FE:=aQ->Res (PV×aQ)
abbrev FT:=aQ->Res (Bool×aQ)
abbrev FA:=aQ->Res (bb PV×aQ)
def EO(K:Bn)(E:XK)(t:TE)(f:FE):Prop:=
 ∀(B:bS) (b:Hp) (O:bS) (a:St) (H:Hp) (ρ:aQ) (Q:VK),Rl K B b O a H ρ->WR K E B b (λr=>∀O' v H',Ev O H O' H'->Rl K B b O' a H' r.2->U1 K b O' a H' r.2 v r.1->Q v H') (f ρ)->t a H Q
def Xs(K:Bn)(E:XK)(t:TT)(f:FT):Prop:=
 ∀(B:bS) (b:Hp) (O:bS) (a:St) (H:Hp) (ρ:aQ) (Q:Bool->Hp->Prop),Rl K B b O a H ρ->WR K E B b (λr=>∀O' H',Ev O H O' H'->Rl K B b O' a H' r.2->Q r.1 H') (f ρ)->t a H Q
def AO(K:Bn)(E:XK)(t:TA)(f:FA):Prop:=
 ∀(B:bS) (b:Hp) (O:bS) (a:St) (H:Hp) (ρ:aQ) (Q:bb V->Hp->Prop),Rl K B b O a H ρ->WR K E B b (λr=>∀O' vs H',Ev O H O' H'->Rl K B b O' a H' r.2->Paired (λv pv=>U1 K b O' a H' r.2 v pv/\j9 pv) vs r.1->Q vs H') (f ρ)->t a H Q
inductive RV where
 |fz (d:D)
 |ow (ds:bb D)
def RV.pv:RV->PV
 |.fz d=>.fz d
 |.ow ds=>.ow ds
def Fin(O:bS)(K:Bn)(H:Hp)(Q:VK):RV->Prop
 |.fz d=>∀v H',Sv H H'->DV O K H' v d->Q v H'
 |.ow ds=>∀p vs H',Sv H H'->H p=lD->H' p=cL (.lst vs)->Ss (bZ O p) K H' vs ds->Q (.ref p) H'
def l8(O:bS)(H:Hp):Prop:=∀a,H a=lD->¬O a
section
variable{K:Bn}{E:XK}{B O U:bS}{Y H X:Hp}{Z:St}{ρ ρ':aQ}{v:V}
theorem kR(R:Rl K B Y O Z H ρ)(h:∀U v X,Ev O H U X->Rl K B Y U Z X ρ->U1 K Y U Z X ρ v rv.pv->Q v X):Fin O K H Q rv:=by
 cases rv with
 |fz d=>exact λv X s f=>h O v X (Ev.grow s) (R.grow s) f
 |ow ds=>intro p vs X s b e f;refine h (bZ O p) (.ref p) X (Ev.add s b) (R.add s b (by rw[e];simp)) ⟨p,vs,rfl,.inr rfl,R.Zx b,e,f,λi es hi z=>?_⟩;obtain⟨u,g,a,l,e2,o,n,j,m⟩:=R.slot i _ hi;rw[z]at g;cases g;cases e2;rw[b]at j;cases j
theorem Fin.new(hd:Ss O K H vs ds)(h:Fin O K H Q (.ow ds)):∀p,H p=lD->Q (.ref p) (bf H p (.lst vs)):=λp a=>
 h p vs _ (bO a _) a aE (hd.ev (Ev.add (bO a _) a))
theorem Fin.Yl(hd:Ss O K H vs ds)(b:l8 O H)(h:Fin O K H Q (.fz (.tuple ds))):∀p,H p=lD->Q (.ref p) (bf H p (.tup vs)):=λp a=>
 h (.ref p) _ (bO a _) (.tup ⟨UG.of aE,λz=>a7 z (b p a)⟩ (hd.ev (Ev.grow (bO a _))))
theorem Fin.at(h:Fin O K H Q (.fz d))(a:DV O K H v d):Q v H:=h v H (Sv.refl H) a
def x0(ρ:aQ)(i:Nat):bg (bg PV)->Res (PV×aQ)
 |some (cL (.fz d))=>.ok (.fz d,ρ)
 |some (cL (.ow _))=>.ok (.pl i,ρ)
 |_=>.bad
def aa(i:Nat):FE:=λρ=>x0 ρ i ρ[i]?
theorem Lf:EO K E (u7 i) (aa i):=by
 intro B Y O Z H ρ Q R w;unfold aa at w;cases q:ρ[i]? with
 |none=>rw[q]at w;exact w.elim
 |some o=>
  cases o with
  |none=>rw[q]at w;exact w.elim
  |some x=>
   rw[q]at w;obtain⟨v,a,b⟩:=R.slot i x q;cases x with
   |fz d=>exact⟨v,a,w O v H .refl R b⟩
   |ow ds=>exact⟨v,a,w O v H .refl R a⟩
   |pl j=>exact w.elim
def pC(d:D):FE:=λρ=>.ok (.fz d,ρ)
theorem AF(h:∀O H,DV O K H v d):EO K E (tC v) (pC d):=λB Y O Z H ρ Q R w=>w O v H .refl R (h O H)
theorem JA:EO K E (tC (.int i)) (pC (.int i)):=AF λ_ _=>.int i
theorem Ol:EO K E (tC (.bl b)) (pC (.bool b)):=AF λ_ _=>.bl b
theorem Jy:EO K E (tC (.str x)) (pC (.str x)):=AF λ_ _=>.str x
theorem J4:EO K E (tC .TF) (pC .none):=AF λ_ _=>.TF
def jR(K:Bn)(r:R2)(f:D->D->bg RV):Prop:=∀(O:bS) (H:Hp) (x y:V) (dx a:D) (rv:RV) (Q:VK),l8 O H->DX O K H x dx->DX O K H y a->f dx a=cL rv->Fin O K H Q rv->r x y H Q
def au(f:D->D->bg RV)(fa d:FE):FE:=λρ=>(fa ρ).bind λa=>(d a.2).bind λb=>(Res.RK (qB b.2 (bu a.1))).bind λdx=>(Res.RK (qB b.2 b.1)).bind λe=>(Res.RK (f dx e)).bind λrv=>.ok (rv.pv,b.2)
theorem Iz(q:jR K r f)(ha:EO K E ta fa)(t:EO K E tb fb):EO K E (Eh r ta tb) (au f fa fb):=by intro B Y O Z H ρ Q R w;refine ha B Y O Z H ρ _ R (w.bind.imp λa h M x L e1 A p=>?_);obtain⟨G,e2,R2,o⟩:=fT A p;refine t B Y G Z L a.2 _ R2 (h.bind.imp λb d F y J e3 e n=>?_);have g:=o.keep (jZ a.1) e3 (ρ':=b.2);obtain⟨dx,j,d⟩:=d.RK;obtain⟨u,i,d⟩:=d.RK;obtain⟨rv,l,d⟩:=d.RK;refine q F J x y dx u rv Q e.od (jF e g j) (jF e n i) l (kR e λC v I e4 z m=>?_);exact d C v I (e1.trans (e2.trans (e3.trans e4))) z m
def OZ:D->bg Bool
 |.bool b=>cL b
 |_=>lD
theorem Kc(h:DX O K H x d)(e:OZ d=cL b):x=.bl b:=by cases d<;>cases e;cases h;rfl
def ar(fa:FE):aQ->Res (Bool×aQ):=λρ=>(fa ρ).bind λa=>(Res.RK (qB a.2 a.1)).bind λd=>(Res.RK (OZ d)).bind λb=>.ok (b,a.2)
theorem oO(ha:EO K E ta fa):Xs K E (qV ta) (ar fa):=by intro B Y O Z H ρ Q R w;refine ha B Y O Z H ρ _ R (w.bind.imp λa e j x l e1 f i=>?_);obtain⟨d,g,e⟩:=e.RK;obtain⟨b,h,e⟩:=e.RK;exact⟨b,Kc (jF f i g) h,e j l e1 f⟩
theorem NZ(ha:EO K E ta fa):Xs K E (tB ta) (ar fa):=oO ha
def gI(fa b:FT):FT:=λρ=>(fa ρ).bind λa=>if a.1=QM then b a.2 else .ok (QP,a.2)
def uV(fa:FT):FT:=λρ=>(fa ρ).bind λa=>.ok (!a.1,a.2)
theorem Xs.next(h:Xs K E t f)(R:Rl K B Y O1 Z H1 ρ)(e1:Ev O H O1 H1)(w:WR K E B Y (λr=>∀U X,Ev O H U X->Rl K B Y U Z X r.2->Q r.1 X) (f ρ)):t Z H1 Q:=
 h B Y O1 Z H1 ρ Q R (w.imp λr q U X a b=>q U X (e1.trans a) b)
theorem EO.next(h:EO K E t f)(R:Rl K B Y O1 Z H1 ρ)(e1:Ev O H O1 H1)(w:WR K E B Y (λr=>∀U v X,Ev O H U X->Rl K B Y U Z X r.2->U1 K Y U Z X r.2 v r.1->Q v X) (f ρ)):t Z H1 Q:=
 h B Y O1 Z H1 ρ Q R (w.imp λr q U v X b d a=>q U v X (e1.trans b) d a)
theorem EF(j:Xs K E t f)(i:Xs K E u g):Xs K E (J5 t u) (gI f g):=by
 intro B Y O Z H ρ Q R w;refine j B Y O Z H ρ _ R (w.bind.imp λa d l m e1 e=>?_);obtain⟨b,h⟩:=a;cases b with
 |true=>exact i.next e e1 d
 |false=>exact d l m e1 e
theorem E3(d:Xs K E t f):Xs K E (Ho t) (uV f):=by intro B Y O Z H ρ Q R w;exact d B Y O Z H ρ _ R (w.bind.imp λa b g h e1 e=>b g h e1 e)
def ef:FT:=λρ=>.ok (QM,ρ)
theorem BM:Xs K E Di ef:=λB Y O Z H ρ Q R w=>w O H .refl R
def Ih(c:FT)(fa b:FE):FE:=λρ=>(c ρ).bind λa=>if a.1=QM then fa a.2 else b a.2
theorem Oc(g:Xs K E t c)(ha:EO K E ta fa)(h:EO K E tb fb):EO K E (Oo t ta tb) (Ih c fa fb):=by
 intro B Y O Z H ρ Q R w;refine g B Y O Z H ρ _ R (w.bind.imp λa d i j e1 e=>?_);obtain⟨b,f⟩:=a;cases b with
 |true=>exact ha.next e e1 d
 |false=>exact h.next e e1 d
def jO(f g:D->D->bg RV)(fa e fc:FE):FE:=λρ=>(fa ρ).bind λa=>(e a.2).bind λb=>(Res.RK (qB b.2 (bu a.1))).bind λdx=>(Res.RK (qB b.2 (bu b.1))).bind λi=>
 (Res.RK (f dx i)).bind λrv=>match rv with
  |.fz (.bool QM)=>(fc b.2).bind λc=>(Res.RK (qB c.2 (bu b.1))).bind λd=>(Res.RK (qB c.2 c.1)).bind λh=>(Res.RK (g d h)).bind λrv=>.ok (rv.pv,c.2)
  |.fz (.bool QP)=>.ok (.fz (.bool QP),b.2)
  |_=>.bad
theorem DH(hr:jR K r f)(p:jR K r' g)(ha:EO K E ta fa)(hb:EO K E tb fb)(hc:EO K E tc fc):EO K E (vV r r' ta tb tc) (jO f g fa fb fc):=by
 intro B Y O Z H ρ Q R w;refine ha B Y O Z H ρ _ R (w.bind.imp λa G O1 x H1 e1 R1 p1=>?_);obtain⟨O2,e2,R2,T⟩:=fT R1 p1;refine hb B Y O2 Z H1 a.2 _ R2 (G.bind.imp λb e O3' y F q u n=>?_);obtain⟨i,e3,l,A⟩:=fT u n;have e3:=q.trans e3;have o:=T.keep (jZ a.1) e3 (ρ':=b.2);obtain⟨dx,L,e⟩:=e.RK;obtain⟨dy,J,e⟩:=e.RK;obtain⟨rv,N,e⟩:=e.RK;refine hr i F x y dx dy rv _ l.od (jF l o L) (jF l A J) N ?_;cases rv with
 |ow ds=>exact e.elim
 |fz d=>
  intro v X s dv;cases dv with
  |bl k=>
   refine⟨k,rfl,?_⟩;have C:=l.grow s;have e4:Ev i F i X:=Ev.grow s;cases k with
   |false=>exact e i _ X (e1.trans (e2.trans (e3.trans e4))) C (.bl QP)
   |true=>rw[ax rfl];refine hc B Y i Z X b.2 _ C (WR.imp (WR.bind e) λc h O5 z H5 e5 j S=>?_);obtain⟨t,m,h⟩:=h.RK;obtain⟨dz,I,h⟩:=h.RK;obtain⟨rv,M,h⟩:=h.RK;refine p O5 H5 y z t dz rv Q j.od (jF j (A.keep (jZ b.1) (e4.trans e5)) m) (jF j S I) M (kR j λO6 v H6 e6 R6 P=>?_);exact h O6 v H6 (e1.trans (e2.trans (e3.trans (e4.trans (e5.trans e6))))) R6 P
  |_=>exact e.elim
def ap:FA:=λρ=>.ok ([],ρ)
def ae(fa:FE)(d:FA):FA:=λρ=>(fa ρ).bind λa=>(d a.2).bind λb=>.ok (bu a.1::b.1,b.2)
theorem Jc:AO K E kx ap:=λB Y O Z H ρ Q R w=>w O [] H .refl R .nil
theorem EI(ha:EO K E ta fa)(j:AO K E tr fr):AO K E (iC ta tr) (ae fa fr):=by intro B Y O Z H ρ Q R w;refine ha B Y O Z H ρ _ R (w.bind.imp λa f r x q e1 m i=>?_);obtain⟨o,e2,R2,h⟩:=fT m i;refine j B Y o Z q a.2 _ R2 (f.bind.imp λb e n d p e3 l g=>?_);exact e n (x::d) p (e1.trans (e2.trans e3)) l (.cons ⟨h.keep (jZ a.1) e3,jZ a.1⟩ g)
def uM(ρ:aQ):bb PV->bg (bb D)
 |[]=>cL []
 |p::r=>match qB ρ p with
  |some d=>(match uM ρ r with
   |some ds=>cL (d::ds)
   |none=>lD)
  |none=>lD
theorem vK(R:Rl K B Y O Z H ρ):∀{vs:bb V} {ps:bb PV} {ds:bb D},Paired (λv pv=>U1 K Y O Z H ρ v pv/\j9 pv) vs ps->uM ρ ps=cL ds->Paired (DX O K H) vs ds
 |_,_,_,.nil,e=>by cases e;exact .nil
 |_,_,_,.cons (l₂:=ps) (b:=p) h t,e=>by
  unfold uM at e;cases q:qB ρ p with
  |none=>simp_all
  |some d=>
   rw[q]at e;dsimp only at e;cases q2:uM ρ ps with
   |none=>simp_all
   |some a=>rw[q2]at e;cases e;exact .cons (jF R h.1 q) (vK R t q2)
def nu(ρ:aQ):bb PV->bg (bb D×aQ)
 |[]=>cL ([],ρ)
 |p::r=>match uw ρ p with
  |some (d,ρ1)=>(match nu ρ1 r with
   |some (ds,ρ2)=>cL (d::ds,ρ2)
   |none=>lD)
  |none=>lD
theorem pL:∀{vs:bb V} {ps:bb PV} {ds:bb D} {O:bS} {ρ ρ':aQ},Rl K B Y O Z H ρ->Paired (λv pv=>U1 K Y O Z H ρ v pv/\j9 pv) vs ps->nu ρ ps=cL (ds,ρ')->∃U,Ev O H U H/\Rl K B Y U Z H ρ'/\Ss U K H vs ds
 |_,_,_,O,_,_,R,.nil,e=>by cases e;exact⟨O,.refl,R,.nil⟩
 |_,_,_,O,ρ,ρ',R,.cons (l₁:=vs) (l₂:=ps) (b:=p) h t,e=>by
  unfold nu at e;cases q:uw ρ p with
  |none=>simp_all
  |some r=>
   obtain⟨d,a⟩:=r;rw[q]at e;dsimp only at e;cases q2:nu a ps with
   |none=>simp_all
   |some j=>obtain⟨m,g⟩:=j;rw[q2]at e;cases e;obtain⟨y,e1,u,o⟩:=qL R h.1 q;have i:Paired (λv pv=>U1 K Y y Z H a v pv/\j9 pv) vs ps:=Paired.TU t λv pv ⟨l,f⟩=>⟨l.keep f e1,f⟩;obtain⟨w,e2,R2,n⟩:=pL u i q2;exact⟨w,e1.trans e2,R2,.cons (o.ev e2) n⟩
abbrev FN:=bb D->Res RV
def zP(K:Bn)(n:Nat)(F:FN):Sp:=λvs H Q E=>vs.length=n/\∃(B:bS) (ds:bb D),(∀a,B a->H a≠lD)/\Ss B K H vs ds/\WR K E B H (Fin B K H Q) (F ds)
def aN(fa:FA):FE:=λρ=>(fa ρ).bind λa=>(Res.RK (nu a.2 a.1)).bind λb=>if b.1.length<=1000 then .ok (.fz (.tuple b.1),b.2)else .bad
def cz(fa:FA):FE:=λρ=>(fa ρ).bind λa=>(Res.RK (nu a.2 a.1)).bind λb=>if b.1.length<=1000 then .ok (.ow b.1,b.2)else .bad
theorem wy(h:n<=1000):n<=Q3:=Rp h (by decide)
theorem Kn(ha:AO K E ta fa):EO K E (E8 ta) (aN fa):=by
 intro B Y O Z H ρ Q R w;refine ha B Y O Z H ρ _ R (w.bind.imp λa f o vs p e1 j h=>?_);obtain⟨⟨ds,e⟩,q,b⟩:=f.RK;obtain⟨n,e2,R2,d⟩:=pL j h q;dsimp only at b;by_cases hn:ds.length<=1000
 .rw[ax hn]at b;refine⟨by rw[d.length];exact wy hn,Fin.Yl d R2.od (kR R2 λl v m e3 i g=>b l v m (e1.trans (e2.trans e3)) i g)⟩
 .rw[a3 hn]at b;exact b.elim
theorem K1(ha:AO K E ta fa):EO K E (LO ta) (cz fa):=by
 intro B Y O Z H ρ Q R w;refine ha B Y O Z H ρ _ R (w.bind.imp λa f o vs p e1 j h=>?_);obtain⟨⟨ds,e⟩,q,b⟩:=f.RK;obtain⟨n,e2,R2,d⟩:=pL j h q;dsimp only at b;by_cases hn:ds.length<=1000
 .rw[ax hn]at b;refine⟨by rw[d.length];exact wy hn,Fin.new d (kR R2 λl v m e3 i g=>b l v m (e1.trans (e2.trans e3)) i g)⟩
 .rw[a3 hn]at b;exact b.elim
def vt(K:Bn)(r:bb V->Hp->VK->Prop)(f:bb D->bg RV):Prop:=∀(O:bS) (H:Hp) (xs:bb V) (ds:bb D) (rv:RV) (Q:VK),l8 O H->Paired (DX O K H) xs ds->f ds=cL rv->Fin O K H Q rv->r xs H Q
def dR(f:bb D->bg RV)(fa:FA):FE:=λρ=>(fa ρ).bind λa=>(Res.RK (uM a.2 a.1)).bind λds=>(Res.RK (f ds)).bind λrv=>.ok (rv.pv,a.2)
theorem IR(j:vt K r f)(ha:AO K E ta fa):EO K E (zY r ta) (dR f fa):=by intro B Y O Z H ρ Q R w;refine ha B Y O Z H ρ _ R (w.bind.imp λa e n vs p e1 d i=>?_);obtain⟨ds,q,b⟩:=e.RK;obtain⟨rv,g,b⟩:=b.RK;exact j n p vs ds rv Q d.od (vK d i q) g (kR d λm v o e4 l h=>b m v o (e1.trans e4) l h)
def Pc:D->bg Int
 |.int i=>cL i
 |_=>lD
theorem KJ(h:DX O K H x d)(e:Pc d=cL i):x=.int i:=by cases d<;>cases e;cases h;rfl
abbrev FO:=aQ->Res (bg Int×aQ)
def Oq(K:Bn)(E:XK)(t:TO)(f:FO):Prop:=
 ∀(B:bS) (Y:Hp) (O:bS) (Z:St) (H:Hp) (ρ:aQ) (Q:bg Int->Hp->Prop),Rl K B Y O Z H ρ->WR K E B Y (λr=>∀U X,Ev O H U X->Rl K B Y U Z X r.2->Q r.1 X) (f ρ)->t Z H Q
def oN(fa:FE):FO:=λρ=>(fa ρ).bind λa=>(Res.RK (qB a.2 a.1)).bind λd=>(Res.RK (Pc d)).bind λi=>.ok (cL i,a.2)
theorem Dk(ha:EO K E ta fa):Oq K E (HN ta) (oN fa):=by intro B Y O Z H ρ Q R w;refine ha B Y O Z H ρ _ R (w.bind.imp λa f j x l e1 e h=>?_);obtain⟨d,q,b⟩:=f.RK;obtain⟨i,g,b⟩:=b.RK;exact⟨i,KJ (jF e h q) g,b j l e1 e⟩
def OE(K:Bn)(r:V->bg Int->bg Int->Hp->VK->Prop)(f:D->bg Int->bg Int->bg RV):Prop:=∀(O:bS) (H:Hp) (x:V) (lo hi:bg Int) (dx:D) (rv:RV) (Q:VK),l8 O H->DX O K H x dx->f dx lo hi=cL rv->Fin O K H Q rv->r x lo hi H Q
def L5(f:D->bg Int->bg Int->bg RV)(fa:FE)(b d:FO):FE:=λρ=>(fa ρ).bind λa=>(b a.2).bind λl=>(d l.2).bind λh=>(Res.RK (qB h.2 (bu a.1))).bind λdx=>(Res.RK (f dx l.1 h.1)).bind λrv=>.ok (rv.pv,h.2)
theorem Mu(p:OE K r f)(ha:EO K E ta fa)(q:Oq K E tl fl)(t:Oq K E th fh):EO K E (Ps r ta tl th) (L5 f fa fl fh):=by intro B Y O Z H ρ Q R w;refine ha B Y O Z H ρ _ R (w.bind.imp λa g N x M e1 z o=>?_);obtain⟨G,e2,R2,n⟩:=fT z o;refine q B Y G Z M a.2 _ R2 (g.bind.imp λl e F L e3 y=>?_);refine t B Y F Z L l.2 _ y (e.bind.imp λh b C J e4 d=>?_);obtain⟨dx,i,b⟩:=b.RK;obtain⟨rv,j,b⟩:=b.RK;exact p C J x l.1 h.1 dx rv Q d.od (jF d (n.keep (jZ a.1) (e3.trans e4)) i) j (kR d λA v I e5 u m=>b A v I (e1.trans (e2.trans (e3.trans (e4.trans e5)))) u m)
end
theorem rL{l:bb α}(h:(l.set i x)[i]?=cL y):i<l.length:=by
 rw[R0]at h;rw[ax rfl]at h;split at h
 .assumption
 .cases h
section
variable{K:Bn}{E:XK}{B O T:bS}{Z H U:Hp}{Y:St}{ρ ρ':aQ}{v:V}
theorem Rl.mut{i:Nat}{ds f:bb D}{a:QT}{m:bb V}(R:Rl K B Z O Y H ρ)(hi:ρ[i]?=cL (cL (.ow ds)))(F:Y[i]?=cL (cL (.ref a)))(G:O a)(I:Z a=lD)(hd:Ss O K H m f):
  Rl K B Z O Y (bf H a (.lst m)) (ρ.set i (cL (.ow f))):=by
 have ev:Ev O H O (bf H a (.lst m)):=Ev.mut G _;refine⟨λb o e=>by rw[aJ (bI e I)];exact R.same b o e,R.bo,R.bd,λb l=>?_,by rw[RU];exact R.len,λj x g=>?_,λj k xs A w S Q Zj WU=>?_⟩
 .by_cases e:b=a
  .rw[e,aE]at l;cases l
  .rw[aJ e]at l;exact R.od b l
 .rcases bL g with⟨rfl,X⟩|⟨U0,g⟩
  .cases X;exact⟨_,F,a,m,rfl,G,I,aE,hd.ev ev⟩
  .obtain⟨u,C,q⟩:=R.slot j x g
   refine⟨u,C,?_⟩;cases x with
   |fz d=>exact DV.ev ev q
   |pl i=>exact q
   |ow xs=>obtain⟨b,J,rfl,P,N,M,L⟩:=q;have y:b≠a:=λz=>U0 (R.one j i xs ds (.ref a) g hi (by rw[C,z]) F);exact⟨b,J,rfl,P,N,by rw[aJ y];exact M,L.ev ev⟩
 .have own:∀{j:Nat} {xs:bb D},(ρ.set i (cL (.ow f)))[j]?=cL (cL (.ow xs))->∃A,ρ[j]?=cL (cL (.ow A)):=λ{j xs} h=>by
   rcases bL h with⟨rfl,_⟩|⟨_,h⟩
   .exact⟨_,hi⟩
   .exact⟨_,h⟩
  obtain⟨p,t⟩:=own S;obtain⟨n,r⟩:=own Q;exact R.one j k p n w t r Zj WU
theorem vj(h:n<1000000):n<Q3:=Rf h (by decide)
def Ck:bg (bg PV)->bg (bb D)
 |some (cL (.ow ds))=>cL ds
 |_=>lD
theorem xt(h:Ck o=cL ds):o=cL (cL (.ow ds)):=by
 unfold Ck at h;split at h
 .cases h;rfl
 .cases h
def ky(i:Nat)(fe:FE):FE:=λρ=>(Res.RK (Ck ρ[i]?)).bind λ_=>(fe ρ).bind λa=>(Res.RK (uw a.2 a.1)).bind λb=>(Res.RK (Ck b.2[i]?)).bind λds=>
 if ds.length<1000000 then .ok (.fz .none,b.2.set i (cL (.ow (ds++[b.1]))))else .bad
theorem Ja(o:EO K E te fe):EO K E (M8 K "list" r9 (u7 i) (iC te kx)) (ky i fe):=by
 intro B Z O Y H ρ Q R w;obtain⟨t,m,w⟩:=w.RK;obtain⟨v,h,a,vs,rfl,I,G,p,F⟩:=R.slot i _ (xt m);refine⟨_,h,.inl ⟨rfl,_,Uq.of p⟩,?_⟩;refine o B Z O Y H ρ _ R (w.bind.imp λb e L y M e1 z n=>?_);obtain⟨⟨d,j⟩,l,e⟩:=e.RK;obtain⟨A,e2,R2,r⟩:=qL z n l;obtain⟨ds,f,e⟩:=e.RK;have f:=xt f;obtain⟨C,k1,J,u,q,k2,k3,k4,k5⟩:=R2.slot i _ f;subst q;rw[h]at k1;cases k1;dsimp only at e;by_cases g:ds.length<1000000
 .rw[ax g]at e;refine⟨a,u,y,rfl,rfl,k4,vj (by rw[k5.length];exact g),?_⟩;exact e A .TF _ (e1.trans (e2.trans (Ev.mut k2 _))) (R2.mut f h k2 k3 (k5.append (.cons r .nil))) .TF
 .rw[a3 g]at e;exact e.elim
abbrev FG:=PV->aQ->Res aQ
abbrev Mb:=bb D->aQ->Res aQ
def GO(K:Bn)(E:XK)(g:TG)(f:FG):Prop:=
 ∀(B:bS) (Z:Hp) (O:bS) (Y:St) (H:Hp) (ρ:aQ) (v:V) (pv:PV) (Q:St->Hp->Prop),Rl K B Z O Y H ρ->U1 K Z O Y H ρ v pv->WR K E B Z (λρ'=>∀T σ' U,Ev O H T U->Rl K B Z T σ' U ρ'->Q σ' U) (f pv ρ)->g v Y H Q
def MX(K:Bn)(E:XK)(g:vQ)(f:Mb):Prop:=
 ∀(B:bS) (Z:Hp) (O:bS) (Y:St) (H:Hp) (ρ:aQ) (vs:bb V) (ds:bb D) (Q:St->Hp->Prop),Rl K B Z O Y H ρ->Ss O K H vs ds->WR K E B Z (λρ'=>∀T σ' U,Ev O H T U->Rl K B Z T σ' U ρ'->Q σ' U) (f ds ρ)->g vs Y H Q
theorem Rl.abe(R:Rl K B Z O Y H ρ)(h:DV O K H v d):Rl K B Z O (Y.set i (cL v)) H (ρ.set i (cL (.fz d))):=by
 refine⟨R.same,R.bo,R.bd,R.od,by rw[RU,RU];exact R.len,λj x a=>?_,λj k xs n w f b l m=>?_⟩
 .rcases bL a with⟨rfl,e⟩|⟨t,a⟩
  .cases e;have:=rL a;exact⟨v,by rw[R0,ax rfl,ax (by rw[R.len];exact this)],h⟩
  .obtain⟨u,r,q⟩:=R.slot j x a;exact⟨u,by rw[R0,a3 (λz=>t z.symm)];exact r,q⟩
 .rcases bL f with⟨rfl,g⟩|⟨p,f⟩
  .cases g
  .rcases bL b with⟨rfl,g⟩|⟨o,b⟩
   .cases g
   .rw[R0,a3 (λz=>p z.symm)]at l;rw[R0,a3 (λz=>o z.symm)]at m;exact R.one j k xs n w f b l m
theorem Rl.ZP(R:Rl K B Z O Y H ρ)(h:U1 K Z O Y H ρ v (.ow ds)):Rl K B Z O (Y.set i (cL v)) H (ρ.set i (cL (.ow ds))):=by
 obtain⟨a,vs,rfl,G,F,C,A,o⟩:=h;refine⟨R.same,R.bo,R.bd,R.od,by rw[RU,RU];exact R.len,λj x g=>?_,λj k xs n w y d l f=>?_⟩
 .rcases bL g with⟨rfl,e⟩|⟨L,g⟩
  .cases e;have:=rL g;exact⟨.ref a,by rw[R0,ax rfl,ax (by rw[R.len];exact this)],a,vs,rfl,G,F,C,A⟩
  .obtain⟨u,r,q⟩:=R.slot j x g;exact⟨u,by rw[R0,a3 (λz=>L z.symm)];exact r,q⟩
 .rcases bL y with⟨rfl,J⟩|⟨p,b⟩
  .rcases bL d with⟨rfl,I⟩|⟨m,d⟩
   .rfl
   .rw[R0,a3 (λz=>m z.symm)]at f
    rcases bL l with⟨_,e⟩|⟨z,_⟩
    .cases e;exact a7 f (o k n d)
    .exact a7 rfl z
  .have t:=b
   rw[R0,a3 (λz=>p z.symm)]at l;rcases bL d with⟨rfl,J⟩|⟨m,d⟩
   .rcases bL f with⟨_,e⟩|⟨z,_⟩
    .cases e;exact a7 l (o j xs b)
    .exact a7 rfl z
   .rw[R0,a3 (λz=>m z.symm)]at f;exact R.one j k xs n w b d l f
def gN(i:Nat):FG:=λpv ρ=>match pv with
 |.ow ds=>.ok (ρ.set i (cL (.ow ds)))
 |.fz d=>.ok (ρ.set i (cL (.fz d)))
 |.pl j=>(Res.RK (uw ρ (.pl j))).bind λb=>.ok (b.2.set i (cL (.fz b.1)))
theorem sL:GO K E (mW i) (gN i):=by
 intro B Z O Y H ρ v pv Q R p w;cases pv with
 |ow ds=>exact w O _ H .refl (R.ZP p)
 |fz d=>exact w O _ H .refl (R.abe p)
 |pl j=>obtain⟨⟨d,a⟩,q,w⟩:=WR.RK (show WR K E B Z _ ((Res.RK (uw ρ (.pl j))).bind λb=>.ok (b.2.set i (cL (.fz b.1))))from w);obtain⟨f,e2,R2,e⟩:=qL R p q;exact w f _ H e2 (R2.abe e)
def Nw:Mb:=λds ρ=>match ds with
 |[]=>.ok ρ
 |_=>.bad
def JO(f:FG)(g:Mb):Mb:=λds ρ=>match ds with
 |[]=>.bad
 |d::r=>(f (.fz d) ρ).bind λa=>g r a
theorem Ko:MX K E G3 Nw:=by
 intro B Z O Y H ρ vs ds Q R a w;cases a with
 |nil=>exact⟨rfl,w O Y H .refl R⟩
 |cons _ _=>exact w.elim
theorem GH(n:GO K E t f)(m:MX K E u g):MX K E (yx t u) (JO f g):=by
 intro B Z O Y H ρ vs ds Q R o w;cases o with
 |nil=>exact w.elim
 |cons l j=>rename_i v vs d ds;refine⟨_,_,rfl,n B Z O Y H ρ _ (.fz d) _ R l (WR.imp (WR.bind w) λe i y b A e1 p=>?_)⟩;exact m B Z y b A e _ _ Q p (j.ev e1) (i.imp λh q r a z e2 R2=>q r a z (e1.trans e2) R2)
def Pq:D->bg (bb D)
 |.tuple ds=>cL ds
 |_=>lD
theorem Bb(h:DX O K H x d)(e:Pq d=cL ds):∃a xs,x=.ref a/\UN O K H a xs/\Ss O K H xs ds:=by
 cases d<;>cases e;cases h with
 |tup h b=>exact⟨_,_,rfl,h,b⟩
def gT(n:Nat)(f:Mb):FG:=λpv ρ=>(Res.RK (qB ρ pv)).bind λd=>(Res.RK (Pq d)).bind λds=>if ds.length=n then f ds ρ else .bad
theorem Ls(h:MX K E t f):GO K E (Ej K n t) (gT n f):=by
 intro B Z O Y H ρ v pv Q R p w;obtain⟨d,g,w⟩:=w.RK;obtain⟨ds,e,w⟩:=w.RK;obtain⟨a,xs,rfl,i,b⟩:=Bb (jF R p g) e;by_cases hn:ds.length=n
 .rw[ax hn]at w;exact⟨a,xs,rfl,i.1,b.length.trans hn,h B Z O Y H ρ xs ds Q R b w⟩
 .rw[a3 hn]at w;exact w.elim
inductive Fl where
 |nx (ρ:aQ)
 |rt (rv:RV)
 |bk (ρ:aQ)
 |ct (ρ:aQ)
abbrev FS:=aQ->Res Fl
def XU(K:Bn)(B:bS)(Z:Hp)(O:bS)(H:Hp)(D:Ends):Fl->Prop
 |.nx ρ'=>∀T σ' U,Ev O H T U->Rl K B Z T σ' U ρ'->D.nx σ' U
 |.bk ρ'=>∀T σ' U,Ev O H T U->Rl K B Z T σ' U ρ'->D.bk σ' U
 |.ct ρ'=>∀T σ' U,Ev O H T U->Rl K B Z T σ' U ρ'->D.ct σ' U
 |.rt rv=>Fin B K Z D.rt rv
def SO(K:Bn)(E:XK)(t:TS)(g:FS):Prop:=
 ∀(B:bS) (Z:Hp) (O:bS) (Y:St) (H:Hp) (ρ:aQ) (D:Ends),Rl K B Z O Y H ρ->WR K E B Z (XU K B Z O H D) (g ρ)->t D Y H
theorem XU.ev{D:Ends}(e:Ev O H O1 H1)(h:XU K B Z O H D fl):XU K B Z O1 H1 D fl:=by
 cases fl with
 |nx ρ'=>exact λT a U b d=>h T a U (e.trans b) d
 |bk ρ'=>exact λT a U b d=>h T a U (e.trans b) d
 |ct ρ'=>exact λT a U b d=>h T a U (e.trans b) d
 |rt rv=>exact h
def c9:FS:=λρ=>.ok (.nx ρ)
def a8(f g:FS):FS:=λρ=>(f ρ).bind λa=>match a with
 |.nx ρ1=>g ρ1
 |a=>.ok a
def fQ(f:FE):FS:=λρ=>(f ρ).bind λa=>.ok (.nx a.2)
def cE(f:FE)(g:FG):FS:=λρ=>(f ρ).bind λa=>(g a.1 a.2).bind λb=>.ok (.nx b)
def jb(c:FT)(f g:FS):FS:=λρ=>(c ρ).bind λa=>if a.1=QM then f a.2 else g a.2
def y9(ρ:aQ):PV->bg RV
 |.fz d=>cL (.fz d)
 |.ow ds=>cL (.ow ds)
 |.pl i=>match ρ[i]? with
  |some (cL (.fz d))=>cL (.fz d)
  |some (cL (.ow ds))=>cL (.ow ds)
  |_=>lD
def cY(f:FE):FS:=λρ=>(f ρ).bind λa=>(Res.RK (y9 a.2 a.1)).bind λrv=>.ok (.rt rv)
theorem FD:SO K E Aj c9:=λB Z O Y H ρ D R w=>w O Y H .refl R
theorem Jl(i:SO K E t f)(h:SO K E u g):SO K E (GL t u) (a8 f g):=by
 intro B Z O Y H ρ D R w;refine i B Z O Y H ρ {D with nx:=u D} R (WR.imp (WR.bind w) λe b=>?_);cases e with
 |nx a=>exact λl d m e1 j=>h B Z l d m a D j (WR.imp b λe q=>q.ev e1)
 |rt rv=>exact b
 |bk a=>exact b
 |ct a=>exact b
theorem EA(h:EO K E t f):SO K E (xx t) (fQ f):=by intro B Z O Y H ρ D R w;exact h B Z O Y H ρ _ R (w.bind.imp λa b e x g e1 d i=>b e Y g e1 d)
theorem Af(h:EO K E t f)(l:GO K E g fg):SO K E (uo t g) (cE f fg):=by intro B Z O Y H ρ D R w;refine h B Z O Y H ρ _ R (w.bind.imp λa i o x q e1 m j=>?_);exact l B Z o Y q a.2 x a.1 _ m j (i.bind.imp λd e n b p e2 R2=>e n b p (e1.trans e2) R2)
theorem M0(l:Xs K E c fc)(n:SO K E t f)(m:SO K E u g):SO K E (Gp c t u) (jb fc f g):=by
 intro B Z O Y H ρ D R w;refine l B Z O Y H ρ _ R (w.bind.imp λa e i j e1 h=>?_);obtain⟨b,d⟩:=a;cases b with
 |true=>exact n B Z i Y j d D h (WR.imp e λo q=>q.ev e1)
 |false=>exact m B Z i Y j d D h (WR.imp e λo q=>q.ev e1)
theorem JF{pv:PV}(R:Rl K B Z O Y H ρ)(p:U1 K Z O Y H ρ v pv)(e:y9 ρ pv=cL rv)(w:Fin B K Z Q rv):Q v H:=by
 have ow:∀{a:QT} {vs:bb V} {ds:bb D},O a->Z a=lD->H a=cL (.lst vs)->Ss O K H vs ds->Fin B K Z Q (.ow ds)->Q (.ref a) H:=λ{a vs ds} m l g f w=>
  w a vs H R.same l g (f.ev (Ev.sub λb z=>z.elim (R.bo b) λe=>by simp_all))
 have fz:∀{d:D},DV O K H v d->Fin B K Z Q (.fz d)->Q v H:=λ{d} h w=>w v H R.same (h.ev (Ev.sub R.bo));cases pv with
 |fz d=>cases e;exact fz p w
 |ow ds=>cases e;obtain⟨a,vs,rfl,m,l,g,f,y⟩:=p;exact ow m l g f w
 |pl i=>
  have t:=p;unfold y9 at e;dsimp only at e;cases q:ρ[i]? with
  |none=>simp_all
  |some o=>
   cases o with
   |none=>simp_all
   |some x=>
    obtain⟨u,r,n⟩:=R.slot i x q;rw[t]at r;cases r;rw[q]at e;cases x with
    |fz d=>cases e;exact fz n w
    |ow ds=>cases e;obtain⟨a,vs,rfl,m,l,g,f⟩:=n;exact ow m l g f w
    |pl j=>exact n.elim
theorem Ly(h:EO K E t f):SO K E (EY t) (cY f):=by intro B Z O Y H ρ D R w;refine h B Z O Y H ρ _ R (w.bind.imp λa b g x i e1 e d=>?_);obtain⟨rv,q,b⟩:=b.RK;exact JF e d q b
def sH(K:Bn)(J:It)(O:bS)(H:Hp)(ds:bb D):Prop:=∀T U,Ev O H T U->l8 T U->
 (∀i,i<ds.length->J.go i U/\∀x XY,J.yld i U x XY->Sv U XY/\∃d,ds[i]?=cL d/\DV T K XY x d)/\J.stop ds.length U
abbrev FI:=aQ->Res (bb D×aQ)
def IO(K:Bn)(E:XK)(b:TI)(d:FI):Prop:=
 ∀(B:bS) (Z:Hp) (O:bS) (Y:St) (H:Hp) (ρ:aQ) (a:It->Hp->Prop),Rl K B Z O Y H ρ->WR K E B Z (λr=>∀T J U,Ev O H T U->Rl K B Z T Y U r.2->sH K J T U r.1->a J U) (d ρ)->b Y H a
def nF(gt:FG)(b:FS):bb D->FS
 |[],ρ=>.ok (.nx ρ)
 |d::r,ρ=>(gt (.fz d) ρ).bind λa=>(b a).bind λe=>match e with
  |.nx ρ2=>nF gt b r ρ2
  |.ct ρ2=>nF gt b r ρ2
  |.bk ρ2=>.ok (.nx ρ2)
  |.rt rv=>.ok (.rt rv)
def kN(d:FI)(gt:FG)(b:FS):FS:=λρ=>(d ρ).bind λa=>nF gt b a.1 a.2
theorem KY(hi:IO K E wi fi)(hg:GO K E g gt)(hb:SO K E tb b):SO K E (He wi g tb) (kN fi gt b):=by
 intro B Z O Y H ρ D R w;refine hi B Z O Y H ρ _ R (w.bind.imp λa M F J S e1 Q P=>?_);obtain⟨ds,C⟩:=a;dsimp only at M P Q;refine⟨λi m f U=>m=ds.length - i/\i<=ds.length/\∃O2 ρ2,Ev F S O2 U/\Rl K B Z O2 f U ρ2/\WR K E B Z (XU K B Z O H D) (nF gt b (ds.drop i) ρ2),⟨_,rfl,Rz _,F,C,.refl,Q,M⟩,?_⟩;rintro i m n L ⟨rfl,hi,O2,ρ2,e2,R2,w2⟩;obtain⟨go,o⟩:=P O2 L e2 R2.od;by_cases u:i<ds.length
 .obtain⟨g1,g2⟩:=go i u
  refine .inr ⟨g1,λf U=>i+1<=ds.length/\∃O2 ρ2,Ev F S O2 U/\Rl K B Z O2 f U ρ2/\WR K E B Z (XU K B Z O H D) (nF gt b (ds.drop (i+1)) ρ2),λf U ⟨h1,h2⟩=>⟨ds.length - (i+1),by ext,rfl,h1,h2⟩,λx I y=>?_⟩;obtain⟨N,d,hd,dv⟩:=g2 x I y;have ed:ds.drop i=d::ds.drop (i+1):=by obtain⟨_,q⟩:=QU.mp hd;rw[Th u,q]
  rw[ed]at w2;have e3:Ev O2 L O2 I:=Ev.grow N;refine hg B Z O2 n I ρ2 x (.fz d) _ (R2.grow N) dv (WR.imp (WR.bind w2) λA X O4 z H4 e4 R4=>?_);have l:=e2.trans (e3.trans e4);refine hb B Z O4 z H4 A _ R4 (WR.imp (WR.bind X) λfl t=>?_);cases fl with
  |nx h=>exact λr j G e5 p=>⟨u,r,h,l.trans e5,p,t⟩
  |ct h=>exact λr j G e5 p=>⟨u,r,h,l.trans e5,p,t⟩
  |bk h=>exact λr j G e5 p=>t r j G (e1.trans (l.trans e5)) p
  |rt rv=>exact t
 .have e:i=ds.length:=by ext
  subst e;rw[TL (QV _)]at w2;exact .inl ⟨o,w2 O2 n L (e1.trans e2) R2⟩
def fq:D->bg (bb D)
 |.tuple ds=>cL ds
 |.list ds=>cL ds
 |_=>lD
def xZ(K:Bn)(d:TE):TI:=λY H R=>d Y H λx b=>∃a,x=.ref a/\(((∃xs,Uq K b a xs)/\R (Pf K a) b)\/((∃xs,UG K b a xs)/\R (Pl K a) b))
theorem we(w:PE X l tl):PI X tg l (xZ X.K tl):=by
 intro g s Y H R I h;refine cF (w g s Y H _ I h) λv f ⟨x,n,d,r,t⟩=>?_;obtain⟨a,e,q⟩:=t;subst e;cases r;rcases q with⟨⟨xs,i⟩,q⟩|⟨⟨xs,i⟩,q⟩
 .obtain⟨m,rv,p,u⟩:=d.list i
  refine TJ p.isList ?_;refine⟨f.heap.objs.size,[f.heap.objs.size],_,_,n,rfl,d.kept λb o e=>b3 _ e,zJ a _,⟨_,b5 _ rfl,rfl,rfl⟩,λb j=>?_,q⟩;have e:b=f.heap.objs.size:=by simpa using j
  subst e;exact d.Xq (QV _) (d.Sk.fresh (QV _))
 .obtain⟨m,rv,p,u⟩:=d.tuple i
  refine Vp (show f.heap.IsTuple a m.toArray from p) ?_;refine⟨f.heap.objs.size,[f.heap.objs.size],_,_,n,rfl,d.kept λb o e=>b3 _ e,v5 a _,⟨_,b5 _ rfl,rfl,rfl⟩,λb j=>?_,q⟩;have e:b=f.heap.objs.size:=by simpa using j
  subst e;exact d.Xq (QV _) (d.Sk.fresh (QV _))
theorem w9(h:VP O K H a xs)(hd:Ss O K H xs ds):sH K (Pf K a) O H ds:=by intro T U e n;have b:=h.ev e;have f:=hd.ev e;refine⟨λi hi=>?_,⟨xs,b.1.sq,by rw[hd.length];exact QV _⟩⟩;obtain⟨x,l,_⟩:=f.get (QY hi);refine⟨⟨xs,x,b.1.sq,l⟩,?_⟩;rintro y m ⟨rfl,hy⟩;obtain⟨d,j,g⟩:=f.Yk (hy xs b.1.sq);exact⟨Sv.refl _,d,j,g⟩
theorem Aq(h:UN O K H a xs)(hd:Ss O K H xs ds):sH K (Pl K a) O H ds:=by intro T U e n;have b:=h.ev e;have f:=hd.ev e;refine⟨λi hi=>?_,⟨xs,b.1,by rw[hd.length];exact QV _⟩⟩;obtain⟨x,l,_⟩:=f.get (QY hi);refine⟨⟨xs,x,b.1,l⟩,?_⟩;rintro y m ⟨rfl,hy⟩;obtain⟨d,j,g⟩:=f.Yk (hy xs b.1);exact⟨Sv.refl _,d,j,g⟩
def gn(fe:FE):FI:=λρ=>(fe ρ).bind λa=>(Res.RK (uw a.2 a.1)).bind λb=>(Res.RK (fq b.1)).bind λds=>.ok (ds,b.2)
theorem LN(h:EO K E tl fe):IO K E (xZ K tl) (gn fe):=by
 intro B Z O Y H ρ o R w;refine h B Z O Y H ρ _ R (w.bind.imp λa b p x i e1 n l=>?_);obtain⟨⟨d,j⟩,q,b⟩:=b.RK;obtain⟨g,e2,R2,m⟩:=qL n l q;obtain⟨ds,e,b⟩:=b.RK;dsimp only at e;cases m with
 |tup h f=>cases e;exact⟨_,rfl,.inr ⟨⟨_,h.1⟩,b g _ i (e1.trans e2) R2 (Aq h f)⟩⟩
 |lst h f=>cases e;exact⟨_,rfl,.inl ⟨⟨_,h.1.sq⟩,b g _ i (e1.trans e2) R2 (w9 h f)⟩⟩
 |_=>cases e
def gx(lo:Int)(n:Nat):bb D:=(Rc n).map λ(k:Nat)=>.int (lo+(k:Int))
theorem Bx:sH K (Oz lo n) O H (gx lo n):=by
 intro T U e b;have a:(gx lo n).length=n:=by unfold gx;simp_all
 refine⟨λi hi=>?_,by show n<=_;rw[a];exact QV _⟩;rw[a]at hi;refine⟨hi,?_⟩;rintro x d ⟨rfl,rfl⟩;exact⟨Sv.refl _,.int (lo+i),by unfold gx;simp_all,.int _⟩
def jg(i:Int):Prop:= -(2^62)<=i/\i<2^62
noncomputable instance(i:Int):Decidable (jg i):=by unfold jg;infer_instance
def gl:bb D->bg (bb D)
 |[.int j]=>if jg j then cL (gx 0 j.toNat)else lD
 |_=>lD
def kz(f:bb D->bg (bb D))(fa:FA):FI:=λρ=>(fa ρ).bind λa=>(Res.RK (uM a.2 a.1)).bind λds=>(Res.RK (f ds)).bind λxs=>.ok (xs,a.2)
theorem Gw(h:AO K E ta fa):IO K E (Ig ta) (kz gl fa):=by
 intro B Z O Y H ρ p R w;refine h B Z O Y H ρ _ R (w.bind.imp λa d n vs o e1 f i=>?_);obtain⟨ds,q,d⟩:=d.RK;obtain⟨xs,b,d⟩:=d.RK;have g:=vK f i q;unfold gl at b;split at b
 .rename_i j
  split at b
  .rename_i e
   cases b;cases g with
   |cons m l=>cases l;cases m;exact⟨j,rfl,e.1,e.2,d n _ o e1 f Bx⟩
  .cases b
 .cases b
end
section
variable{K:Bn}{E:XK}{B O X:bS}{U H Z:Hp}{Y:St}{ρ ρ':aQ}{v:V}
def Ae:bg PV->bg PV
 |some (.fz d)=>cL (.fz d)
 |_=>lD
def cN(ρ:aQ):aQ:=ρ.map Ae
theorem vY{i:Nat}(h:(cN ρ)[i]?=cL (cL x)):∃d,x=.fz d/\ρ[i]?=cL (cL (.fz d)):=by
 unfold cN at h;rw[Q5]at h;cases q:ρ[i]? with
 |none=>simp_all
 |some o=>
  rw[q]at h;have a:=Ra h;unfold Ae at a;split at a
  .cases a;exact⟨_,rfl,rfl⟩
  .cases a
def qX(ρ:aQ):bb Nat->bg (bb D×aQ)
 |[]=>cL ([],ρ)
 |j::r=>match uw ρ (.pl j)with
  |some (d,ρ1)=>(match qX ρ1 r with
   |some (c,ρ2)=>cL (d::c,ρ2)
   |none=>lD)
  |none=>lD
theorem zy(R:Rl K B U O Y H ρ)(h:uw ρ (.pl i)=cL (d,ρ')):∃v,Y[i]?=cL (cL v):=by
 have a:OI ρ i ρ[i]?=cL (d,ρ'):=h;cases q:ρ[i]? with
 |none=>rw[q]at a;cases a
 |some o=>
  cases o with
  |none=>rw[q]at a;cases a
  |some x=>obtain⟨v,b,_⟩:=R.slot i x q;exact⟨v,b⟩
theorem uB:∀{fv:bb Nat} {ds:bb D} {O:bS} {ρ ρ':aQ},Rl K B U O Y H ρ->qX ρ fv=cL (ds,ρ')->∃X vs,Ev O H X H/\Rl K B U X Y H ρ'/\Ss X K H vs ds/\fv.map (λj=>(Y[j]?).join)=vs.map cL
 |[],_,O,_,_,R,e=>by cases e;exact⟨O,[],.refl,R,.nil,rfl⟩
 |j::r,_,O,ρ,ρ',R,e=>by
  unfold qX at e;cases q:uw ρ (.pl j)with
  |none=>simp_all
  |some p=>
   obtain⟨d,a⟩:=p;rw[q]at e;dsimp only at e;cases q2:qX a r with
   |none=>simp_all
   |some f=>obtain⟨c,b⟩:=f;rw[q2]at e;cases e;obtain⟨v,g⟩:=zy R q;obtain⟨o,e1,l,i⟩:=qL (pv:=.pl j) R g q;obtain⟨m,vs,e2,R2,h,n⟩:=uB l q2;exact⟨m,v::vs,e1.trans e2,R2,.cons (i.ev e2) h,by simp_all⟩
def cP(gt:FG)(ft:FT)(fe:FE):bb D->aQ->bb D->Res (bb D)
 |[],_,acc=>.ok acc
 |d::r,ρ,acc=>(gt (.fz d) ρ).bind λe=>(ft e).bind λb=>if b.1=QM then(fe b.2).bind λa=>(Res.RK (uw a.2 a.1)).bind λx=>
   if acc.length<1000000 then cP gt ft fe r (cN x.2) (acc++[x.1])else .bad
  else cP gt ft fe r (cN b.2) acc
def iZ:Res α->Res α
 |.er _=>.bad
 |r=>r
def cG(n:Nat)(fv:bb Nat)(b:FI)(gt:FG)(ft:FT)(fe:FE):FE:=λρ=>(b ρ).bind λa=>(Res.RK (qX a.2 fv)).bind λc=>
 (iZ (cP gt ft fe a.1 (QX n lD++c.1.map λd=>cL (.fz d)) [])).bind λxs=>.ok (.ow xs,c.2)
theorem w6{own:bb Str}(h:own.length=n):own.map (λ_=>(lD:bg V))=QX n lD:=by
 subst h
 induction own with
 |nil=>rfl
 |cons x r a=>grind
theorem wZ(h:WR K E B U P (iZ r)):∃a,r=.ok a/\P a:=by
 cases r with
 |ok a=>exact⟨a,rfl,h⟩
 |er x=>exact h.elim
 |bad=>exact h.elim
def Ms(K:Bn)(J:It)(O:bS)(H:Hp)(ds:bb D):Prop:=∀X Z,Ev O H X Z->Sv H Z->l8 X Z->
 (∀i,i<ds.length->J.go i Z/\∀x XY,J.yld i Z x XY->Sv Z XY/\∃d,ds[i]?=cL d/\DV X K XY x d)/\J.stop ds.length Z
def Ox(K:Bn)(E:XK)(b:TI)(d:FI):Prop:=
 ∀(B:bS) (U:Hp) (O:bS) (Y:St) (H:Hp) (ρ:aQ) (a:It->Hp->Prop),Rl K B U O Y H ρ->WR K E B U (λr=>∀X J Z,Ev O H X Z->Rl K B U X Y Z r.2->Ms K J X Z r.1->a J Z) (d ρ)->b Y H a
theorem IO.s(h:IO K E wi fi):Ox K E wi fi:=λB U O Y H ρ b R w=>h B U O Y H ρ b R (w.imp λr q X J Z e R a=>q X J Z e R λd f e2 _ n=>a d f e2 n)
theorem oX(hn:own.length=n)(hf:fv.map (·.2)=fj)
  (hi:Ox K E wi fi) (hg:GO K E0 g gt) (ht:Xs K E0 tc ft) (he:EO K E0 te fe):EO K E (oB own fv wi g tc te) (cG n fj fi gt ft fe):=by
 intro B U O Y H ρ Q R w;refine hi B U O Y H ρ _ R (w.bind.imp λa w1 O1 J H1 e1 R1 it=>?_);obtain⟨ds,ρ1⟩:=a;obtain⟨⟨cs,ρ2⟩,qc,w1⟩:=w1.RK;dsimp only at qc it;obtain⟨G,vs,e2,R2,Vw,YU⟩:=uB R1 qc;obtain⟨xs,qx,w1⟩:=wZ (WR.bind w1);intro l Zr;have hB:∀{Z:Hp},Sv H1 Z->Z l≠lD->∀a,bZ G l a->Z a≠lD:=λ{Z} s nd a h z=>h.elim (λq=>R2.od a (s.free z) q) λe=>nd (by rw[<-e];exact z);refine⟨λi m I Z=>m=ds.length - i/\i<=ds.length/\∃(A:bb D) (F:bb V) (t:aQ),Sv H1 Z/\Z l=cL (.lst F)/\Ss (bZ G l) K Z F A/\I.length=t.length/\(∀(j:Nat) (x:PV),t[j]?=cL (cL x)->∃d u,x=PV.fz d/\I[j]?=cL (cL u)/\DV (bZ G l) K Z u d)/\cP gt ft fe (ds.drop i) t A=.ok xs,
  ⟨_,rfl,Rz _,[],[],_,bO Zr _,aE,.nil,?_,λj x L=>?_,qx⟩,?_⟩
 .unfold hJ
  rw[Q1,Q1,QQ,QQ,RZ,QQ,hn,<-Vw.length];have:=d5 Vc YU
  grind
 .have hm:fv.map (λp=>(Y[p.2]?).join)=vs.map cL:=by rw[<-YU,<-hf,Rv];rfl
  unfold hJ;rw[w6 hn,hm];by_cases hj:j<n
  .rw[Ro (by rw[RZ];exact hj),Su,ax hj]at L;cases L
  .rw[Rq (by rw[RZ];ext),RZ,Q5]at L⊢
   cases qd:cs[j - n]? with
   |none=>rw[qd]at L;cases L
   |some d=>rw[qd]at L;cases L;obtain⟨u,hu,du⟩:=Vw.get qd;exact⟨d,u,rfl,by rw[hu];rfl,du.ev (Ev.add (bO Zr _) Zr)⟩
 .rintro i m I Z ⟨rfl,hi,A,F,t,s,hD,dys,hl,hsl,f⟩
  have nD:Z l≠lD:=by rw[hD];simp
  have no':=λa z h=>hB s nD a h z;have ev1:=e2.trans (Ev.add s Zr);obtain⟨go,stop⟩:=it (bZ G l) Z ev1 s no';by_cases Uv:i<ds.length
  .obtain⟨g1,g2⟩:=go i Uv
   refine .inr ⟨g1,λC M=>i+1<=ds.length/\∃(A:bb D) (F:bb V) (t:aQ),Sv H1 M/\M l=cL (.lst F)/\Ss (bZ G l) K M F A/\C.length=t.length/\(∀(j:Nat) (x:PV),t[j]?=cL (cL x)->∃d u,x=PV.fz d/\C[j]?=cL (cL u)/\DV (bZ G l) K M u d)/\cP gt ft fe (ds.drop (i+1)) t A=.ok xs,
    λC M ⟨T,h2⟩=>⟨ds.length - (i+1),by ext,rfl,T,h2⟩,λx H3 y=>?_⟩
   obtain⟨s3,d,hd,dv⟩:=g2 x H3 y;have ed:ds.drop i=d::ds.drop (i+1):=by obtain⟨_,q⟩:=QU.mp hd;rw[Th Uv,q]
   rw[ed]at f;have hD3:=s3 _ _ hD;have nD3:H3 l≠lD:=by rw[hD3];simp
   have sv:=s.trans s3;have RC:Rl K (bZ G l) H3 (bZ G l) I H3 t:=⟨Sv.refl _,λ_ h=>h,hB sv nD3,λa z h=>hB sv nD3 a h z,hl,λj x L=>by obtain⟨d,u,rfl,T,h2⟩:=hsl j x L;exact⟨u,T,h2.ev (Ev.grow s3)⟩,λj k xs F w hj=>by obtain⟨d,u,e,_⟩:=hsl j _ hj;cases e⟩;unfold cP at f;have back:∀{O5:bS} {C:St} {M:Hp} {N:aQ} {H6:Hp},Rl K (bZ G l) H3 O5 C M N->(∀b o,b≠l->M b=cL o->H6 b=cL o)->C.length=(cN N).length/\∀(j:Nat) (x:PV),(cN N)[j]?=cL (cL x)->∃d u,x=PV.fz d/\C[j]?=cL (cL u)/\DV (bZ G l) K H6 u d:=λ{O5 C M N H6} S k=>by refine⟨by unfold cN;rw[QQ];exact S.len,λj x L=>?_⟩;obtain⟨d,rfl,hxx⟩:=vY L;obtain⟨u,T,h2⟩:=S.slot j _ hxx;refine⟨d,u,rfl,T,DV.ev (λb o h n=>⟨k b o (λe=>n (.inr e)) h,n⟩) (DV.ev (Ev.sub S.bo) h2)⟩
   refine hg _ _ _ I H3 t x (.fz d) _ RC dv ?_;cases qg:gt (.fz d) t with
   |er z=>rw[qg]at f;cases f
   |bad=>rw[qg]at f;cases f
   |ok ρ3=>
    rw[qg,ea]at f;intro O4 σ4 H4 e4 R4;refine ht _ _ _ σ4 H4 ρ3 _ R4 ?_;cases qt:ft ρ3 with
    |er z=>rw[qt]at f;cases f
    |bad=>rw[qt]at f;cases f
    |ok b=>
     obtain⟨b,ρ4⟩:=b;rw[qt,ea]at f;intro O5 M e5 S;cases b with
     |false=>rw[a3 Rh]at f⊢;obtain⟨l5,k5⟩:=back S λb o _ h=>h;refine⟨Uv,A,F,cN ρ4,sv.trans S.same,S.same _ _ hD3,?_,l5,k5,f⟩;exact dys.ev (Ev.grow (s3.trans S.same))
     |true=>
      rw[ax rfl]at f⊢;refine he _ _ _ σ4 M ρ4 _ S ?_;cases qe:fe ρ4 with
      |er z=>rw[qe]at f;cases f
      |bad=>rw[qe]at f;cases f
      |ok r=>
       rw[qe,ea]at f;intro O6 yv H6 e6 R6 p6;cases q7:uw r.2 r.1 with
       |none=>rw[q7]at f;cases f
       |some xr=>
        obtain⟨xd,ρ7⟩:=xr;rw[q7]at f;obtain⟨O7,e7,R7,dv7⟩:=qL R6 p6 q7;have hD7:=R7.same _ _ hD3;have P:(if A.length<1000000 then cP gt ft fe (ds.drop (i+1)) (cN ρ7) (A++[xd])else .bad)=.ok xs:=f;by_cases YW:A.length<1000000
        .rw[ax YW]at P
         have up:∀b o,b≠l->H6 b=cL o->bf H6 l (.lst (F++[yv])) b=cL o:=λb o hb h=>by rw[aJ hb];exact h
         have cZ:Ev (bZ G l) H6 (bZ G l) (bf H6 l (.lst (F++[yv]))):=λb o h n=>⟨up b o (λe=>n (.inr e)) h,n⟩;have adT:=dys.ev (Ev.grow (s3.trans R7.same));obtain⟨l5,k5⟩:=back R7 up;refine⟨F,hD7,vj (by rw[dys.length];exact YW),Uv,A++[xd],F++[yv],cN ρ7,λb o h=>?_,aE,?_,l5,k5,P⟩
         .rw[aJ (bI h Zr)];exact R7.same _ _ (sv _ _ h)
         .exact(adT.append (.cons (DV.ev (Ev.sub R7.bo) dv7) .nil)).ev cZ
        .rw[a3 YW]at P;cases P
  .have e:i=ds.length:=by ext
   subst e;rw[TL (QV _)]at f;have f:=f;cases f;refine .inl ⟨stop,?_⟩;refine w1 (bZ G l) (.ref l) Z (e1.trans ev1) (R2.add s Zr nD) ⟨l,F,rfl,.inr rfl,R2.Zx Zr,hD,dys,λk es hk z=>?_⟩;obtain⟨u,T,b,us,e2,g1,g2,g3,g4⟩:=R2.slot k _ hk;rw[z]at T;cases T;cases e2;rw[Zr]at g3;cases g3
def JB(ρ:aQ):bg (bg PV)->Res (bb D×aQ)
 |some (cL (.ow ds))=>.ok (ds,ρ)
 |_=>.bad
def qD(i:Nat):FI:=λρ=>JB ρ ρ[i]?
theorem Cz:Ox K E (xZ K (u7 i)) (qD i):=by
 intro B U O Y H ρ A R w;unfold qD at w;cases q:ρ[i]? with
 |none=>rw[q]at w;exact w.elim
 |some o=>
  cases o with
  |none=>rw[q]at w;exact w.elim
  |some x=>
   cases x with
   |fz d=>rw[q]at w;exact w.elim
   |pl j=>rw[q]at w;exact w.elim
   |ow ds=>rw[q]at w;obtain⟨v,p,a,vs,rfl,u,t,f,r⟩:=R.slot i _ q;refine⟨_,p,a,rfl,.inl ⟨⟨vs,Uq.of f⟩,w O _ H .refl R λX Z e s n=>?_⟩⟩;have k:=s _ _ f;have b:=r.ev e;refine⟨λj m=>?_,⟨vs,Uq.of k,by rw[b.length];simp_all⟩⟩;obtain⟨x,l,_⟩:=b.get (QY m);refine⟨⟨vs,x,Uq.of k,l⟩,?_⟩;rintro y z ⟨rfl,hy⟩;obtain⟨d,h,g⟩:=b.Yk (hy vs (Uq.of k));exact⟨Sv.refl _,d,h,g⟩
def dF(F:FN)(n:Nat)(fa:FA):FE:=λρ=>(fa ρ).bind λa=>(Res.RK (nu a.2 a.1)).bind λb=>if b.1.length=n then(iZ (F b.1)).bind λrv=>.ok (rv.pv,b.2)else .bad
theorem KR(ha:AO K E ta fa):EO K E (rA (zP K n F) [] E0 ta) (dF F n fa):=by
 intro B U O Y H ρ Q R w;refine ha B U O Y H ρ _ R (w.bind.imp λa f t vs u e1 m i=>?_);obtain⟨⟨ds,e⟩,q,b⟩:=f.RK;obtain⟨p,e2,R2,d⟩:=pL m i q;dsimp only at b;by_cases hn:ds.length=n
 .rw[ax hn]at b;obtain⟨rv,g,b⟩:=wZ (WR.bind b);rw[Ru];refine⟨d.length.trans hn,p,ds,λa z j=>R2.od a j z,d,?_⟩;rw[g];exact kR R2 λo v r e3 l h=>b o v r (e1.trans (e2.trans e3)) l h
 .rw[a3 hn]at b;exact b.elim
end
def fx(N:Nat)(g:FS):FN:=λds=>(g (ds.map (λd=>cL (.fz d))++QX (N - ds.length) lD)).bind λa=>match a with
 |.rt rv=>.ok rv
 |.nx _=>.ok (.fz .none)
 |_=>.bad
theorem AH(g:∀a,B a->H a≠lD)(l:Ss B K H vs ds):Rl K B H B (L2.start N vs) H (ds.map (λd=>cL (.fz d))++QX (N.length - ds.length) lD):=by
 have r:=l.length;refine⟨Sv.refl _,λ_ h=>h,g,λa z h=>g a h z,?_,λi x m=>?_,λi j xs p w hi=>?_⟩
 .unfold L2.start;simp_all
 all_goals
  have b:∀{i:Nat} {x:PV},(ds.map (λd=>cL (PV.fz d))++QX (N.length - ds.length) lD)[i]?=cL (cL x)->∃d,x=.fz d/\ds[i]?=cL d:=λ{i x} h=>by
   by_cases hi:i<ds.length
   .rw[Ro (by rw[QQ];exact hi),Q5]at h
    cases q:ds[i]? with
    |none=>rw[q]at h;cases h
    |some d=>rw[q]at h;cases h;exact⟨d,rfl,rfl⟩
   .rw[Rq (by rw[QQ];ext),Su]at h;split at h<;>cases h
 .obtain⟨d,rfl,n⟩:=b m;obtain⟨v,f,o⟩:=l.get n;refine⟨v,?_,o⟩;have hi:=(QU.mp f).1;unfold L2.start;rw[Ro (by rw[QQ];exact hi),Q5,f];rfl
 .obtain⟨d,e,_⟩:=b hi;cases e
theorem Qc(F:Wf K x qual st f fd)(S:TY N ps (aI st))(hn:ps.length=n)
  (p:∀(a:QN) (A:Rt) (outer:bb Env) (s:QS) (H:Hp) (E:XK),SY k (A.deeper (RH qual (aI st) s.heap.objs.size f a))->
   ∃t,WO (kr l9 P w K mg base N qual (aI st) f a A outer s H E).YY (d8 st) t/\SO K E t g):FnOk P w K mg base l9 (k+1) f fd ps (zP K n (fx N.length g)):=by
 refine F.ok S (λvs H Q E h=>h.1.trans hn.symm) (λa A outer s H vs Q E j h=>?_);obtain⟨t,d,i⟩:=p a A outer s H E j;obtain⟨u,B,ds,l,o,h⟩:=h;refine⟨t,d,i B H B _ H _ _ (AH l o) (WR.imp (WR.bind h) λm q=>?_)⟩;cases m with
 |rt rv=>exact q
 |nx ρ=>exact λv b r e R=>q .TF r R.same .TF
 |bk ρ=>exact q.elim
 |ct ρ=>exact q.elim
end L3
namespace L3
open PySem PySem.Spec PyProof.Rows L2
theorem OpR.or(h:OpR X f r)(h':OpR X f r'):OpR X f (λx y H Q=>r x y H Q\/r' x y H Q):=by
 intro a s b H x y v u Q I e d q;rcases q with q|q
 .exact h a s b H x y v u Q I e d q
 .exact h' a s b H x y v u Q I e d q
theorem JW(I:Inv X pins σ H s)(h:Ue X.K H l xs):xs.length<=Q3/\∃(a:bb QN) (n:Nat),Vals xs a/\xs.length=a.length/\s.heap.get? l=cL {cls:=.type "list",data:=.seq a.toArray n}:=by
 rcases h with(h|⟨o,h⟩)|⟨a,n,h1,h2,h3⟩
 .exact I.abo h
 .obtain⟨_,z,a,n,r,e⟩:=I.Sk l _ h;exact⟨z,a,n,r,r.length,e⟩
 .exact⟨h2,a,n,h3,h3.length,I.V5 _ _ h1⟩
def IU(K:Bn):R2:=λx y H Q=>∃l b xs zs,x=.ref l/\y=.ref b/\Ue K H l xs/\Ue K H b zs/\xs.length+zs.length<=Q3/\∀p,H p=lD->Q (.ref p) (bf H p (.lst (xs++zs)))
theorem F8:OpR X (SG .Add) (IU X.K):=by
 intro a s t H x y v u Q I i g h;obtain⟨l,b,xs,w,rfl,rfl,m,o,C,q⟩:=h;cases i;cases g;obtain⟨z,f,n,r,E,e⟩:=JW I m;obtain⟨A,d,B,j,F,e2⟩:=JW I o;refine PySem.P.add_list e e2 ?_ (by simp_all);have p:f.toArray++d.toArray=(f++d).toArray:=by simp
 rw[p];exact⟨.ref _,_,I.abi (r.append j) (by simp_all),rfl,q _ I.fresh⟩
def Ir(K:Bn):R2:=λx y H Q=>∃l k xs,x=.ref l/\y=.int k/\Ue K H l xs/\ -(2^63)<=k/\k<2^63/\xs.length*k.toNat<=Q3/\
 ∀p,H p=lD->Q (.ref p) (bf H p (.lst (QX k.toNat xs).flatten))
theorem Fh:OpR X (SG .Mult) (Ir X.K):=by
 intro j s N H x y v u Q I B A h;obtain⟨l,k,xs,rfl,rfl,E,J,G,C,q⟩:=h;cases B;obtain⟨t,rfl⟩:=A;obtain⟨z,b,n,r,P,e⟩:=JW I E;have d:b.toArray.size*k.toNat<=Q3:=by simp_all
 have f:¬b.toArray.size*k.toNat>(2^63 - 1)/8:=by
  have:(Q3:Nat)<=(2^63 - 1)/8:=by decide
  ext
 have g:¬(!RD.List.listFitsIndex k)=QM:=by rw[fitsIndex_both J G];simp_all
 have i:¬RD.List.listTooLong (b.toArray.size*k.toNat)=QM:=by rw[Cm d];simp_all
 have M:UP (λp o=>p++o) #[] (QX (if b.toArray.isEmpty=QM then 0 else k.toNat) b.toArray)=(QX k.toNat b).flatten.toArray:=by
  have L:=λm=>by have:=mP b m [];rw[Ta]at this;exact this
  rw[L];cases b with
  |nil=>simp
  |cons a O=>rfl
 refine Xw (by decide) ⟨_,e,rfl⟩ (λw=>VX w k t) noFill_list_mul F.fills_int_mul F.slot_int_rmul repeat_list F.slot_int_index.lookup
  (Vi F.slot_int_rmul (VX s k t) F.entry_int_rmul (F.args_int_rmul_2 _ _) (int___rmul___int_list k t l b.toArray n)
   ⟨e,rfl,⟨_,e,rfl⟩,Vi F.slot_list_mul ⟨_,e,rfl⟩ F.entry_list_mul (F.args_list_mul_2 _ _) (AutoListH.list___mul___list_int_3 l b.toArray n k t g f i) ⟨e,?_⟩⟩)
 rw[M];exact⟨.ref _,_,I.abi (r.rep k.toNat) (by rw[xG,Nat.mul_comm];exact C),rfl,q _ I.fresh⟩
section
variable{K:Bn}
def fI(g:Int->Int->Int):D->D->bg RV
 |.int i,.int j=>cL (.fz (.int (g i j)))
 |_,_=>lD
def fB(g:Int->Int->Bool):D->D->bg RV
 |.int i,.int j=>cL (.fz (.bool (g i j)))
 |_,_=>lD
def LZ(C:Int->Int->Bool)(g:Int->Int->Int):D->D->bg RV
 |.int i,.int j=>if C i j=QM then cL (.fz (.int (g i j)))else lD
 |_,_=>lD
theorem Ce(h:fI g dx dy=cL rv):∃i j,dx=.int i/\dy=.int j/\rv=.fz (.int (g i j)):=by
 unfold fI at h;split at h
 .cases h;exact⟨_,_,rfl,rfl,rfl⟩
 .cases h
theorem HM:jR K (tR λi j=>.int (g i j)) (fI g):=by intro O H x y dx d rv Q n b a e q;obtain⟨i,j,rfl,rfl,rfl⟩:=Ce e;cases b;cases a;exact⟨i,j,rfl,rfl,q.at (.int _)⟩
theorem yt:jR K (tR λi j=>.bl (g i j)) (fB g):=by
 intro O H x y dx d rv Q n b a e q;unfold fB at e;split at e
 .cases e;cases b;cases a;exact⟨_,_,rfl,rfl,q.at (.bl _)⟩
 .cases e
theorem sQ(f:∀i j,C i j=QM->C' i j):jR K (rI C' λi j=>.int (g i j)) (LZ C g):=by
 intro O H x y dx h rv Q n b a e q;unfold LZ at e;split at e
 .split at e
  .rename_i d;cases e;cases b;cases a;exact⟨_,_,rfl,rfl,f _ _ d,q.at (.int _)⟩
  .cases e
 .cases e
theorem vG(h:DX O K H x (.list ds)):∃a xs,x=.ref a/\Ue K H a xs/\Ss O K H xs ds:=h
theorem B7(h:DX O K H x (.tuple ds)):∃a xs,x=.ref a/\UN O K H a xs/\Ss O K H xs ds:=Bb h rfl
def HY(K:Bn):R2:=λx y H Q=>tR (λi j=>.int (i+j)) x y H Q\/IU K x y H Q\/IC K x y H Q
theorem F2:OpR X (SG .Add) (HY X.K):=OpR.or KH (OpR.or F8 E6)
def ci:D->D->bg RV
 |.int i,.int j=>cL (.fz (.int (i+j)))
 |.list xs,.list ys=>if xs.length+ys.length<=1000000 then cL (.ow (xs++ys))else lD
 |.tuple xs,.tuple ys=>if xs≠[]/\xs.length+ys.length<=1000000 then cL (.fz (.tuple (xs++ys)))else lD
 |_,_=>lD
theorem xz(h:n<=1000000):n<=Q3:=Rp h (by decide)
theorem Ss.ne(h:Ss O K H vs ds):vs=[]↔ds=[]:=by cases h<;>simp
theorem GU:jR K (HY K) ci:=by
 intro O H x y dx p rv Q n l j e q;unfold ci at e;split at e
 .cases e;cases l;cases j;exact .inl ⟨_,_,rfl,rfl,q.at (.int _)⟩
 .split at e
  .rename_i g;cases e;obtain⟨a,xs,rfl,h,d⟩:=vG l;obtain⟨b,i,rfl,m,f⟩:=vG j;exact .inr (.inl ⟨a,b,xs,i,rfl,rfl,h,m,xz (by rw[d.length,f.length];exact g),Fin.new (d.append f) q⟩)
  .cases e
 .split at e
  .rename_i g;cases e;obtain⟨a,xs,rfl,h,d⟩:=B7 l;obtain⟨b,i,rfl,m,f⟩:=B7 j;refine .inr (.inr ⟨a,b,xs,i,rfl,rfl,h.1,m.1,λz=>g.1 (d.ne.mp z),xz (by rw[d.length,f.length];exact g.2),λz=>?_,λ_=>Fin.Yl (d.append f) n q⟩);have o:=f.ne.mp z;subst o;rw[Ru]at q;exact q.at (.tup h d)
  .cases e
 .cases e
def DQ(K:Bn):R2:=λx y H Q=>rI Y8 (λi j=>.int (i*j)) x y H Q\/Ir K x y H Q
theorem Fc:OpR X (SG .Mult) (DQ X.K):=OpR.or K8 Fh
def gP(i:Int):Bool:=decide (-(2^64)<i/\i<2^64)
theorem oE(h:gP i=QM): -(2^64)<i/\i<2^64:=a6 h
def zj:D->D->bg RV
 |.int i,.int j=>if(gP i||gP j)=QM then cL (.fz (.int (i*j)))else lD
 |.list xs,.int k=>if xs.length*k.toNat<=1000000/\ -(2^63)<=k/\k<2^63 then cL (.ow (QX k.toNat xs).flatten)else lD
 |_,_=>lD
theorem Gx:jR K (DQ K) zj:=by
 intro O H x y dx i rv Q n f d e q;unfold zj at e;split at e
 .split at e
  .rename_i b
   cases e;cases f;cases d;refine .inl ⟨_,_,rfl,rfl,?_,q.at (.int _)⟩;rcases(Sd _ _).mp b with z|z
   .exact .inl (oE z)
   .exact .inr (oE z)
  .cases e
 .split at e
  .rename_i b;cases e;cases d;obtain⟨a,xs,rfl,h,g⟩:=vG f;exact .inr ⟨a,_,xs,rfl,rfl,h,b.2.1,b.2.2,xz (by rw[g.length];exact b.1),Fin.new (g.flat _) q⟩
  .cases e
 .cases e
def mG:=fI λi j=>i - j
theorem Gy:jR K (tR λi j=>.int (i - j)) mG:=HM
def LV(_ j:Int):Bool:=decide (0<j)
def dC:=LZ LV λi j=>i % j
theorem Hk:jR K (rI (λ_ j=>0<j) λi j=>.int (i % j)) dC:=sQ λi j h=>a6 h
def Kt(_ j:Int):Bool:=decide (0<j/\j<2^128)
def dZ:=LZ Kt λi j=>i/j
theorem EB:jR K (rI (λ_ j=>0<j/\j.natAbs.log2<9000) λi j=>.int (i/j)) dZ:=sQ λi j h=>by
 have b:=a6 h;refine⟨b.1,?_⟩;have a:j.natAbs<2^128:=by ext
 have d:=(Nat.log2_lt (by ext)).mpr a;ext
def An(i j:Int):Bool:=decide (0<=j/\j<=1000000/\i.natAbs<2^64)
theorem ES(i j:Int)(h:An i j=QM):JG i j:=by unfold An at h;exact(show 0<=j/\j<=1000000/\i.natAbs<2^64 from a6 h)
def wx:=LZ An λi j=>i^j.toNat
theorem FY:jR K (rI JG λi j=>.int (i^j.toNat)) wx:=sQ ES
def Pa(_ j:Int):Bool:=decide (0<=j)
def yS:=LZ Pa λi j=>i/2^j.toNat
theorem E5:jR K (rI (λ_ j=>0<=j) λi j=>.int (i/2^j.toNat)) yS:=sQ λi j h=>a6 h
def qO:=fI λi j=>RD.bitAnd i j
theorem Hu:jR K (tR λi j=>.int (RD.bitAnd i j)) qO:=HM
def Eg:=fB λi j=>decide (i<j)
def LY:=fB λi j=>decide (i<=j)
def pG:=fB λi j=>decide (j<i)
def N6:=fB λi j=>decide (j<=i)
theorem JR:jR K (tR λi j=>.bl (decide (i<j))) Eg:=yt
theorem JN:jR K (tR λi j=>.bl (decide (i<=j))) LY:=yt
theorem K4:jR K (tR λi j=>.bl (decide (j<i))) pG:=yt
theorem Kf:jR K (tR λi j=>.bl (decide (j<=i))) N6:=yt
def i7(d:D):Bool:=d.canLay0&&decide (d.depth<=64)
def br(d e:D):bg RV:=if(i7 d&&e.canLay0)=QM then cL (.fz (.bool (QO.eqv d e)))else lD
def mY(d e:D):bg RV:=if(i7 d&&e.canLay0)=QM then cL (.fz (.bool (!QO.eqv d e)))else lD
theorem JZ:jR K (GC K QP) br:=by
 intro O H x y dx f rv Q n d b e q;unfold br at e;split at e
 .rename_i a;cases e;unfold i7 at a;simp only[CL,decide_eq_true_eq]at a;exact⟨dx,f,d.plain,b.plain,a.1.1,a.2,a.1.2,q.at (.bl _)⟩
 .cases e
theorem Kk:jR K (GC K QM) mY:=by
 intro O H x y dx f rv Q n d b e q;unfold mY at e;split at e
 .rename_i a;cases e;unfold i7 at a;simp only[CL,decide_eq_true_eq]at a;exact⟨dx,f,d.plain,b.plain,a.1.1,a.2,a.1.2,q.at (.bl _)⟩
 .cases e
def lG:D->D->bg RV
 |.none,.none=>cL (.fz (.bool QM))
 |_,.none=>cL (.fz (.bool QP))
 |_,_=>lD
def gS:D->D->bg RV
 |.none,.none=>cL (.fz (.bool QP))
 |_,.none=>cL (.fz (.bool QM))
 |_,_=>lD
theorem BJ(h:DX O K H x d)(hd:d≠.none):x≠.TF:=by
 cases d with
 |none=>simp_all
 |list ds=>obtain⟨a,xs,rfl,_⟩:=vG h;simp
 |tuple ds=>obtain⟨a,xs,rfl,_⟩:=B7 h;simp
 |bool b=>cases h;simp
 |int b=>cases h;simp
 |str b=>cases h;simp
 |dict b=>cases h
theorem Hg:jR K (λx y H Q=>y=.TF/\Q (.bl (decide (x=.TF))) H) lG:=by
 intro O H x y dx f rv Q n b a e q;unfold lG at e;split at e
 .cases e;cases b;cases a;exact⟨rfl,q.at (.bl _)⟩
 .rename_i d;cases e;cases a;refine⟨rfl,?_⟩;rw[a5 (BJ b d)];exact q.at (.bl _)
 .cases e
theorem Fv:jR K (λx y H Q=>y=.TF/\Q (.bl (!decide (x=.TF))) H) gS:=by
 intro O H x y dx f rv Q n b a e q;unfold gS at e;split at e
 .cases e;cases b;cases a;exact⟨rfl,q.at (.bl _)⟩
 .rename_i d;cases e;cases a;refine⟨rfl,?_⟩;rw[a5 (BJ b d)];exact q.at (.bl _)
 .cases e
def GV(K:Bn)(neg:Bool):R2:=λx y H Q=>∃d ds,L2.DV K H x d/\(L2.DV K H y (.list ds)\/L2.DV K H y (.tuple ds))/\d.canLay0=QM/\QO.canLayAll0 ds=QM/\d.depth<=64/\Q (.bl (if neg then !(ds.any λe=>QO.eqv e d)else ds.any λe=>QO.eqv e d)) H
theorem Ky(p:X.A.units+65<cLine):OpR X (Si .In) (GV X.K QP):=by
 intro g s o H x y v u Q I l e h;obtain⟨d,ds,n,a,j,i,m,q⟩:=h;obtain⟨as,f⟩:=n.reads I l;have hm:min (QO.depthAll ds) d.depth<=64:=Rp (VW _ _) m;rcases a with a|a
 .obtain⟨bs,b⟩:=a.reads I e;exact acB b f i j (by ext) ⟨.bl _,H,I,rfl,q⟩
 .obtain⟨bs,b⟩:=a.reads I e;exact acC b f i j (by ext) ⟨.bl _,H,I,rfl,q⟩
theorem Gq(p:X.A.units+65<cLine):OpR X (Si .NotIn) (GV X.K QM):=by
 intro g s o H x y v u Q I l e h;obtain⟨d,ds,n,a,j,i,m,q⟩:=h;obtain⟨as,f⟩:=n.reads I l;have hm:min (QO.depthAll ds) d.depth<=64:=Rp (VW _ _) m;rcases a with a|a
 .obtain⟨bs,b⟩:=a.reads I e;exact acD b f i j (by ext) ⟨.bl _,H,I,rfl,q⟩
 .obtain⟨bs,b⟩:=a.reads I e;exact acE b f i j (by ext) ⟨.bl _,H,I,rfl,q⟩
def nN(d e:D):bg RV:=match fq e with
 |some ds=>if(i7 d&&QO.canLayAll0 ds)=QM then cL (.fz (.bool (ds.any λe=>QO.eqv e d)))else lD
 |none=>lD
def jX(d e:D):bg RV:=match fq e with
 |some ds=>if(i7 d&&QO.canLayAll0 ds)=QM then cL (.fz (.bool (!ds.any λe=>QO.eqv e d)))else lD
 |none=>lD
theorem Ea(a:DX O K H y e)(h:fq e=cL ds):L2.DV K H y (.list ds)\/L2.DV K H y (.tuple ds):=by
 unfold fq at h;split at h
 .cases h;exact .inr a.plain
 .cases h;exact .inl a.plain
 .cases h
theorem Ki:jR K (GV K QP) nN:=by
 intro O H x y dx g rv Q n d b e q;unfold nN at e;split at e
 .rename_i ds f
  split at e
  .rename_i a;cases e;unfold i7 at a;simp only[CL,decide_eq_true_eq]at a;exact⟨dx,ds,d.plain,Ea b f,a.1.1,a.2,a.1.2,q.at (.bl _)⟩
  .cases e
 .cases e
theorem GS:jR K (GV K QM) jX:=by
 intro O H x y dx g rv Q n d b e q;unfold jX at e;split at e
 .rename_i ds f
  split at e
  .rename_i a;cases e;unfold i7 at a;simp only[CL,decide_eq_true_eq]at a;exact⟨dx,ds,d.plain,Ea b f,a.1.1,a.2,a.1.2,q.at (.bl _)⟩
  .cases e
 .cases e
def aC(d e:D):bg RV:=match fq d,e with
 |some ds,.int i=>(kY ds i).map .fz
 |_,_=>lD
theorem BL(h:Ss O K H xs ds)(e:kY ds i=cL d):∃v,kY xs i=cL v/\DV O K H v d:=by
 unfold kY at e⊢;rw[h.length];cases q:IT ds.length i with
 |none=>simp_all
 |some j=>rw[q]at e;exact h.get e
theorem B4:jR K (MQ K) aC:=by
 intro O H x y dx o rv Q n l m e q;unfold aC at e;split at e
 .rename_i ds i b
  cases m;cases qa:kY ds i with
  |none=>simp_all
  |some d=>
   rw[qa]at e;cases e;unfold fq at b;split at b
   .cases b;obtain⟨a,xs,rfl,h,g⟩:=B7 l;obtain⟨v,f,j⟩:=BL g qa;exact .inr (.inl ⟨a,xs,i,v,rfl,rfl,h.1,f,q.at j⟩)
   .cases b;obtain⟨a,xs,rfl,h,g⟩:=vG l;obtain⟨v,f,j⟩:=BL g qa;exact .inl ⟨a,xs,i,v,rfl,rfl,h.sq,f,q.at j⟩
   .cases b
 .cases e
def zm(xs:bb D)(lo hi:bg Int):bb D:=(xs.drop (HT.sIx xs.length 0 lo)).take (HT.sIx xs.length xs.length hi - HT.sIx xs.length 0 lo)
theorem Bo{lo hi:bg Int}(h:Ss O K H xs ds):Ss O K H (zd xs lo hi) (zm ds lo hi):=by unfold zd zm;rw[h.length];exact(h.drop _).take _
def uS(n:Nat)(lo hi:bg Int):Bool:=decide (HT.sIx n 0 lo=0/\HT.sIx n n hi=n)
def MU(K:Bn):V->bg Int->bg Int->Hp->VK->Prop:=λx lo hi H Q=>NM K x lo hi H Q\/Mw K x lo hi H Q
theorem Kg:Ob X (MU X.K):=by
 intro a s b H x v e d lo hi f Q I g j pl i h;rcases h with h|h
 .exact Hh a s b H x v e d lo hi f Q I g j pl i h
 .exact JJ a s b H x v e d lo hi f Q I g j pl i h
def Na:D->bg Int->bg Int->bg RV
 |.list ds,lo,hi=>cL (.ow (zm ds lo hi))
 |.tuple ds,lo,hi=>if uS ds.length lo hi=QM then lD else cL (.fz (.tuple (zm ds lo hi)))
 |_,_,_=>lD
theorem Hn:OE K (MU K) Na:=by
 intro O H x lo hi dx rv Q n f e q;unfold Na at e;split at e
 .cases e;obtain⟨a,xs,rfl,d,b⟩:=vG f;exact .inl ⟨a,xs,rfl,d.sq,Fin.new (Bo b) q⟩
 .split at e
  .cases e
  .rename_i g;cases e;obtain⟨a,xs,rfl,d,b⟩:=B7 f;refine .inr ⟨a,xs,rfl,d.1,λz=>g ?_,Fin.Yl (Bo b) n q⟩;unfold uS;rw[<-b.length];exact a4 z
 .cases e
def de:bb D->bg RV
 |[d]=>(match fq d with
  |some ds=>cL (.fz (.int ds.length))
  |none=>lD)
 |_=>lD
theorem Lz:vt K (λxs H Q=>∃x n,xs=[x]/\ND K x H n/\Q (.int n) H) de:=by
 intro O H xs ds rv Q n g e q;unfold de at e;split at e
 .split at e
  .rename_i es d
   cases e;cases g with
   |cons b f=>
    cases f;unfold fq at d;split at d
    .cases d;obtain⟨a,xs,rfl,b,f⟩:=B7 b;exact⟨_,xs.length,rfl,.inr ⟨xs,b.1,rfl⟩,by rw[f.length];exact q.at (.int _)⟩
    .cases d;obtain⟨a,xs,rfl,b,f⟩:=vG b;exact⟨_,xs.length,rfl,.inl ⟨xs,b.sq,rfl⟩,by rw[f.length];exact q.at (.int _)⟩
    .cases d
  .cases e
 .cases e
def hV:bb D->bg RV
 |[.tuple ds]=>cL (.fz (.tuple ds))
 |[.list ds]=>cL (.fz (.tuple ds))
 |_=>lD
theorem CN:vt K (λxs H Q=>∃p ys,xs=[.ref p]/\((Uq K H p ys/\∀l,H l=lD->Q (.ref l) (bf H l (.tup ys)))\/(UG K H p ys/\Q (.ref p) H))) hV:=by
 intro O H xs ds rv Q n f e q;unfold hV at e;split at e
 .cases e
  cases f with
  |cons b d=>cases d;obtain⟨a,xs,rfl,b,d⟩:=B7 b;exact⟨a,xs,rfl,.inr ⟨b.1,q.at (.tup b d)⟩⟩
 .cases e
  cases f with
  |cons b d=>cases d;obtain⟨a,xs,rfl,b,d⟩:=vG b;exact⟨a,xs,rfl,.inl ⟨b.sq,Fin.Yl d n q⟩⟩
 .cases e
def mU:bb D->bg RV
 |[d]=>(fq d).map .ow
 |_=>lD
theorem Gu:vt K (λxs H Q=>∃p ys,xs=[.ref p]/\(Uq K H p ys\/UG K H p ys)/\∀l,H l=lD->Q (.ref l) (bf H l (.lst ys))) mU:=by
 intro O H xs ds rv Q n g e q;unfold mU at e;split at e
 .rename_i d
  cases g with
  |cons b f=>
   cases f;cases hs:fq d with
   |none=>simp_all
   |some es=>
    rw[hs]at e;cases e;unfold fq at hs;split at hs
    .cases hs;obtain⟨a,xs,rfl,b,f⟩:=B7 b;exact⟨a,xs,rfl,.inr b.1,Fin.new f q⟩
    .cases hs;obtain⟨a,xs,rfl,b,f⟩:=vG b;exact⟨a,xs,rfl,.inl b.sq,Fin.new f q⟩
    .cases hs
 .cases e
def rE:bb D->bg RV
 |[.int i,.int j]=>cL (.fz (.int (if j>i then j else i)))
 |_=>lD
theorem Fy:vt K (λxs H Q=>∃i j,xs=[.int i,.int j]/\Q (.int (if j>i then j else i)) H) rE:=by
 intro O H xs ds rv Q n b e q;unfold rE at e;split at e
 .cases e
  cases b with
  |cons f a=>
   cases a with
   |cons a d=>cases d;cases f;cases a;exact⟨_,_,rfl,q.at (.int _)⟩
 .cases e
end
end L3
namespace PySem
open Sem (wp)
open AutoSeq1 (wpAny_loadPart')
open Builtin Builtin.Str
section
variable{prog:Rb}{w:Rr}{A:Rt}{E:QN->QS->Prop}{s:QS}
theorem lm(a:s.heap.IsTupleIter it t i)(h:s.heap.IsTuple t items)(g:items[i]?=cL x)
  (l:∀h',h'.IsTupleIter it t (i+1)->Heap.SameBut it s.heap h'->Q x {s with heap:=h'}):wpAny (model prog w) A (RD.SmallTypes.nextOf (.ref it)) Q E s:=by
 obtain⟨o,d,j,b⟩:=id a;obtain⟨m,e,_,n,f⟩:=h;unfold RD.SmallTypes.nextOf;refine Ld (S8 a.typeIs F.slot_tuple_iterator_next
  (S9 F.slot_tuple_iterator_next a.typeIs F.entry_tuple_iterator_next ?_ (F.args_tuple_iterator_next_1 _)))
 show wpAny _ _ (field (.ref it) 0>>=_) _ _ s;refine Ld (RQ d b rfl ?_);show wpAny _ _ (if(QN.ref t==QN.none)=QM then _ else _) _ _ s;rw[a3 (show¬((QN.ref t==QN.none)=QM)from Rh)];refine Ld (RQ d b rfl ?_);refine Ld (Sm e f ?_);simp only[Sx,g];refine Ld (UH d b (by simp) (QW ⟨x,rfl,QW (l _ ?_ (Heap.SameBut.update ..))⟩));exact⟨_,cc _ d (di (cv b _)),(Obj.cls_mapFields ..).trans j,by rw[cv b];simp[rawInt]⟩
theorem mE(h:A.handled=lD)(a:s.heap.IsTupleIter it t i)(l:s.heap.IsTuple t items)(j:items[i]?=lD)
  (m:∀h' e,Heap.ExtBut it s.heap h'->(∃o,h'.get? e=cL o/\o.cls=.type "StopIteration")->E (.ref e) {s with heap:=h'}):wpAny (model prog w) A (RD.SmallTypes.nextOf (.ref it)) Q E s:=by
 obtain⟨o,d,q,g⟩:=id a;obtain⟨n,b,_,p,f⟩:=l;unfold RD.SmallTypes.nextOf;refine Ld (S8 a.typeIs F.slot_tuple_iterator_next
  (S9 F.slot_tuple_iterator_next a.typeIs F.entry_tuple_iterator_next ?_ (F.args_tuple_iterator_next_1 _)))
 show wpAny _ _ (field (.ref it) 0>>=_) _ _ s;refine Ld (RQ d g rfl ?_);show wpAny _ _ (if(QN.ref t==QN.none)=QM then _ else _) _ _ s;rw[a3 (show¬((QN.ref t==QN.none)=QM)from Rh)];refine Ld (RQ d g rfl ?_);refine Ld (Sm b f ?_);simp only[Sx,j];refine Ld (VY (Ld (UH d g (by simp) ?_)));refine Ld ?_;simp only[newExc,newTuple];refine Ld (Sb ?_ (by size_fits));refine Ld (WJ (by first|rfl|(simp only[firstArgMember];rfl)) ?_);refine Sb ?_ (by size_fits);simp only[raiseNew];refine Ld (wpAny_handled ?_)
 first|rw[show A.in1.handled=lD from h]|rw[h]
 refine Ld (QW (wpAny_throw ?_));exact m _ _ (((Heap.SameBut.update ..).extBut.push _).push _) ⟨_,b5 _ rfl,rfl⟩
end
end PySem
namespace L3
open PySem PySem.Spec PyProof.Rows L2
theorem GY(I:Inv X pins σ H s)(i:UG X.K H a xs)(h:UG X.K H a ys):xs=ys:=by
 obtain⟨e,g,⟨o,e1,_,n,j⟩,_⟩:=I.tuple i;obtain⟨d,f,⟨l,e2,_,m,b⟩,_⟩:=I.tuple h;rw[e1]at e2;cases e2;rw[j]at b;have:e=d:=by
  have q:e.toArray=d.toArray:=by injection b
  simpa using q
 subst this;exact g.inj f
theorem rj{bs:bb Bool}(r:Vals (bs.map V.bl) RG){i:Nat}(h:RG[i]?=cL v):∃b,bs[i]?=cL b/\v=.bool b:=by
 have d:=r.length;rw[QQ]at d;have hi:i<bs.length:=by rw[d];exact(QU.mp h).1
 obtain⟨u,a,e⟩:=r.get (by rw[Q5,QY hi];rfl);rw[h]at a;cases a;exact⟨bs[i],QY hi,e⟩
theorem vF(bs:bb Bool):((Rc bs.length).all λi=>(bs[i]?).getD QM)=bs.all id:=by
 rw[UZ,Sg,Sg];constructor
 .intro h b a;obtain⟨i,hi,e⟩:=Xx.mp a;have:=h i (SH.mpr hi);rw[QY hi,e]at this;exact this
 .intro h i hi;have hi:=SH.mp hi;rw[QY hi];exact h _ (UJ hi)
theorem ww(bs:bb Bool):((Rc bs.length).any λi=>(bs[i]?).getD QP)=bs.any id:=by
 rw[UZ,S0,S0];constructor
 .rintro⟨i,hi,h⟩;have hi:=SH.mp hi;rw[QY hi]at h;exact⟨_,UJ hi,h⟩
 .rintro⟨b,a,h⟩;obtain⟨i,hi,e⟩:=Xx.mp a;exact⟨i,SH.mpr hi,by rw[QY hi,e];exact h⟩
section
variable{X:Cx}
theorem DC(t:X.calm=QM):S3 X (.builtin "all") (λxs H Q=>∃(p:QT) (bs:bb Bool),xs=[.ref p]/\Uq X.K H p (bs.map V.bl)/\Q (.bl (bs.all id)) H):=by
 intro d s z H xs B Q I r h;obtain⟨l,bs,rfl,m,q⟩:=h;obtain⟨u,rfl,j⟩:=hG r;cases j;obtain⟨g,rv,pl,F⟩:=I.list m;have a:=rv.length;rw[QQ]at a;have y:l<s.heap.objs.size:=by obtain⟨_,_,e,_⟩:=pl;exact b4 e
 refine call_all_walk (TJ pl.isList ?_);refine⟨s.heap.objs.size,[s.heap.objs.size,l],[s.heap.objs.size],g.toArray.size,_,_,λi=>(bs[i]?).getD QM,rfl,Walks.list (A:=X.A.in1) (I.ok.hd t) _ l (Ri y) g.toArray,
  ⟨⟨_,b5 _ rfl,rfl,rfl⟩,pl.isList.push _⟩,λi v E J L w f=>?_,λG C n=>?_⟩
 .obtain⟨b,e,rfl⟩:=rj rv (by simpa using w);simp only[e,VD]at f;exact R8 f
 .rw[Q4,<-a,vF];refine⟨.bl _,H,I.kept λb o e=>n b o (λhm=>?_) (b3 _ e),rfl,q⟩;rw[Rn.mp hm]at e;exact Sj _ (b4 e)
theorem Bv(t:X.calm=QM):S3 X (.builtin "any") (λxs H Q=>∃(p:QT) (bs:bb Bool),xs=[.ref p]/\Uq X.K H p (bs.map V.bl)/\Q (.bl (bs.any id)) H):=by
 intro d s z H xs B Q I r h;obtain⟨l,bs,rfl,m,q⟩:=h;obtain⟨u,rfl,j⟩:=hG r;cases j;obtain⟨g,rv,pl,F⟩:=I.list m;have a:=rv.length;rw[QQ]at a;have y:l<s.heap.objs.size:=by obtain⟨_,_,e,_⟩:=pl;exact b4 e
 refine call_any_walk (TJ pl.isList ?_);refine⟨s.heap.objs.size,[s.heap.objs.size,l],[s.heap.objs.size],g.toArray.size,_,_,λi=>(bs[i]?).getD QP,rfl,Walks.list (A:=X.A.in1) (I.ok.hd t) _ l (Ri y) g.toArray,
  ⟨⟨_,b5 _ rfl,rfl,rfl⟩,pl.isList.push _⟩,λi v E J L w f=>?_,λG C n=>?_⟩
 .obtain⟨b,e,rfl⟩:=rj rv (by simpa using w);simp only[e,VD]at f;exact R8 f
 .rw[Q4,<-a,ww];refine⟨.bl _,H,I.kept λb o e=>n b o (λhm=>?_) (b3 _ e),rfl,q⟩;rw[Rn.mp hm]at e;exact Sj _ (b4 e)
end
section
variable{K:Bn}
def nv:bb D->bg (bb Bool)
 |[]=>cL []
 |.bool b::r=>(nv r).map (b::·)
 |_=>lD
theorem sd:∀{xs:bb V} {ds:bb D} {bs:bb Bool},Ss O K H xs ds->nv ds=cL bs->xs=bs.map V.bl
 |_,_,_,.nil,e=>by cases e;rfl
 |_,_,bs,.cons (ds:=r) h t,e=>by
  cases h with
  |bl b=>
   have a:(nv r).map (b::·)=cL bs:=e;cases q:nv r with
   |none=>rw[q]at a;cases a
   |some d=>rw[q]at a;cases a;rw[sd t q];rfl
  |_=>cases e
def zh:bb D->bg RV
 |[.list ds]=>(nv ds).map λbs=>.fz (.bool (bs.all id))
 |_=>lD
def wu:bb D->bg RV
 |[.list ds]=>(nv ds).map λbs=>.fz (.bool (bs.any id))
 |_=>lD
theorem LA:vt K (λxs H Q=>∃(p:QT) (bs:bb Bool),xs=[.ref p]/\Uq K H p (bs.map V.bl)/\Q (.bl (bs.all id)) H) zh:=by
 intro O H xs ds rv Q n f e q;unfold zh at e;split at e
 .rename_i es
  cases qs:nv es with
  |none=>rw[qs]at e;cases e
  |some bs=>
   rw[qs]at e;cases e;cases f with
   |cons d b=>cases b;obtain⟨a,g,rfl,d,b⟩:=vG d;have:=sd b qs;subst this;exact⟨a,bs,rfl,d.sq,q.at (.bl _)⟩
 .cases e
theorem Li:vt K (λxs H Q=>∃(p:QT) (bs:bb Bool),xs=[.ref p]/\Uq K H p (bs.map V.bl)/\Q (.bl (bs.any id)) H) wu:=by
 intro O H xs ds rv Q n f e q;unfold wu at e;split at e
 .rename_i es
  cases qs:nv es with
  |none=>rw[qs]at e;cases e
  |some bs=>
   rw[qs]at e;cases e;cases f with
   |cons d b=>cases b;obtain⟨a,g,rfl,d,b⟩:=vG d;have:=sd b qs;subst this;exact⟨a,bs,rfl,d.sq,q.at (.bl _)⟩
 .cases e
def jB:bb D->bg (bb Int)
 |[]=>cL []
 |.int b::r=>(jB r).map (b::·)
 |_=>lD
theorem lu:∀{xs:bb V} {ds:bb D} {bs:bb Int},Ss O K H xs ds->jB ds=cL bs->xs=bs.map V.int
 |_,_,_,.nil,e=>by cases e;rfl
 |_,_,bs,.cons (ds:=r) h t,e=>by
  cases h with
  |int b=>
   have a:(jB r).map (b::·)=cL bs:=e;cases q:jB r with
   |none=>rw[q]at a;cases a
   |some d=>rw[q]at a;cases a;rw[lu t q];rfl
  |_=>cases e
theorem jG(ns:bb Int):jB (ns.map .int)=cL ns:=by
 induction ns with
 |nil=>rfl
 |cons n r a=>show(jB (r.map .int)).map (n::·)=_;rw[a];rfl
def vZ(x:Int):bb Int->bb Int
 |[]=>[x]
 |y::r=>if x<=y then x::y::r else y::vZ x r
def jM:bb Int->bb Int
 |[]=>[]
 |x::r=>vZ x (jM r)
theorem ml(x:Int):∀l,(vZ x l).Perm (x::l)
 |[]=>VJ _
 |y::r=>by
  unfold vZ;split
  .exact VJ _
  .exact((ml x r).cons y).trans (afV x y r)
theorem eZ:∀l,(jM l).Perm l
 |[]=>VJ _
 |x::r=>(ml x _).trans ((eZ r).cons x)
theorem nc(x:Int):∀l:bb Int,l.Pairwise (·<=·)->(vZ x l).Pairwise (·<=·)
 |[],_=>by simp[vZ]
 |y::r,h=>by
  unfold vZ;obtain⟨d,f⟩:=Uh.mp h;split
  .rename_i a
   refine Uh.mpr ⟨λz b=>?_,h⟩;rcases Rm.mp b with e|e
   .rw[e];exact a
   .have:=d z e;ext
  .rename_i a
   refine Uh.mpr ⟨λz b=>?_,nc x r f⟩;rcases Rm.mp ((ml x r).mem_iff.mp b)with e|e
   .rw[e];ext
   .exact d z e
theorem d6:∀l,(jM l).Pairwise (·<=·)
 |[]=>UX
 |x::r=>nc x _ (d6 r)
theorem ki{l m:bb Int}(d:l.Perm m)(e:l.Pairwise (·<=·))(hm:m.Pairwise (·<=·)):l=m:=d.eq_of_pairwise (λa b _ _ g f=>Zn g f) e hm
def sC:bb D->bg RV
 |[.list ds]=>(match jB ds with
  |some a=>if a.length<64 then cL (.ow ((jM a).map .int))else lD
  |none=>lD)
 |_=>lD
theorem pp(ns:bb Int):Ss O K H (ns.map V.int) (ns.map .int):=by
 induction ns with
 |nil=>exact .nil
 |cons n r a=>exact .cons (.int n) a
theorem yO:vt K (λxs H Q=>∃(p:QT) (ns:bb Int),xs=[.ref p]/\Uq K H p (ns.map V.int)/\ns.length<64/\∀(l:QT) (b:bb Int),H l=lD->b.Perm ns->b.Pairwise (·<=·)->Q (.ref l) (bf H l (.lst (b.map V.int)))) sC:=by
 intro O H xs ds rv Q n d e q;unfold sC at e;split at e
 .rename_i es
  cases qs:jB es with
  |none=>rw[qs]at e;cases e
  |some ns=>
   rw[qs]at e;dsimp only at e;split at e
   .rename_i f
    cases e;cases d with
    |cons h g=>cases g;obtain⟨a,m,rfl,h,g⟩:=vG h;have:=lu g qs;subst this;refine⟨a,ns,rfl,h.sq,f,λl b f d i=>?_⟩;have j:=ki (d.trans (eZ ns).symm) i (d6 ns);subst j;exact Fin.new (pp _) q l f
   .cases e
 .cases e
end
def Pr(K:Bn)(H:Hp)(x:V)(t:String):Prop:=match x with
 |.TF=>t= "NoneType"
 |.bl _=>t= "bool"
 |.int _=>t= "int"
 |.str _=>t= "str"
 |.ref a=>(t= "list"/\∃xs,Uq K H a xs)\/(t= "tuple"/\∃xs,UG K H a xs)
 |_=>False
def IA(K:Bn):bb V->Hp->VK->Prop:=λxs H Q=>∃x n t b,xs=[x,.ty n]/\Pr K H x t/\Yg K (.type t) (.type n)=cL b/\Q (.bl b) H
theorem yY{X:Cx}:S3 X (.builtin "isinstance") (IA X.K):=by
 intro g s p H xs B Q I r h;obtain⟨x,n,t,b,rfl,ty,e,q⟩:=h;obtain⟨u,v,rfl,f,w⟩:=BN r;obtain rfl:v=QN.type n:=w;have d:∀j,EP X g p Q (.bool b) {s with toks:=j}:=λj=>⟨.bl b,H,I.tok j,rfl,q⟩;cases x with
 |TF=>cases(show t= "NoneType" from ty);cases(show u=QN.none from f);exact Tj PySem.W.kitx_none I.V5 True.intro e (λz=>nomatch z) d
 |bl y=>cases(show t= "bool" from ty);cases(show u=QN.bool y from f);exact Tj PySem.W.kitx_bool I.V5 True.intro e (λz=>nomatch z) d
 |int i=>cases(show t= "int" from ty);obtain⟨t,q⟩:=(show∃t,u=QN.int i t from f);cases q;exact Tj PySem.W.kitx_int I.V5 True.intro e (λz=>nomatch z) d
 |str y=>cases(show t= "str" from ty);obtain⟨t,q⟩:=(show∃t,u=QN.str y t from f);cases q;exact Tj PySem.W.kitx_str I.V5 True.intro e (λz=>nomatch z) d
 |ref a=>
  cases(show u=QN.ref a from f);rcases ty with⟨rfl,xs,h⟩|⟨rfl,xs,h⟩
  .obtain⟨A,r,⟨o,k,m,l,_⟩,_⟩:=I.list h;exact Tj PySem.W.kitx_list I.V5 ⟨_,m,l⟩ e (λz=>nomatch z) d
  .obtain⟨A,r,⟨o,m,l,_⟩,_⟩:=I.tuple h;exact Tj PySem.W.kitx_tuple I.V5 ⟨o,m,l⟩ e (λz=>nomatch z) d
 |_=>exact(show False from ty).elim
section
variable{K:Bn}{E:XK}{B O O':bS}{H0 H H':Hp}{σ:L2.St}{ρ ρ':aQ}{v:V}
def zt:D->bg String
 |.none=>cL "NoneType"
 |.bool _=>cL "bool"
 |.int _=>cL "int"
 |.str _=>cL "str"
 |.list _=>cL "list"
 |.tuple _=>cL "tuple"
 |.dict _=>lD
def Gz(n t:String):Bool:=n==t||(n== "int"&&t== "bool")
theorem Gk{n t:String}(hn:n= "int"\/n= "bool"\/n= "str"\/n= "list"\/n= "tuple"){d:D}(a:zt d=cL t):Yg K (.type t) (.type n)=cL (Gz n t):=by cases d<;>(cases a;try (rcases hn with rfl|rfl|rfl|rfl|rfl<;>rfl))
theorem NT{x:V}{d:D}{t:String}(h:DX O K H x d)(e:zt d=cL t):Pr K H x t:=by
 cases d with
 |none=>cases e;cases h;rfl
 |bool b=>cases e;cases h;rfl
 |int b=>cases e;cases h;rfl
 |str b=>cases e;cases h;rfl
 |dict b=>cases e
 |list ds=>cases e;obtain⟨a,xs,rfl,f,_⟩:=vG h;exact .inl ⟨rfl,xs,f.sq⟩
 |tuple ds=>cases e;obtain⟨a,xs,rfl,f,_⟩:=B7 h;exact .inr ⟨rfl,xs,f.1⟩
end
section
variable{K:Bn}
def D5:bb D->bg RV
 |[.int i]=>cL (.fz (.int i))
 |[.bool k]=>cL (.fz (.int (if k then 1 else 0)))
 |_=>lD
theorem Jh:vt K (λxs H Q=>(∃i,xs=[.int i]/\Q (.int i) H)\/∃k,xs=[.bl k]/\Q (.int (if k then 1 else 0)) H) D5:=by
 intro O H xs ds rv Q n d e q;unfold D5 at e;split at e
 .cases e
  cases d with
  |cons b a=>cases a;cases b;exact .inl ⟨_,rfl,q.at (.int _)⟩
 .cases e
  cases d with
  |cons b a=>cases a;cases b;exact .inr ⟨_,rfl,q.at (.int _)⟩
 .cases e
end
theorem yN{P:Rb}{w:Rr}{K:Bn}{mg f:Str->bg QN}{k:Nat}{fa a:QT}{fd:Sl}{x:Str}{F:FN}{b:QS}{vs:bb QN}{ns:bb Int}
  (i:K.In b.heap) (B:b.heap.Ns Rk mg) (m:b.heap.Ns builtinsNs f) (d:∀x:Str,x≠ "__name__"->f x=Ry x) (y:b.heap.NoLimit) (l:b.gens= #[])
  (ha:b.heap.get? a=cL {cls:=.type "list",data:=.seq vs.toArray}) (hi:IntsAre vs ns) (g:ns.length<=Q3) (j:SY k callerA)
  (C:∀base:Heap,K.In base->base.Ns Rk mg->FnOk P w K mg base l9 k fa fd [x] (zP K 1 F)) (A:∀(s:QS) (u:QN),Vz s fd ⟨[u],[]⟩ [(x,u)])
  (q:F [.list (ns.map .int)]=.ok (.fz (.bool QM))):
  codeAny (model P w) callerA (.call (.ref fa) ⟨[.ref a],[]⟩) (λr s'=>r=.ok (.ret (.bool QM))/\OldK b.heap s'.heap/\s'.os=b.os/\AllBare s'.gens) b:=by
 refine Co (sp:=λvs H Q E=>zP K 1 F vs H Q E\/(vs.length=1/\False)) i B m d y l ha hi g j (λbase k1 k2=>(C base k1 k2).imp λvs H Q E h=>?_) A (λH G p=>?_) λ_ _ _ h=>h
 .rcases h with h|h
  .exact h
  .exact h.2.elim
 .refine .inl ⟨rfl,Xb,[.list (ns.map .int)],λa z=>z.elim,.cons (.lst ⟨?_,λz=>z.elim⟩ (pp ns)) .nil,?_⟩
  .rcases p with h|⟨o,RG,n,h1,h2,h3,h4,h5,h6⟩
   .exact .inl h
   .have e:=i a o h1;rw[ha]at e;cases e;cases h4;exact .inr ⟨vs,0,h1,by rw[QQ];exact g,by simpa using h6⟩
  .rw[q];exact λv I s t=>by cases t;rfl
theorem Nl{l:X2}{n k:Nat}{q:Rb}{i:bb Str}{M:(Str->bg QN)->Heap->Prop}{z:Rr->Heap->Prop}{d:DefRec}{K:Params->Bn}{F:FN}{x:Str}
  (hn:l.most=cL n) (m:n<=Q3) (r:d.params.defaults=[]) (B:SY k callerA)
  (H:∀(w:Rr) (h:Heap),z w h->(K w.params).In h)
  (N:∀(w:Rr) (mg:Str->bg QN) (fa:QT) (h:Heap),(K w.params).In h->h.Ns Rk mg->mg d.name=cL (.ref fa)->
   ∃fd:Sl,(∀(s:QS) (u:QN),Vz s fd ⟨[u],[]⟩ [(x,u)])/\∀base:Heap,(K w.params).In base->base.Ns Rk mg->FnOk l.prog w (K w.params) mg base l9 k fa fd [x] (zP (K w.params) 1 F))
  (I:∀ns:bb Int,ns.length<=n->F [.list (ns.map .int)]=.ok (.fz (.bool QM))):
  PySem.W.WalkO q i M z l.row.toRowW d [] (λf vs=>aaS f vs):=by
 refine Att.attach_call hn r λw y v mg P fa o O S J a vs ns G Y Q R U p L j e C=>?_;have A:=H w _ Y;obtain⟨fd,E,t⟩:=N w mg fa _ A G.T.g p;exact yN A G.T.g G.T.b G.T.builtins G.T.nolimit C L j (Rp e m) B t E (I ns e)
theorem PD{P:Rb}{w:Rr}{K:Bn}{mg:Str->bg QN}{base:Heap}{x a:Str}{b:Tb}{f:QT}{fd:Sl}{N ps:bb Str}{k n m:Nat}{g:FS}{e:FN}(F:Wf K x a b f fd)(S:TY N ps (aI b))(hn:ps.length=n)(hm:N.length=m)(h:e=fx m g)
  (i:∀(d:QN) (A:Rt) (outer:bb Env) (s:QS) (H:Hp) (E:XK),SY k (A.deeper (RH a (aI b) s.heap.objs.size f d))->
   ∃t,WO (kr l9 P w K mg base N a (aI b) f d A outer s H E).YY (d8 b) t/\SO K E t g):FnOk P w K mg base l9 (k+1) f fd ps (zP K n e):=by
 subst h hm;exact Qc F S hn i
abbrev OQ(P:Rb)(w:Rr)(K:Bn)(mg:Str->bg QN)(base:Heap)(k:Nat)(x:Str)(ps:bb Str)(n:Nat)(F:FN):Prop:=tY P w K mg base k x ps (zP K n F)
end L3
namespace L3
open PySem L2
abbrev nd(n:Nat):D:=.int (n:Int)
def aB(ns:bb Nat):bb D:=ns.map nd
theorem b9(ns:bb Nat):(aB ns).length=ns.length:=by unfold aB;rw[QQ]
theorem xY(xs ys:bb Nat):aB (xs++ys)=aB xs++aB ys:=by unfold aB;rw[RI]
theorem ik{i:Nat}(h:(aB ns)[i]?=cL d):∃n,ns[i]?=cL n/\d=nd n:=by
 unfold aB at h;rw[Q5]at h;cases e:ns[i]? with
 |none=>rw[e]at h;cases h
 |some n=>rw[e]at h;exact⟨n,rfl,(Ra h).symm⟩
theorem aL(a:α):Res.RK (cL a)=.ok a:=rfl
theorem tX(a:α):iZ (Res.ok a)=.ok a:=rfl
theorem vE(i:Nat)(ρ:aQ):aa i ρ=x0 ρ i ρ[i]? :=rfl
theorem Bi(ρ:aQ)(i:Nat)(d:D):x0 ρ i (cL (cL (.fz d)))=.ok (.fz d,ρ):=rfl
theorem C9(ρ:aQ)(i:Nat)(ds:bb D):x0 ρ i (cL (cL (.ow ds)))=.ok (.pl i,ρ):=rfl
theorem mf(ds:bb D):Ck (cL (cL (.ow ds)))=cL ds:=rfl
theorem Dp(i:Nat)(d:D)(ρ:aQ):gN i (.fz d) ρ=.ok (ρ.set i (cL (.fz d))):=rfl
theorem yj(i:Int):Pc (.int i)=cL i:=rfl
theorem uF(b:Bool):OZ (.bool b)=cL b:=rfl
theorem fJ(ds:bb D):de [.tuple ds]=cL (.fz (nd ds.length)):=rfl
theorem jK(ds:bb D):de [.list ds]=cL (.fz (nd ds.length)):=rfl
theorem tM(i j:Int):Eg (.int i) (.int j)=cL (.fz (.bool (decide (i<j)))):=rfl
theorem IS(i j:Int):LY (.int i) (.int j)=cL (.fz (.bool (decide (i<=j)))):=rfl
theorem nj(i j:Int):pG (.int i) (.int j)=cL (.fz (.bool (decide (j<i)))):=rfl
theorem BF(i j:Int):N6 (.int i) (.int j)=cL (.fz (.bool (decide (j<=i)))):=rfl
theorem gA(i j:Int):ci (.int i) (.int j)=cL (.fz (.int (i+j))):=rfl
theorem vP(i j:Int):mG (.int i) (.int j)=cL (.fz (.int (i - j))):=rfl
theorem eU(h:0<j):dC (.int i) (.int j)=cL (.fz (.int (i % j))):=by show(if LV i j=QM then _ else _)=_;rw[ax (show LV i j=QM from a4 h)]
theorem fA(h:0<j/\j<2^128):dZ (.int i) (.int j)=cL (.fz (.int (i/j))):=by show(if Kt i j=QM then _ else _)=_;rw[ax (show Kt i j=QM from a4 h)]
theorem FC(h: -(2^64)<i/\i<2^64):zj (.int i) (.int j)=cL (.fz (.int (i*j))):=by show(if(gP i||gP j)=QM then _ else _)=_;rw[ax (by rw[show gP i=QM from a4 h,VF])]
theorem ER(h: -(2^64)<j/\j<2^64):zj (.int i) (.int j)=cL (.fz (.int (i*j))):=by show(if(gP i||gP j)=QM then _ else _)=_;rw[ax (by rw[show gP j=QM from a4 h,Bool.or_true])]
theorem xU(h:jg j):gl [.int j]=cL (gx 0 j.toNat):=by show(if jg j then _ else _)=_;rw[ax h]
theorem uC(n:Nat):gx 0 n=aB (Rc n):=by unfold gx aB;apply T6;intro k _;rw[Int.zero_add]
theorem ke(h:n<=1000000):gl [nd n]=cL (aB (Rc n)):=by rw[xU (by unfold jg;ext),uC,Sx]
theorem vA(h:f ρ=.ok (.nx ρ1)):a8 f g ρ=g ρ1:=by unfold a8;rw[h];rfl
theorem Dz(h:f ρ=.ok (.rt rv)):a8 f g ρ=.ok (.rt rv):=by unfold a8;rw[h];rfl
theorem O0(h:c ρ=.ok (QM,ρ1)):jb c f g ρ=f ρ1:=by unfold jb;rw[h];rfl
theorem Pd(h:c ρ=.ok (QP,ρ1)):jb c f g ρ=g ρ1:=by unfold jb;rw[h];rfl
theorem vD(h:fi ρ=.ok (ds,ρ1)):kN fi gt b ρ=nF gt b ds ρ1:=by unfold kN;rw[h];rfl
theorem Lk(h:j<=1000000/\i.natAbs<2^64):wx (.int i) (nd j)=cL (.fz (.int (i^j))):=by show(if An i (j:Int)=QM then cL (RV.fz (.int (i^((j:Nat):Int).toNat)))else lD)=_;rw[ax (by unfold An;exact a4 ⟨by ext,by ext,h.2⟩),Sx]
theorem Om:wx (.int 10) (.int 18)=cL (.fz (.int (10^18))):=Lk ⟨by decide,by decide⟩
def jN(gt:FG)(ft:FT)(fe:FE)(d:D)(ρ:aQ):Res (bg D×aQ):=(gt (.fz d) ρ).bind λe=>(ft e).bind λb=>if b.1=QM then(fe b.2).bind λa=>(Res.RK (uw a.2 a.1)).bind λx=>.ok (cL x.1,cN x.2)else .ok (lD,cN b.2)
theorem pB(h:jN gt ft fe d ρ=.ok (o,ρ'))(g:acc.length<1000000):cP gt ft fe (d::r) ρ acc=cP gt ft fe r ρ' (acc++o.toList):=by
 unfold jN at h;show(gt (.fz d) ρ).bind _=_;cases q1:gt (.fz d) ρ with
 |er x=>rw[q1]at h;cases h
 |bad=>rw[q1]at h;cases h
 |ok f=>
  rw[q1,ea]at h;rw[ea];cases q2:ft f with
  |er x=>rw[q2]at h;cases h
  |bad=>rw[q2]at h;cases h
  |ok b=>
   obtain⟨b,e⟩:=b;rw[q2,ea]at h;rw[ea];cases b with
   |false=>rw[a3 Rh]at h⊢;cases h;rw[Xy,Ru]
   |true=>
    rw[ax rfl]at h⊢;cases q3:fe e with
    |er x=>rw[q3]at h;cases h
    |bad=>rw[q3]at h;cases h
    |ok a=>
     rw[q3,ea]at h;rw[ea];cases q4:uw a.2 a.1 with
     |none=>rw[q4]at h;cases h
     |some x=>rw[q4]at h;cases h;show(if acc.length<1000000 then _ else _)=_;rw[ax g];rfl
theorem Ee(a b:Nat):decide ((a:Int)=(b:Int))=decide (a=b):=by
 by_cases h:a=b
 .rw[a4 h,a4 (by rw[h])]
 .rw[a5 h,a5 (by ext)]
theorem Ax(a b:Nat):QO.eqv (nd a) (nd b)=decide (a=b):=Ee a b
theorem jo(a b:Int):br (.int a) (.int b)=cL (.fz (.bool (decide (a=b)))):=by rfl
theorem lO(a b:Int):mY (.int a) (.int b)=cL (.fz (.bool (!decide (a=b)))):=by rfl
theorem AB(a b:Nat):br (nd a) (nd b)=cL (.fz (.bool (decide (a=b)))):=by rw[jo,Ee]
theorem fZ:∀ns:bb Nat,QO.canLayAll0 (aB ns)=QM
 |[]=>rfl
 |n::r=>by show(QO.canLay0 (nd n)&&QO.canLayAll0 (aB r))=QM;rw[fZ r];rfl
theorem jt:∀ns:bb Nat,QO.depthAll (aB ns)=0
 |[]=>rfl
 |n::r=>by show max (QO.depth (nd n)) (QO.depthAll (aB r))=0;rw[jt r];rfl
theorem sX:∀xs ys:bb Nat,QO.eqvAll (aB xs) (aB ys)=decide (xs=ys)
 |[],[]=>rfl
 |[],_::_=>rfl
 |_::_,[]=>rfl
 |n::r,m::t=>by show(QO.eqv (nd n) (nd m)&&QO.eqvAll (aB r) (aB t))=_;rw[sX r t,Ax];rw[UZ];simp
theorem JM(ns:bb Nat):i7 (.tuple (aB ns))=QM:=by show(QO.canLayAll0 (aB ns)&&decide (QO.depthAll (aB ns)+1<=64))=QM;rw[fZ,jt];rfl
theorem Jt(ns:bb Nat):i7 (.list (aB ns))=QM:=by show(QO.canLayAll0 (aB ns)&&decide (QO.depthAll (aB ns)+1<=64))=QM;rw[fZ,jt];rfl
theorem lN(xs ys:bb Nat):br (.list (aB xs)) (.list (aB ys))=cL (.fz (.bool (decide (xs=ys)))):=by unfold br;rw[Jt,show QO.canLay0 (.list (aB ys))=QM from fZ ys,SS,ax rfl,show QO.eqv (.list (aB xs)) (.list (aB ys))=_ from sX xs ys]
theorem yg(x:Nat)(xs:bb Nat):((aB xs).any λe=>QO.eqv e (nd x))=decide (x∈xs):=by
 induction xs with
 |nil=>rfl
 |cons y r a=>
  show(QO.eqv (nd y) (nd x)||(aB r).any λe=>QO.eqv e (nd x))=_;rw[a,Ax];by_cases h:y=x
  .rw[a4 h,a4 (show x∈y::r by rw[h];exact Q2),VF]
  .rw[a5 h,Uz]
   by_cases g:x∈r
   .rw[a4 g,a4 (Q0 _ g)]
   .rw[a5 g,a5 (λz=>(Rm.mp z).elim (λe=>h e.symm) g)]
theorem xn(x:Nat)(xs:bb Nat):nN (nd x) (.list (aB xs))=cL (.fz (.bool (decide (x∈xs)))):=by show(if(i7 (nd x)&&QO.canLayAll0 (aB xs))=QM then _ else _)=_;rw[fZ,show i7 (nd x)=QM from rfl,SS,ax rfl,yg]
theorem lc(x:Nat)(xs:bb Nat):nN (nd x) (.tuple (aB xs))=cL (.fz (.bool (decide (x∈xs)))):=by show(if(i7 (nd x)&&QO.canLayAll0 (aB xs))=QM then _ else _)=_;rw[fZ,show i7 (nd x)=QM from rfl,SS,ax rfl,yg]
theorem Cd{i:Nat}(h:xs[i]?=cL v):kY xs (i:Int)=cL v:=yi h
theorem Ex(h:ds[i]?=cL d):aC (.tuple ds) (nd i)=cL (.fz d):=by show(kY ds (i:Int)).map RV.fz=_;rw[Cd h];rfl
theorem Pg(h:ds[i]?=cL d):aC (.list ds) (nd i)=cL (.fz d):=by show(kY ds (i:Int)).map RV.fz=_;rw[Cd h];rfl
section
variable{ρ ρ1 Z ρ3:aQ}{fa X fc fe:FE}{pa pb pv:PV}{dx dy d:D}{rv:RV}{Y:bb PV}{ds:bb D}
theorem ah(h:ρ[i]?=cL (cL (.fz d))):aa i ρ=.ok (.fz d,ρ):=by rw[vE,h,Bi]
theorem gz(h:ρ[i]?=cL (cL (.ow ds))):aa i ρ=.ok (.pl i,ρ):=by rw[vE,h,C9]
theorem aw:pC d ρ=.ok (.fz d,ρ):=rfl
theorem av(ha:fa ρ=.ok (pa,ρ1))(g:X ρ1=.ok (pb,Z))(b:qB Z (bu pa)=cL dx)(a:qB Z pb=cL dy)(e:f dx dy=cL rv):au f fa X ρ=.ok (rv.pv,Z):=by unfold au;rw[ha,ea,g,ea,b,aL,ea,a,aL,ea,e,aL,ea]
theorem aR(ha:fa ρ=.ok (pa,ρ1))(a:qB ρ1 pa=cL (.bool b)):ar fa ρ=.ok (b,ρ1):=by unfold ar;rw[ha,ea,a,aL,ea,uF,aL,ea]
theorem jv(ha:f ρ=.ok (a,ρ1))(e:a=QM->g ρ1=.ok (b,ρ1)):gI f g ρ=.ok (a&&b,ρ1):=by
 unfold gI;rw[ha,ea];cases a with
 |true=>rw[ax rfl,e rfl,UA]
 |false=>rw[a3 Rh,Wg]
theorem EN(ha:f ρ=.ok (a,ρ1)):uV f ρ=.ok (!a,ρ1):=by unfold uV;rw[ha,ea]
theorem ay:ap ρ=.ok ([],ρ):=rfl
theorem am(ha:fa ρ=.ok (pa,ρ1))(a:fr ρ1=.ok (Y,Z)):ae fa fr ρ=.ok (bu pa::Y,Z):=by unfold ae;rw[ha,ea,a,ea]
theorem bX(ha:fr ρ=.ok (Y,ρ1))(hd:uM ρ1 Y=cL ds)(a:f ds=cL rv):dR f fr ρ=.ok (rv.pv,ρ1):=by unfold dR;rw[ha,ea,hd,aL,ea,a,aL,ea]
theorem eW(ha:fr ρ=.ok (Y,ρ1))(hd:nu ρ1 Y=cL (ds,Z))(hn:ds.length=n)(a:F ds=.ok rv):dF F n fr ρ=.ok (rv.pv,Z):=by unfold dF;rw[ha,ea,hd,aL,ea];dsimp only;rw[ax hn,a,tX,ea]
theorem eA(ha:fr ρ=.ok (Y,ρ1))(hd:nu ρ1 Y=cL (ds,Z))(hn:ds.length<=1000):aN fr ρ=.ok (.fz (.tuple ds),Z):=by unfold aN;rw[ha,ea,hd,aL,ea];dsimp only;rw[ax hn]
theorem iJ(ha:fr ρ=.ok (Y,ρ1))(hd:nu ρ1 Y=cL (ds,Z))(hn:ds.length<=1000):cz fr ρ=.ok (.ow ds,Z):=by unfold cz;rw[ha,ea,hd,aL,ea];dsimp only;rw[ax hn]
theorem uZ(ha:fa ρ=.ok (pa,ρ1))(a:qB ρ1 pa=cL (.int i)):oN fa ρ=.ok (cL i,ρ1):=by unfold oN;rw[ha,ea,a,aL,ea,yj,aL,ea]
theorem IH(ha:fa ρ=.ok (pa,ρ1))(b:fl ρ1=.ok (lo,Z))(e:fh Z=.ok (hi,ρ3))(a:qB ρ3 (bu pa)=cL dx)(g:f dx lo hi=cL rv):L5 f fa fl fh ρ=.ok (rv.pv,ρ3):=by unfold L5;rw[ha,ea,b,ea,e,ea,a,aL,ea,g,aL,ea]
theorem jQ(g:ρ[i]?=cL (cL (.ow es)))(ha:fe ρ=.ok (pa,ρ1))(b:uw ρ1 pa=cL (d,Z))(f:Z[i]?=cL (cL (.ow ds)))(e:ds.length<1000000)(a:Z.set i (cL (.ow (ds++[d])))=x):ky i fe ρ=.ok (.fz .none,x):=by unfold ky;rw[g,mf,aL,ea,ha,ea,b,aL,ea];dsimp only;rw[f,mf,aL,ea,ax e,a]
theorem cB(hi:fi ρ=.ok (ds,ρ1))(b:qX ρ1 fv=cL (cs,Z))(a:iZ (cP gt ft fe ds (QX n lD++cs.map λd=>cL (.fz d)) [])=.ok xs):cG n fv fi gt ft fe ρ=.ok (.ow xs,Z):=by unfold cG;rw[hi,ea];dsimp only;rw[b,aL,ea];dsimp only;rw[a,ea]
theorem K5(a:c ρ=.ok (QM,ρ1))(h:fa ρ1=.ok (pv,Z)):Ih c fa X ρ=.ok (pv,Z):=by unfold Ih;rw[a,ea,ax rfl,h]
theorem Kx(a:c ρ=.ok (QP,ρ1))(h:X ρ1=.ok (pv,Z)):Ih c fa X ρ=.ok (pv,Z):=by unfold Ih;rw[a,ea,a3 Rh,h]
theorem gQ:aC (.tuple (a::r)) (.int 0)=cL (.fz a):=Ex rfl
theorem ig:aC (.tuple (a::b::r)) (.int 1)=cL (.fz b):=Ex rfl
theorem kA:aC (.tuple (a::b::c::r)) (.int 2)=cL (.fz c):=Ex rfl
theorem Kq:aC (.list (a::r)) (.int 0)=cL (.fz a):=Pg rfl
theorem MG:aC (.list (a::b::r)) (.int 1)=cL (.fz b):=Pg rfl
theorem KU(b:k<=1000)(a:xs.length<=1000):zj (.list xs) (nd k)=cL (.ow (QX k xs).flatten):=by show(if xs.length*((k:Nat):Int).toNat<=1000000/\ -(2^63)<=(k:Int)/\(k:Int)<2^63 then cL (RV.ow (QX ((k:Nat):Int).toNat xs).flatten)else lD)=_;rw[Sx,ax ⟨Rp (Ws a b) (by decide),by ext,by ext⟩]
theorem fL(ha:fe ρ=.ok (pa,ρ1))(a:uw ρ1 pa=cL (d,Z))(b:fq d=cL es):gn fe ρ=.ok (es,Z):=by unfold gn;rw[ha,ea,a,aL,ea];dsimp only;rw[b,aL,ea]
theorem lJ(ha:fr ρ=.ok (Y,ρ1))(hd:uM ρ1 Y=cL ds)(a:f ds=cL es):kz f fr ρ=.ok (es,ρ1):=by unfold kz;rw[ha,ea,hd,aL,ea,a,aL,ea]
theorem pT(b:fe ρ=.ok (pv,ρ1))(a:g pv ρ1=.ok Z)(hn:Z=ρ3):cE fe g ρ=.ok (.nx ρ3):=by unfold cE;rw[b,ea];dsimp only;rw[a,ea,hn]
theorem tI(a:fe ρ=.ok (pv,ρ1)):fQ fe ρ=.ok (.nx ρ1):=by unfold fQ;rw[a,ea]
theorem sO(b:fe ρ=.ok (pv,ρ1))(a:y9 ρ1 pv=cL rv):cY fe ρ=.ok (.rt rv):=by unfold cY;rw[b,ea];dsimp only;rw[a,aL,ea]
theorem Gj(e:gt (.fz d) ρ=.ok ρ1)(b:ft ρ1=.ok (QM,Z))(g:fe Z=.ok (pv,ρ3))(a:uw ρ3 pv=cL (x,ρ4))(f:cN ρ4=ρ5):jN gt ft fe d ρ=.ok (cL x,ρ5):=by unfold jN;rw[e,ea,b,ea,ax rfl,g,ea,a,aL,ea,f]
theorem Oh(b:gt (.fz d) ρ=.ok ρ1)(a:ft ρ1=.ok (QP,Z))(e:cN Z=ρ5):jN gt ft fe d ρ=.ok (lD,ρ5):=by unfold jN;rw[b,ea,a,ea,a3 Rh,e]
end
end L3
namespace PySem
open Sem (wp)
open Builtin
open AutoSeq1 (wpAny_loadPart')
theorem mz:fillsNumberSlot (.type "tuple") "mul"=pure QP:=
 fillsNumberSlot_seq F.slot_tuple_mul.lookup (by left) F.slot_tuple_rmul.lookup (by left)
theorem tj:seqRepeat? (.type "tuple")=pure (cL (.builtin "tuple.__mul__")):=by unfold seqRepeat?;rw[seqSlot_of (name:= "__mul__") F.slot_tuple_mul.lookup (by left),seqSlot_of (name:= "__rmul__") F.slot_tuple_rmul.lookup (by left)];rfl
theorem oU(a:Int)(t:Tok)(l:QT)(b:Array QN)(n:Nat)(Te:bg QT)(f:Array (bg QN)):
  Meets (RD.«int.__rmul__» ⟨[.int a t,.ref l],[]⟩) (λ_ R s=>s.heap.get? l=cL {cls:=.type "tuple",dict:=Te,data:=.seq b n,slots:=f}/\R (.ok (.ret QN.notImplemented)) s):=
 .of_wp λe w A R s h=>by obtain⟨m,g,d,i,j⟩:=s;obtain⟨o,h⟩:=h;wp_walk;exact⟨_,rfl,h⟩
theorem vh(l:QT)(a:Array QN)(n:Nat)(Te:bg QT)(e:Array (bg QN))(u:Tok):
  Meets (RD.«tuple.__mul__» ⟨[.ref l,.int 1 u],[]⟩) (λ_ R s=>s.heap.get? l=cL {cls:=.type "tuple",dict:=Te,data:=.seq a n,slots:=e}/\R (.ok (.ret (QN.ref l))) s):=
 .of_wp λb w A R s h=>by
  obtain⟨j,g,d,f,i⟩:=s;obtain⟨m,h⟩:=h
  wp_walk
  exact⟨_,rfl,h⟩
theorem uD(l:QT)(a:Array QN)(n:Nat)(Te:bg QT)(j:Array (bg QN))(x:Int)(u:Tok)(I:2<=x)(r:x<=1000)(i:a.isEmpty=QP)(hz:a.size<=1000):
  Meets (RD.«tuple.__mul__» ⟨[.ref l,.int x u],[]⟩) (λ_ R s=>s.heap.get? l=cL {cls:=.type "tuple",dict:=Te,data:=.seq a n,slots:=j}/\R (.ok (.ret (QN.ref s.heap.objs.size))) {s with heap:=s.heap.push {cls:=QN.type "tuple",data:=ZF.seq (UP (λx1 x2=>x1++x2) #[] (QX x.toNat a))},toks:=s.toks}):=
 .of_wp λe w A R s h=>by
  obtain⟨G,g,d,E,F⟩:=s;obtain⟨q,h⟩:=h;have C:¬(decide (x< -(2^63))||decide (x≥2^63))=QM:=by simp;ext
  have B:(x==1)=QP:=by simp;ext
  have z:decide (x<=0)=QP:=by simp;ext
  have K:(a.isEmpty||x==1)=QP:=by rw[i,B];rfl
  have J:(decide (x<=0)||a.isEmpty)=QP:=by rw[i,z];rfl
  have f:(a.size:Int)*x<=1000000:=by have:(a.size:Int)*x<=1000*1000:=Int.mul_le_mul (by ext) r (by ext) (by ext);ext
  have y:¬(a.size:Int)*x>(2^63 - 1)/8:=by ext
  have v:¬Tuple.tupleTooMany ((a.size:Int)*x)=QM:=by
   unfold Tuple.tupleTooMany;simp;have:(Q3:Nat)=16777216:=by decide
   ext
  wp_walk
  rw[a3 C]
  wp_walk using wpAny_loadPart' q
  rw[a3 y];dsimp only;rw[a3 v];have p:(UP (λx1 x2=>x1++x2) #[] (QX x.toNat a)).size<=Q3:=by
   have t:∀(m:Nat) (b:Array QN),(UP (λx1 x2=>x1++x2) b (QX m a)).size=b.size+m*a.size:=by
    intro m
    induction m with
    |zero=>intro b;simp
    |succ m o=>intro b;rw[RY,UW,o,Array.size_append,aaR];ext
   rw[t];have H:x.toNat*a.size<=1000*1000:=Ws (by ext) hz;have:(Q3:Nat)=16777216:=by decide
   simp;ext
  wp_walk
  exact⟨_,rfl,h⟩
end PySem
namespace L3
open PySem PySem.Spec PyProof.Rows L2
def Il(K:Bn):R2:=λx y H Q=>∃(a:QT) (k:Nat) (xs:bb V),x=.ref a/\y=.int (k:Int)/\UG K H a xs/\xs≠[]/\1<=k/\k<=1000/\xs.length<=1000/\
 (k=1->Q (.ref a) H)/\(2<=k->∀p,H p=lD->Q (.ref p) (bf H p (.tup (QX k xs).flatten)))
theorem Et:OpR X (SG .Mult) (Il X.K):=by
 intro g s P H x y v u Q I A z h;obtain⟨a,k,xs,rfl,rfl,E,O,U,M,J,C,B⟩:=h;cases A;obtain⟨t,rfl⟩:=z;obtain⟨e,r,G,T⟩:=I.tuple E;obtain⟨⟨cls,dd,m,f⟩,d,l,n,j⟩:=id G;simp only at l j;subst l j;have i:=r.length;refine Xw (by decide) ⟨_,d,rfl⟩ (λw=>VX w k t) mz F.fills_int_mul F.slot_int_rmul tj F.slot_int_index.lookup
  (Vi F.slot_int_rmul (VX s k t) F.entry_int_rmul (F.args_int_rmul_2 _ _) (oU k t a e.toArray n dd f) ⟨d,rfl,⟨_,d,rfl⟩,?_⟩)
 by_cases L:k=1
 .subst L;exact Vi F.slot_tuple_mul ⟨_,d,rfl⟩ F.entry_tuple_mul (F.args_tuple_mul_2 _ _) (vh a e.toArray n dd f t) ⟨d,⟨.ref a,H,I,rfl,C rfl⟩⟩
 .refine Vi F.slot_tuple_mul ⟨_,d,rfl⟩ F.entry_tuple_mul (F.args_tuple_mul_2 _ _) (uD a e.toArray n dd f k t (by ext) (by ext) ?_ (by rw[Q4];ext)) ⟨d,?_⟩
  .cases e with
   |nil=>cases r;exact a7 rfl O
   |cons y R=>rfl
  .have N:UP (λp o=>p++o) #[] (QX ((k:Nat):Int).toNat e.toArray)=(QX k e).flatten.toArray:=by
    have:=mP e k [];rw[Ta]at this;rw[Sx];exact this
   rw[N];refine⟨.ref s.heap.objs.size,_,I.laid (λb S q=>b3 _ q) (QV _) ?_,rfl,B (by ext) _ (I.Sk.fresh (QV _))⟩;refine⟨?_,_,r.rep k,VN.new _ _⟩;rw[xG];exact Rp (Ws M J) (by decide)
def IL(K:Bn):R2:=λx y H Q=>DQ K x y H Q\/Il K x y H Q
theorem Hw:OpR X (SG .Mult) (IL X.K):=OpR.or Fc Et
def dS:D->D->bg RV
 |.tuple xs,.int k=>if xs≠[]/\1<=k/\k<=1000/\xs.length<=1000 then cL (.fz (.tuple (QX k.toNat xs).flatten))else lD
 |d,e=>zj d e
theorem Bp{K:Bn}:jR K (IL K) dS:=by
 intro O H x y dx i rv Q n f d e q;unfold dS at e;split at e
 .rename_i ds k
  split at e
  .rename_i g
   cases e;cases d;obtain⟨a,xs,rfl,h,b⟩:=B7 f;obtain⟨m,rfl⟩:∃m:Nat,k=(m:Int):=⟨k.toNat,by ext⟩;rw[Sx]at q;refine .inr ⟨a,m,xs,rfl,rfl,h.1,λz=>g.1 (b.ne.mp z),by ext,by ext,by rw[b.length];exact g.2.2.2,λe=>?_,λ_=>Fin.Yl (b.flat m) n q⟩;subst e;have e1:(QX 1 ds).flatten=ds:=by simp
   rw[e1]at q;exact q.at (.tup h b)
  .cases e
 .exact .inl (Gx O H x y dx i rv Q n f d e q)
end L3
namespace PySem
open Sem (wp)
open Builtin Builtin.Str
def itAt:Bool->Heap->QT->QT->Nat->Prop
 |true,h,it,a,i=>h.IsTupleIter it a i
 |false,h,it,a,i=>h.IsListIter it a i
def sqAt:Bool->Heap->QT->Array QN->Prop
 |true,h,a,xs=>h.IsTuple a xs
 |false,h,a,xs=>h.IsList a xs
def u9:Bool->String
 |true=> "tuple_iterator"
 |false=> "list_iterator"
theorem itAt.ext(x:itAt b h it a i)(e:Heap.ExtBut c h h')(n:it≠c):itAt b h' it a i:=by
 cases b with
 |true=>exact Heap.IsTupleIter.extBut x e n
 |false=>exact Heap.IsListIter.extBut x e n
theorem itAt.to(x:itAt b h it a i)(e:∀o,h.get? it=cL o->h'.get? it=cL o):itAt b h' it a i:=by
 cases b with
 |true=>exact Heap.IsTupleIter.at x e
 |false=>exact Heap.IsListIter.at x e
theorem itAt.live(x:itAt b h it a i):∃o,h.get? it=cL o/\∀v,o.data≠.cell v:=by
 cases b with
 |true=>obtain⟨o,e,_,d⟩:=(show h.IsTupleIter it a i from x);exact⟨o,e,λv z=>by rw[d]at z;cases z⟩
 |false=>obtain⟨o,e,_,d⟩:=(show h.IsListIter it a i from x);exact⟨o,e,λv z=>by rw[d]at z;cases z⟩
theorem sqAt.ext(x:sqAt b h a xs)(e:Heap.ExtBut c h h')(n:a≠c):sqAt b h' a xs:=by
 cases b with
 |true=>exact Heap.IsTuple.extBut x e n
 |false=>exact Heap.IsList.extBut x e n
theorem sqAt.psh(x:sqAt b h a xs)(o:Obj):sqAt b (h.push o) a xs:=by
 cases b with
 |true=>exact Heap.IsTuple.push x o
 |false=>exact Heap.IsList.push x o
theorem sqAt.lt(x:sqAt b h a xs):a<h.objs.size:=by
 cases b with
 |true=>obtain⟨o,e,_⟩:=(show h.IsTuple a xs from x);exact b4 e
 |false=>obtain⟨o,e,_⟩:=(show h.IsList a xs from x);exact b4 e
section
variable{prog:Rb}{w:Rr}{A:Rt}{E:QN->QS->Prop}{s:QS}
theorem sP(hi:itAt b s.heap it l i)(d:sqAt b s.heap l xs)(a:xs[i]?=cL x)
  (q:∀h',itAt b h' it l (i+1)->Heap.SameBut it s.heap h'->Q x {s with heap:=h'}):wpAny (model prog w) A (SmallTypes.nextOf (.ref it)) Q E s:=by
 cases b with
 |true=>exact lm hi d a q
 |false=>exact wpAny_nextOf_list_item hi d a q
theorem xH(f:A.handled=lD)(hi:itAt b s.heap it l i)(d:sqAt b s.heap l xs)(a:xs[i]?=lD)
  (q:∀h' e,Heap.ExtBut it s.heap h'->(∃o,h'.get? e=cL o/\o.cls=.type "StopIteration")->E (.ref e) {s with heap:=h'}):wpAny (model prog w) A (SmallTypes.nextOf (.ref it)) Q E s:=by
 cases b with
 |true=>exact mE f hi d a q
 |false=>exact wpAny_nextOf_list_end f hi d a q
theorem ym(a:sqAt b s.heap l xs)
  (q:Q (.ref s.heap.objs.size) {s with heap:=s.heap.push {cls:=.type (u9 b),data:=.fields #[.ref l,.int 0 0]}}):wpAny (model prog w) A (pyIter (.ref l)) Q E s:=by
 cases b with
 |true=>exact Vp a q
 |false=>exact TJ a q
theorem zE{Q:QN->QS->Prop}(D:V8 z TI TO i1 i2 l1 l2)(hz:Xh s.heap z TI TO .none)
  (Z:IsPair s.heap TI (.ref i1) (.ref i2)) (Z4:IsPair s.heap TO a b) (h1:itAt b1 s.heap i1 l1 n) (h2:itAt b2 s.heap i2 l2 n) (W4:sqAt b1 s.heap l1 xs) (Wm:sqAt b2 s.heap l2 ys) (hx:xs[n]?=cL x) (hy:ys[n]?=cL y)
  (q:∀h',Xh h' z TI TO (rawInt s.heap.objs.size)->IsPair h' TO x y->itAt b1 h' i1 l1 (n+1)->itAt b2 h' i2 l2 (n+1)->IsPair h' s.heap.objs.size x y->h'.objs.size=s.heap.objs.size+1->
   (∀c o,c≠z->c≠TO->c≠i1->c≠i2->s.heap.get? c=cL o->h'.get? c=cL o)->Q (.ref s.heap.objs.size) {s with heap:=h'}):
  wpAny (model prog w) A (RD.«zip.__next__» ⟨[.ref z],[]⟩) (λfin s'=>∃v,fin=.done (.ret v)/\Q v s') E s:=by
 show wpAny _ _ (field (.ref z) 2>>=_) _ _ _;refine Ld (RQ hz rfl rfl ?_);show wpAny _ _ (field (.ref z) 3>>=_) _ _ _;refine Ld (RQ hz rfl rfl ?_);refine Ld (Sm Z rfl ?_);show wpAny _ _ (SmallTypes.ownedTupleIsFree (.ref z)>>=_) _ _ _;refine Ld ?_;unfold SmallTypes.ownedTupleIsFree;refine Ld (RQ hz rfl rfl (QW ?_));simp only[if_true];refine Ld (VY ?_);refine Ld (RQ hz rfl rfl ?_);refine Ld (Tc hz (by simp) λk₁ r f=>?_);have Za:=r;clear r;refine Ld ?_;simp only[YN,Y0,UY,Wi];refine Ld (Ld (VS ?_));show wpAny _ _ (SmallTypes.nextOf (.ref i1)>>=_) _ _ _;refine Ld (sP (h1.ext f.extBut D.i1z) (W4.ext f.extBut D.l1z) hx λk₂ X h=>QW ?_);have I:=h.extBut _ _ D.TOi1 (f.extBut _ _ D.TOz Z4);refine Ld (Sm I rfl ?_);refine Ld (Vu I λk₃ H g=>?_);have L:=H;clear H;refine Ld (Ua (QW ?_));refine Ld (Ld (VS ?_));show wpAny _ _ (SmallTypes.nextOf (.ref i2)>>=_) _ _ _;refine Ld (sP (((h2.ext f.extBut D.i2z).ext h.extBut D.i12.symm).ext g.extBut D.TOi2.symm) (((Wm.ext f.extBut D.l2z).ext h.extBut D.l2i1).ext g.extBut D.l2TO) hy λk₄ U j=>QW ?_);have G:=j.extBut _ _ D.TOi2 L;refine Ld (Sm G rfl ?_);refine Ld (Vu G λd F i=>?_);have m:IsPair d TO x y:=F;clear F;refine Ld (Ua (QW (QW ?_)));refine Ld (Sm m rfl ?_);refine Ld (wpAny_newTuple ?_);have T:d.objs.size=s.heap.objs.size:=by rw[i.1,j.1,g.1,h.1,f.1]
 have B:=i.extBut _ _ D.TOz.symm (j.extBut _ _ D.i2z.symm (g.extBut _ _ D.TOz.symm (h.extBut _ _ D.i1z.symm Za)));have kp:∀c o,c≠z->c≠TO->c≠i1->c≠i2->s.heap.get? c=cL o->d.get? c=cL o:=λc o M Y c3 c4 e=>
  i.extBut _ _ Y (j.extBut _ _ c4 (g.extBut _ _ Y (h.extBut _ _ c3 (f.extBut _ _ M e))))
 have S:=((X.ext g.extBut D.TOi1.symm).ext j.extBut D.i12).ext i.extBut D.TOi1.symm;have R:=U.ext i.extBut D.TOi2.symm;have Uv:=b4 B;show wpAny _ _ (SmallTypes.ownedTupleHandOut (.ref z) (.ref d.objs.size)>>=_) _ _ _;refine Ld ?_;unfold SmallTypes.ownedTupleHandOut;have P:Xh (d.push {cls:=.type "tuple",data:=.seq #[x,y]}) z TI TO .ellipsis:=b3 _ B;refine Ld (Tc P (by simp) λk₇ O u=>?_);have K:=O;refine Tc K (by simp) λp N t=>?_;have l:=N;have up:∀c o,c≠z->d.get? c=cL o->p.get? c=cL o:=λc o M e=>t.extBut _ _ M (u.extBut _ _ M (b3 _ e));have C:=t.extBut _ _ (Se Uv) (u.extBut _ _ (Se Uv) (b5 _ rfl));have J:p.objs.size=d.objs.size+1:=by rw[t.1,u.1,ck]
 rw[T]at l C J;refine QW ⟨_,rfl,?_⟩;rw[T];exact q p l (up _ _ D.TOz m) (S.to λo e=>up _ o D.i1z e) (R.to λo e=>up _ o D.i2z e) C J λc o M Y c3 c4 e=>up c o M (kp c o M Y c3 c4 e)
theorem BT(M:A.handled=lD)(D:V8 z TI TO i1 i2 l1 l2)(hz:Xh s.heap z TI TO .none)
  (H:IsPair s.heap TI (.ref i1) (.ref i2)) (Z:IsPair s.heap TO a b) (N:itAt b1 s.heap i1 l1 n) (T:itAt b2 s.heap i2 l2 n) (R:sqAt b1 s.heap l1 xs) (Wm:sqAt b2 s.heap l2 ys) (Y:xs[n]?=lD\/ys[n]?=lD)
  (q:∀h' e,(∀c o,c≠z->c≠TO->c≠i1->c≠i2->s.heap.get? c=cL o->h'.get? c=cL o)->(∃o,h'.get? e=cL o/\o.cls=.type "StopIteration")->E (.ref e) {s with heap:=h'}):
  wpAny (model prog w) A (RD.«zip.__next__» ⟨[.ref z],[]⟩) Q E s:=by
 show wpAny _ _ (field (.ref z) 2>>=_) _ _ _;refine Ld (RQ hz rfl rfl ?_);show wpAny _ _ (field (.ref z) 3>>=_) _ _ _;refine Ld (RQ hz rfl rfl ?_);refine Ld (Sm H rfl ?_);show wpAny _ _ (SmallTypes.ownedTupleIsFree (.ref z)>>=_) _ _ _;refine Ld ?_;unfold SmallTypes.ownedTupleIsFree;refine Ld (RQ hz rfl rfl (QW ?_));simp only[if_true];refine Ld (VY ?_);refine Ld (RQ hz rfl rfl ?_);refine Ld (Tc hz (by simp) λL u d=>?_);have P:=u;refine Ld ?_;simp only[YN,Y0,UY,Wi];refine Ld (Ld (VS ?_));show wpAny _ _ (SmallTypes.nextOf (.ref i1)>>=_) _ _ _;cases hx:xs[n]? with
 |none=>
  refine Ld (xH M (N.ext d.extBut D.i1z) (R.ext d.extBut D.l1z) hx λB e f G=>?_);obtain⟨F,v,h⟩:=G;have j:=f _ _ D.i1z.symm P;have ne:e≠z:=λt=>by subst t;rw[j]at v;cases v;simp at h
  exact Tc j (by simp) λm _ g=>q m e (λc o C _ I _ t=>g.extBut _ _ C (f _ _ I (d.extBut _ _ C t))) ⟨F,g.extBut _ _ ne v,h⟩
 |some x=>
  have S:ys[n]?=lD:=by
   rcases Y with t|t
   .rw[hx]at t;cases t
   .exact t
  refine Ld (sP (N.ext d.extBut D.i1z) (R.ext d.extBut D.l1z) hx λB O f=>QW ?_);have l:=f.extBut _ _ D.TOi1 (d.extBut _ _ D.TOz Z);refine Ld (Sm l rfl ?_);refine Ld (Vu l λm J g=>?_);refine Ld (Ua (QW ?_));refine Ld (Ld (VS ?_));show wpAny _ _ (SmallTypes.nextOf (.ref i2)>>=_) _ _ _;refine Ld (xH M (((T.ext d.extBut D.i2z).ext f.extBut D.i12.symm).ext g.extBut D.TOi2.symm) (((Wm.ext d.extBut D.l2z).ext f.extBut D.l2i1).ext g.extBut D.l2TO) S λK e r G=>?_);obtain⟨F,v,h⟩:=G;have i:=r _ _ D.i2z.symm (g.extBut _ _ D.TOz.symm (f.extBut _ _ D.i1z.symm P));have ne:e≠z:=λt=>by subst t;rw[i]at v;cases v;simp at h
  exact Tc i (by simp) λy _ p=>q y e (λc o C X I U t=>p.extBut _ _ C (r _ _ U (g.extBut _ _ X (f.extBut _ _ I (d.extBut _ _ C t))))) ⟨F,p.extBut _ _ ne v,h⟩
end
section
variable{prog:Rb}{w:Rr}{A:Rt}{E:QN->QS->Prop}{s:QS}
theorem uP(D:V8 z TI TO i1 i2 l1 l2)(hz:Xh s.heap z TI TO .none)
  (d:IsPair s.heap TI (.ref i1) (.ref i2)) (v:IsPair s.heap TO a b) (i:itAt b1 s.heap i1 l1 n) (h:itAt b2 s.heap i2 l2 n) (C:sqAt b1 s.heap l1 xs) (B:sqAt b2 s.heap l2 ys) (g:xs[n]?=cL x) (f:ys[n]?=cL y)
  (q:∀h',Xh h' z TI TO (rawInt s.heap.objs.size)->IsPair h' TO x y->itAt b1 h' i1 l1 (n+1)->itAt b2 h' i2 l2 (n+1)->IsPair h' s.heap.objs.size x y->h'.objs.size=s.heap.objs.size+1->
   (∀c o,c≠z->c≠TO->c≠i1->c≠i2->s.heap.get? c=cL o->h'.get? c=cL o)->Q (cL (.ref s.heap.objs.size)) {s with heap:=h'}):
  wpAny (model prog w) A (pyNext (.ref z)) Q E s:=by
 have e:s.TypeIs (.ref z) "zip":=⟨_,hz,rfl⟩;unfold pyNext;refine Ld (aeu (S8 e F.slot_zip_next ?_));exact S9 F.slot_zip_next e F.entry_zip_next (zE D hz d v i h C B g f λh' u t r p m l j=>QW (q h' u t r p m l j)) (F.args_zip_next_1 _)
theorem u0(i:A.handled=lD)(D:V8 z TI TO i1 i2 l1 l2)(hz:Xh s.heap z TI TO .none)
  (d:IsPair s.heap TI (.ref i1) (.ref i2)) (t:IsPair s.heap TO a b) (p:itAt b1 s.heap i1 l1 n) (m:itAt b2 s.heap i2 l2 n) (v:sqAt b1 s.heap l1 xs) (u:sqAt b2 s.heap l2 ys) (r:xs[n]?=lD\/ys[n]?=lD)
  (q:∀h',(∀c o,c≠z->c≠TO->c≠i1->c≠i2->s.heap.get? c=cL o->h'.get? c=cL o)->Q lD {s with heap:=h'}):wpAny (model prog w) A (pyNext (.ref z)) Q E s:=by
 have f:s.TypeIs (.ref z) "zip":=⟨_,hz,rfl⟩;unfold pyNext;refine Ld (aeu (S8 f F.slot_zip_next ?_));refine S9 F.slot_zip_next f F.entry_zip_next (BT i D hz d t p m v u r λh' e h j=>?_) (F.args_zip_next_1 _);obtain⟨o,g,l⟩:=j;exact Ld (Wt ⟨o,g,l⟩ isSubtype_stop (QW (q _ h)))
end
abbrev Mv(h:Heap)(b:Bool)(a:QT):Heap:=h.push {cls:=.type (u9 b),data:=.fields #[.ref a,.int 0 0]}
abbrev Mo(h:Heap)(e d:Bool)(b a:QT):Heap:=(Mv h e b).push {cls:=.type (u9 d),data:=.fields #[.ref a,.int 0 0]}
abbrev Og(h:Heap)(b e:Bool)(a d:QT):Heap:=(Mo h b e a d).push {cls:=.type "tuple",data:=.seq #[.ref h.objs.size,.ref (Mv h b a).objs.size]}
abbrev Ma(h:Heap)(e d:Bool)(b a:QT):Heap:=(Og h e d b a).push {cls:=.type "tuple",data:=.seq #[.none,.none]}
abbrev OU(h:Heap)(e d:Bool)(b a:QT):Heap:=(Ma h e d b a).push {cls:=.type "zip",data:=.fields #[.none,.bool QP,.bool QP,.ref (Mo h e d b a).objs.size,.ref (Og h e d b a).objs.size]}
theorem nV(e f:Bool)(a b:QT)(xs ys:Array QN):
  Meets (RD.«zip.__new__» ⟨[.type "zip",.ref a,.ref b],[]⟩) (λ_ R s=>sqAt e s.heap a xs/\sqAt f s.heap b ys/\R (.ok (.ret (.ref (Ma s.heap e f a b).objs.size))) {s with heap:=OU s.heap e f a b}):=
 .of_wp λm w A R s h=>by
  obtain⟨o,g,d,l,n⟩:=s;obtain⟨r,q,h⟩:=h;have p:=sub_zip;have j:sqAt e (QS.heap ⟨o,g,d,l,n⟩) a xs:=r;have i:sqAt f (QS.heap ⟨o.push {cls:=.type (u9 e),data:=.fields #[.ref a,.int 0 0]},g,d,l,n⟩) b ys:=sqAt.psh q _
  wp_walk using ym j,ym i
  exact⟨_,rfl,h⟩
section
variable{prog:Rb}{w:Rr}{A:Rt}{E:QN->QS->Prop}{s:QS}
theorem Bu(e:h.get? it=cL {cls:=.type (u9 b),data:=.fields #[.ref l,.int 0 0]}):itAt b h it l 0:=by
 cases b with
 |true=>exact⟨_,e,rfl,rfl⟩
 |false=>exact⟨_,e,rfl,rfl⟩
theorem zu(v:sqAt b1 s.heap l1 xs)(u:sqAt b2 s.heap l2 ys)
  (q:∀h',Xh h' (s.heap.objs.size+4) (s.heap.objs.size+2) (s.heap.objs.size+3) .none->IsPair h' (s.heap.objs.size+2) (.ref s.heap.objs.size) (.ref (s.heap.objs.size+1))->
   IsPair h' (s.heap.objs.size+3) .none .none->itAt b1 h' s.heap.objs.size l1 0->itAt b2 h' (s.heap.objs.size+1) l2 0->(∀c o,s.heap.get? c=cL o->h'.get? c=cL o)->Q (.ref (s.heap.objs.size+4)) {s with heap:=h'}):
  wpAny (model prog w) A (call (.type "zip") [.ref l1,.ref l2]) Q E s:=by
 refine callType_new F.called_zip (by decide) (F.typeCall_zip_2 _ _) (F.newCall_zip_2 _ _) (λobj=>F.args_object_init_3 obj _ _) F.entry_zip_new (nV b1 b2 l1 l2 xs ys) ⟨v,u,?_⟩;have h:(Mv s.heap b1 l1).objs.size=s.heap.objs.size+1:=ck ..;have g:(Mo s.heap b1 b2 l1 l2).objs.size=s.heap.objs.size+2:=by rw[ck,h]
 have f:(Og s.heap b1 b2 l1 l2).objs.size=s.heap.objs.size+3:=by rw[ck,g]
 have l:(Ma s.heap b1 b2 l1 l2).objs.size=s.heap.objs.size+4:=by rw[ck,f]
 have r:∀c o,s.heap.get? c=cL o->(Mv s.heap b1 l1).get? c=cL o:=λc o e=>b3 _ e;have j:∀c o,(Mv s.heap b1 l1).get? c=cL o->(Mo s.heap b1 b2 l1 l2).get? c=cL o:=λc o e=>b3 _ e;have d:∀c o,(Mo s.heap b1 b2 l1 l2).get? c=cL o->(Og s.heap b1 b2 l1 l2).get? c=cL o:=λc o e=>b3 _ e;have b:∀c o,(Og s.heap b1 b2 l1 l2).get? c=cL o->(Ma s.heap b1 b2 l1 l2).get? c=cL o:=λc o e=>b3 _ e;have a:∀c o,(Ma s.heap b1 b2 l1 l2).get? c=cL o->(OU s.heap b1 b2 l1 l2).get? c=cL o:=λc o e=>b3 _ e;have i:(OU s.heap b1 b2 l1 l2).get? (Ma s.heap b1 b2 l1 l2).objs.size=cL _:=b5 _ rfl;have m:=a _ _ (b5 _ rfl);have n:=a _ _ (b _ _ (b5 _ rfl));have p:=a _ _ (b _ _ (d _ _ (b5 _ rfl)));have t:=a _ _ (b _ _ (d _ _ (j _ _ (b5 _ rfl))));rw[g,f,l]at i;rw[h,g]at n;rw[f]at m;rw[h]at p;rw[l];exact⟨⟨_,i,rfl⟩,q _ i n m (Bu t) (Bu p) λc o e=>a _ _ (b _ _ (d _ _ (j _ _ (r _ _ e))))⟩
end
end PySem
namespace L3
open PySem PySem.Spec PyProof.Rows L2
def z8(b:Bool)(K:Bn)(H:Hp)(a:QT)(xs:bb V):Prop:=match b with
 |true=>UG K H a xs
 |false=>Uq K H a xs
def OV(K:Bn)(d b:Bool)(a c:QT):It:=
 ⟨λi H=>∃xs ys x y,z8 d K H a xs/\z8 b K H c ys/\xs[i]?=cL x/\ys[i]?=cL y,
  λi H v e=>∃p x y,H p=lD/\v=.ref p/\(∀xs,z8 d K H a xs->xs[i]?=cL x)/\(∀ys,z8 b K H c ys->ys[i]?=cL y)/\e=bf H p (.tup [x,y]),
  λi H=>∃xs ys,z8 d K H a xs/\z8 b K H c ys/\(xs.length<=i\/ys.length<=i)⟩
theorem EU(I:Inv X pins σ H s)(h:Uq X.K H a xs)(g:Uq X.K H a ys):xs=ys:=by
 obtain⟨d,f,⟨o,k,e1,_,n,j⟩,_⟩:=I.list h;obtain⟨b,e,⟨l,k2,e2,_,m,i⟩,_⟩:=I.list g;rw[e1]at e2;cases e2;have:d=b:=by
  have q:d.toArray=b.toArray:=by injection j.symm.trans i
  simpa using q
 subst this;exact f.inj e
theorem mQ(I:Inv X pins σ H s)(h:z8 b X.K H a xs):∃RG,Vals xs RG/\sqAt b s.heap a RG.toArray:=by
 cases b with
 |true=>obtain⟨RG,rv,p,d⟩:=I.tuple h;exact⟨RG,rv,p⟩
 |false=>obtain⟨RG,rv,p,d⟩:=I.list h;exact⟨RG,rv,p.isList⟩
theorem wY(I:Inv X pins σ H s)(e:z8 b X.K H a xs)(d:z8 b X.K H a ys):xs=ys:=by
 cases b with
 |true=>exact GY I e d
 |false=>exact EU I e d
theorem yQ{ch:bb QT}(I:Inv X pins σ H s)(d:∀b∈ch,mI X pins H b)
  (k:∀b u,b∉ch->s.heap.get? b=cL u->h'.get? b=cL u):Inv X pins σ H {s with heap:=h',toks:=t'}:=by
 have g:∀b u,H b=cL u->b∉ch:=λb u e z=>by rw[(d b z).1]at e;cases e
 refine I.step (λb i=>?_) (λb u _ _ a e _=>k b u a e) (λb u _ _ a e _=>⟨u.slots,k b u a e⟩) (λ_ _ _ _ n=>n)
  (λb u a e=>⟨u,k b u a e⟩) (λ_ _ e=>e) (λ_ _ _ e=>e) (λb ps e=>⟨#[],by rw[e];simp⟩) (λm hm=>?_) (λb u e=>?_) I.bare
 .obtain⟨_,p,_,o,l,j⟩:=d b i;exact⟨o,p,l,j⟩
 .obtain⟨f,es,t,h,r⟩:=hm;exact⟨f,es,t,k _ f (λz=>(d _ z).2.1 rfl) h,r⟩
 .refine(I.Sk b u e).VQ (λc v a q=>k c v ?_ q) (λ_ q=>q) λ_ _ q=>q
  rcases a with z|z
  .rw[z];exact g b u e
  .exact g c _ z
theorem D0{K:Bn}{kk}(b1 b2:Bool)(z TI TO A r S R:QT)(D:V8 z TI TO A r S R):
  Turn P w K (.Tuple elts kk tp) (OV K b1 b2 S R) [z,TI,TO,A,r] z (λi h=>Xh h z TI TO .none/\IsPair h TI (.ref A) (.ref r)/\(∃a b,IsPair h TO a b)/\itAt b1 h A S i/\itAt b2 h r R i) where
 mem:=by simp
 obj:=λi h e b d=>by
  obtain⟨j,f,⟨a,c,l⟩,p,m⟩:=e;simp only[Rm,Sq,or_false]at d;rcases d with rfl|rfl|rfl|rfl|rfl
  .exact⟨_,j,λv q=>by cases(show ZF.fields _=ZF.cell v from q)⟩
  .exact⟨_,f,λv q=>by cases(show ZF.seq _ _=ZF.cell v from q)⟩
  .exact⟨_,l,λv q=>by cases(show ZF.seq _ _=ZF.cell v from q)⟩
  .exact p.live
  .exact m.live
 keep:=λi h h' e k=>by obtain⟨j,f,⟨a,c,l⟩,p,m⟩:=e;exact⟨k z (by simp) _ j,k TI (by simp) _ f,⟨a,c,k TO (by simp) _ l⟩,p.to λo q=>k A (by simp) o q,m.to λo q=>k r (by simp) o q⟩
 item:=by
  intro X hP Y hK hc i g s σ H E I J e hg;subst hP Y hK;obtain⟨j,f,⟨a,c,l⟩,p,m⟩:=e;obtain⟨xs,ys,x,y,F,C,hx,hy⟩:=hg;obtain⟨RG,N,Q⟩:=mQ I F;obtain⟨B,M,O⟩:=mQ I C;obtain⟨u,hu,ru⟩:=N.get hx;obtain⟨t,ht,rt⟩:=M.get hy;refine uP D j f l p m Q O (by simpa using hu) (by simpa using ht) λk z1 o1 g1 g2 pr sz G=>⟨_,rfl,?_⟩;refine wpAny_letOwnedTupleGo_zip z1 λZo z2 e2=>?_;have T:=b4 j;have hIl:=b4 f;have hOl:=b4 l;have h1l:A<s.heap.objs.size:=by obtain⟨_,q,_⟩:=p.live;exact b4 q
  have h2l:r<s.heap.objs.size:=by obtain⟨_,q,_⟩:=m.live;exact b4 q
  have hn:=I.Sk.fresh (QV _);have kk:∀b o,b∉[z,TI,TO,A,r]->s.heap.get? b=cL o->Zo.get? b=cL o:=λb o d q=>by simp only[Rm,Sq,or_false,not_or]at d;exact(e2.2 b d.1).trans (G b o d.1 d.2.2.1 d.2.2.2.1 d.2.2.2.2 q)
  have hT2:=(e2.2 _ (Se T)).trans pr
  have I2:Inv X g σ (bf H s.heap.objs.size (.tup [x,y])) {s with heap:=Zo}:=
   I.Xl J kk (QV _) ⟨by show 2<=Q3;decide,[u,t],.cons ru (.cons rt .nil),⟨_,hT2,⟨rfl,_,rfl⟩,rfl⟩⟩
  have L:∀b o,b≠z->k.get? b=cL o->Zo.get? b=cL o:=λb o n q=>(e2.2 b n).trans q;refine⟨.ref s.heap.objs.size,_,I2,rfl,⟨_,x,y,hn,rfl,λzs Z=>by rw[wY I Z F];exact hx,λzs Z=>by rw[wY I Z C];exact hy,rfl⟩,
   ⟨z2,L _ _ D.TIz (G _ _ D.TIz D.TITO D.TIi1 D.TIi2 f),⟨_,_,L _ _ D.TOz o1⟩,g1.to λo q=>L _ _ D.i1z q,g2.to λo q=>L _ _ D.i2z q⟩,λb d=>?_⟩
  have hb2:b<s.heap.objs.size:=by simp only[Rm,Sq,or_false]at d;rcases d with rfl|rfl|rfl|rfl|rfl<;>assumption
  rw[aJ (Ri hb2)];exact(J b d).1
 done:=by
  intro X hP Y hK hc i g s σ H E I J e hg;subst hP Y hK;obtain⟨j,f,⟨a,c,l⟩,p,m⟩:=e;obtain⟨xs,ys,F,C,U⟩:=hg;obtain⟨RG,N,Q⟩:=mQ I F;obtain⟨B,M,O⟩:=mQ I C;have W4:=N.length;have Wm:=M.length;have hd:RG.toArray[i]?=lD\/B.toArray[i]?=lD:=by
   rcases U with q|q
   .exact .inl (by simp;ext)
   .exact .inr (by simp;ext)
  refine u0 (I.ok.hd hc) D j f l p m Q O hd λk G=>⟨rfl,?_⟩;exact yQ I J λb o d q=>by simp only[Rm,Sq,or_false,not_or]at d;exact G b o d.1 d.2.2.1 d.2.2.2.1 d.2.2.2.2 q
 self:=λ_ _ _ _ _ e h=>aaT e.1 h
theorem yV(n b a:Nat)(e:b<n)(d:a<n):V8 (n+4) (n+2) (n+3) n (n+1) b a:=by constructor<;>(show(_:Nat)≠_;ext)
def Iu(K:Bn)(ta:TA):TI:=λd H R=>ta d H λvs b=>∃a c b1 b2,vs=[.ref a,.ref c]/\(∃xs,z8 b1 K b a xs)/\(∃ys,z8 b2 K b c ys)/\R (OV K b1 b2 a c) b
theorem Bq:Ry "zip"=cL (.type "zip"):=by left
theorem Kj{kk}(P:Gl X "zip")(hm:X.mg "zip"=lD)(ha:PA X [l,m] ta)(M:Rg [l,m] X.env=(QP,eval l X.env)::Rg [m] X.env:=by rfl)(N:(backTo pos (Rg [m] X.env)).any (·.1)=QP:=by rfl):
  PI X (.Tuple elts kk tp) (.Call (.Name "zip" p) [l,m] [] pos) (Iu X.K ta):=by
 intro d s w H R I h;refine Call_ (my I P hm Bq (TX (cF (ha pos d s w H _ I h) λZ f ⟨vs,v,i,E,F⟩=>?_) M N));obtain⟨a,c,U,T,e,⟨xs,B⟩,⟨Y,A⟩,q⟩:=F;subst e;obtain⟨u,t,rfl,C,rt⟩:=BN E;cases C;cases rt;obtain⟨RG,rx,o⟩:=mQ i B;obtain⟨L,ry,n⟩:=mQ i A;have S:∀b∈[f.heap.objs.size+4,f.heap.objs.size+2,f.heap.objs.size+3,f.heap.objs.size,f.heap.objs.size+1],mI X d v b:=λb r=>by
  have g:f.heap.objs.size<=b:=by simp only[Rm,Sq,or_false]at r;have Q:=r;ext
  exact i.Xq g (i.Sk.fresh g)
 refine zu o n λh1 j J G z y O=>?_;refine aaT j ?_;exact⟨f.heap.objs.size+4,_,_,_,v,rfl,i.kept O,D0 U T _ _ _ _ _ a c (yV _ _ _ o.lt n.lt),⟨j,J,⟨_,_,G⟩,z,y⟩,S,q⟩
def KI:Q9->Bool
 |.Starred _ _=>QM
 |_=>QP
theorem ra(e:Q9)(es:bb Q9)(env:Env)(h:KI e=QP):Rg (e::es) env=(QP,eval e env)::Rg es env:=by cases e<;>first|rfl|cases h
def kI:bb D->bb D->bb D
 |x::r,y::q=>.tuple [x,y]::kI r q
 |_,_=>[]
theorem tV:∀(xs ys:bb D),(kI xs ys).length=min xs.length ys.length
 |[],_=>by simp[kI]
 |_::_,[]=>by simp[kI]
 |_::r,_::q=>by simp only[kI,QZ,tV r q];ext
theorem ue:∀(xs ys:bb D) (i:Nat),(kI xs ys)[i]?=(xs[i]?).bind λx=>(ys[i]?).map λy=>.tuple [x,y]
 |[],_,_=>by simp[kI]
 |x::r,[],i=>by cases i<;>simp[kI]
 |x::r,y::q,0=>by simp[kI]
 |x::r,y::q,i+1=>by simp only[kI,UK];exact ue r q i
section
variable{K:Bn}{E:XK}{B O Z:bS}{H0 H Y:Hp}{σ:L2.St}{ρ ρ':aQ}{v:V}
def W3(b:Bool)(O:bS)(K:Bn)(H:Hp)(a:QT)(xs:bb V):Prop:=match b with
 |true=>UN O K H a xs
 |false=>VP O K H a xs
theorem W3.ev(h:W3 b O K H a xs)(e:Ev O H Z Y):W3 b Z K Y a xs:=by
 cases b with
 |true=>exact UN.ev h e
 |false=>exact VP.ev h e
theorem W3.at(h:W3 b O K H a xs):z8 b K H a xs:=by
 cases b with
 |true=>exact(show UN O K H a xs from h).1
 |false=>exact(show VP O K H a xs from h).1.sq
theorem KZ(h:W3 b1 O K H a xs)(hd:Ss O K H xs ds)(g:W3 b2 O K H c ys)(z:Ss O K H ys es):sH K (OV K b1 b2 a c) O H (kI ds es):=by
 intro Z Y e n;have d:=h.ev e;have C:=hd.ev e;have j:=g.ev e;have f:=z.ev e;rw[tV];refine⟨λi hi=>?_,⟨xs,ys,d.at,j.at,?_⟩⟩
 .have r:i<ds.length:=by ext
  have o:i<es.length:=by ext
  obtain⟨x,w,dx⟩:=C.get (QY r);obtain⟨y,u,A⟩:=f.get (QY o);refine⟨⟨xs,ys,x,y,d.at,j.at,w,u⟩,?_⟩;rintro t I ⟨p,G,F,b,rfl,Xk,hy',rfl⟩;have m:=Xk xs d.at;have l:=hy' ys j.at;rw[w]at m;rw[u]at l;cases m;cases l;refine⟨bO b _,.tuple [ds[i],es[i]],?_,.tup ⟨UG.of aE,λq=>a7 q (n p b)⟩ (.cons (dx.ev (Ev.grow (bO b _))) (.cons (A.ev (Ev.grow (bO b _))) .nil))⟩;rw[ue,QY r,QY o];rfl
 .rw[hd.length,z.length];ext
theorem HF(h:DV O K H v d)(q:fq d=cL ds):∃b a xs,v=.ref a/\W3 b O K H a xs/\Ss O K H xs ds:=by
 cases h with
 |tup h e=>cases q;exact⟨QM,_,_,rfl,h,e⟩
 |lst h e=>cases q;exact⟨QP,_,_,rfl,h,e⟩
 |_=>cases q
def zr(fa:FA):FI:=λρ=>(fa ρ).bind λa=>(Res.RK (nu a.2 a.1)).bind λb=>match b.1 with
 |[d,e]=>(Res.RK (fq d)).bind λds=>(Res.RK (fq e)).bind λes=>.ok (kI ds es,b.2)
 |_=>.bad
theorem LK(h:AO K E ta fa):IO K E (Iu K ta) (zr fa):=by
 intro B H0 O σ H ρ I R w;refine h B H0 O σ H ρ _ R (w.bind.imp λa b J vs F e1 A l=>?_);obtain⟨⟨ds,g⟩,q,b⟩:=b.RK;obtain⟨C,e2,R2,o⟩:=pL A l q;dsimp only at b;cases o with
 |nil=>exact b.elim
 |cons n d=>
  cases d with
  |nil=>exact b.elim
  |cons d m=>
   cases m with
   |cons _ _=>exact b.elim
   |nil=>obtain⟨es,j,b⟩:=WR.RK b;obtain⟨fs,i,b⟩:=WR.RK b;obtain⟨u,z,xs,rfl,f,r⟩:=HF n j;obtain⟨t,y,G,rfl,e,p⟩:=HF d i;exact⟨z,y,u,t,rfl,⟨_,f.at⟩,⟨_,e.at⟩,b C _ F (e1.trans e2) R2 (KZ f r e p)⟩
def iK(d e:D):bg RV:=match d,e with
 |.str z,.int i=>if z.length<=1000000 then(kY z.cps.toList i).map λc=>.fz (.str ⟨#[c]⟩)else lD
 |_,_=>lD
theorem Hs:jR K (MQ K) iK:=by
 intro O H x y dx f rv Q n b a e q;unfold iK at e;split at e
 .split at e
  .rename_i z i d
   cases qa:kY z.cps.toList i with
   |none=>rw[qa]at e;cases e
   |some c=>rw[qa]at e;cases e;cases b;cases a;exact .inr (.inr ⟨z,i,c,rfl,rfl,xz d,qa,q.at (.str _)⟩)
  .cases e
 .cases e
end
end L3
namespace L3
open PySem L2
def P0(N C:aQ->Prop)(T:RV->Prop):Res Fl->Prop
 |.ok (.nx ρ)=>N ρ
 |.ok (.ct ρ)=>C ρ
 |.ok (.rt v)=>T v
 |_=>False
structure Go(r:Res Fl)(N C:aQ->Prop)(T:RV->Prop):Prop where
 out:P0 N C T r
section
variable{ρ ρ1 Z ρ3:aQ}{f g:FS}{fe:FE}{pv:PV}{d:D}{rv:RV}{ds:bb D}{N C:aQ->Prop}{T:RV->Prop}
theorem Go.eq(e:r=r')(h:Go r' N C T):Go r N C T:=by rw[e];exact h
theorem Go.imp(h:Go r N C T)(b:∀ρ,N ρ->N' ρ)(e:∀ρ,C ρ->C' ρ)(a:∀v,T v->T' v):Go r N' C' T':=by
 refine⟨?_⟩;have h:=h.out;cases r with
 |bad=>exact h
 |er x=>exact h
 |ok i=>
  cases i with
  |nx r=>exact b _ h
  |ct r=>exact e _ h
  |rt v=>exact a _ h
  |bk r=>exact h
theorem wG(h:Go (f ρ) (λr=>Go (g r) N C T) C T):Go (a8 f g ρ) N C T:=by
 refine⟨?_⟩;have h:=h.out;unfold a8;cases q:f ρ with
 |bad=>rw[q]at h;exact h.elim
 |er x=>rw[q]at h;exact h.elim
 |ok a=>
  rw[q]at h;cases a with
  |nx r=>exact(show Go (g r) N C T from h).out
  |ct r=>exact h
  |rt v=>exact h
  |bk r=>exact h.elim
theorem uz(h:c ρ=.ok (b,ρ1))(a:b=QM->Go (f ρ1) N C T)(e:b=QP->Go (g ρ1) N C T):Go (jb c f g ρ) N C T:=by
 unfold jb;rw[h,ea];cases b with
 |true=>exact a rfl
 |false=>exact e rfl
theorem Ay(b:fe ρ=.ok (pv,ρ1))(a:gt pv ρ1=.ok Z)(h:N Z):Go (cE fe gt ρ) N C T:=.eq (pT b a rfl) ⟨h⟩
theorem j7(a:fe ρ=.ok (pv,ρ1))(h:N ρ1):Go (fQ fe ρ) N C T:=.eq (tI a) ⟨h⟩
theorem ez(b:fe ρ=.ok (pv,ρ1))(a:y9 ρ1 pv=cL rv)(h:T rv):Go (cY fe ρ) N C T:=.eq (sO b a) ⟨h⟩
theorem xT(h:N ρ):Go (c9 ρ) N C T:=⟨h⟩
theorem xQ(I:Nat->aQ->Prop):∀(ds:bb D) (k:Nat) (ρ:aQ),I k ρ->(∀i d ρ,ds[i]?=cL d->I (k+i) ρ->∃ρ1,gt (.fz d) ρ=.ok ρ1/\Go (b ρ1) (I (k+i+1)) (I (k+i+1)) T)->Go (nF gt b ds ρ) (I (k+ds.length)) C T
 |[],k,ρ,h0,_=>⟨h0⟩
 |d::r,k,ρ,h0,hs=>by
  obtain⟨ρ1,o,a⟩:=hs 0 d ρ rfl h0;have a:=a.out;have l:∀j,I (k+1) j->Go (nF gt b r j) (I (k+(r.length+1))) C T:=λj h=>by
   have e:k+(r.length+1)=k+1+r.length:=by ext
   rw[e];refine xQ I r (k+1) j h λi t m hi n=>?_;have e:k+1+i=k+(i+1):=by ext
   rw[e]at n⊢;exact hs (i+1) t m (by simpa using hi) n
  refine⟨?_⟩;show P0 _ _ _ ((gt (.fz d) ρ).bind _);rw[o,ea];cases q:b ρ1 with
  |bad=>rw[q]at a;exact a.elim
  |er x=>rw[q]at a;exact a.elim
  |ok p=>
   rw[q]at a;cases p with
   |nx r=>exact(l _ a).out
   |ct r=>exact(l _ a).out
   |rt v=>exact a
   |bk r=>exact a.elim
theorem Jk(I:Nat->aQ->Prop)(hi:fi ρ=.ok (ds,ρ1))(j:I 0 ρ1)(a:∀i d ρ,ds[i]?=cL d->I i ρ->∃ρ1,gt (.fz d) ρ=.ok ρ1/\Go (b ρ1) (I (i+1)) (I (i+1)) T)(e:∀ρ',I ds.length ρ'->N ρ'):Go (kN fi gt b ρ) N C T:=by have:=xQ (C:=C) I ds 0 ρ1 j (by simpa using a);rw[Xi]at this;exact .eq (vD hi) (this.imp e (λ_ h=>h) λ_ h=>h)
theorem i8(a:ds.map (λd=>cL (.fz d))++QX (n - ds.length) lD=ρ)(h:Go (g ρ) (λ_=>T (.fz .none)) (λ_=>False) T):∃rv,fx n g ds=.ok rv/\T rv:=by
 have h:=h.out;unfold fx;rw[a];cases q:g ρ with
 |bad=>rw[q]at h;exact h.elim
 |er x=>rw[q]at h;exact h.elim
 |ok b=>
  rw[q]at h;cases b with
  |nx r=>exact⟨_,rfl,h⟩
  |ct r=>exact h.elim
  |rt v=>exact⟨_,rfl,h⟩
  |bk r=>exact h.elim
theorem kL(a:ds.map (λd=>cL (.fz d))++QX (n - ds.length) lD=ρ)(h:Go (g ρ) (λ_=>RV.fz .none=v) (λ_=>False) (λr=>r=v)):fx n g ds=.ok v:=by obtain⟨rv,e,b⟩:=i8 (T:=λr=>r=v) a h;rw[e,b]
theorem bv(b:fe ρ=.ok (pv,ρ1))(a:gt pv ρ1=.ok Z)(hn:Z=ρ3)(h:Go (g ρ3) N C T):Go (a8 (cE fe gt) g ρ) N C T:=.eq (vA (pT b a hn)) h
theorem rK(a:fe ρ=.ok (pv,ρ1))(h:Go (g ρ1) N C T):Go (a8 (fQ fe) g ρ) N C T:=.eq (vA (tI a)) h
theorem fK(b:fe ρ=.ok (pv,ρ1))(a:y9 ρ1 pv=cL rv)(h:T rv):Go (a8 (cY fe) g ρ) N C T:=.eq (Dz (sO b a)) ⟨h⟩
theorem cT(h:Go (g ρ) N C T):Go (a8 c9 g ρ) N C T:=.eq rfl h
theorem iB(i:c ρ=.ok (b,ρ1))(a:b=QM->Go (a8 f1 g ρ1) N C T)(h:b=QP->Go (a8 f2 g ρ1) N C T):Go (a8 (jb c f1 f2) g ρ) N C T:=by
 have e:a8 (jb c f1 f2) g ρ=if b=QM then a8 f1 g ρ1 else a8 f2 g ρ1:=by unfold a8 jb;rw[i,ea];cases b<;>rfl
 refine .eq e ?_;cases b with
 |true=>exact a rfl
 |false=>exact h rfl
theorem kQ(I:Nat->aQ->Prop)(hi:fi ρ=.ok (ds,ρ1))(h:I 0 ρ1)(a:∀i d ρ,ds[i]?=cL d->I i ρ->∃ρ1,gt (.fz d) ρ=.ok ρ1/\Go (b ρ1) (I (i+1)) (I (i+1)) T)(e:∀ρ',I ds.length ρ'->Go (g ρ') N C T):Go (a8 (kN fi gt b) g ρ) N C T:=
 wG (Jk I hi h a e)
theorem qK(I:aQ->Prop)(P:Nat->D->Prop):∀(ds:bb D) (k:Nat) (ρ:aQ) (acc:bb D),I ρ->acc.length+ds.length<=1000000->(∀i d,ds[i]?=cL d->∀ρ,I ρ->∃x ρ',jN gt ft fe d ρ=.ok (cL x,ρ')/\I ρ'/\P (k+i) x)->
  ∃xs,cP gt ft fe ds ρ acc=.ok (acc++xs)/\xs.length=ds.length/\∀i x,xs[i]?=cL x->P (k+i) x
 |[],k,ρ,acc,_,_,_=>⟨[],by show Res.ok acc=_;simp,rfl,λi x h=>by simp at h⟩
 |d::r,k,ρ,acc,h0,hl,hs=>by
  obtain⟨x,ρ',n,m,l⟩:=hs 0 d rfl ρ h0;rw[QZ]at hl;obtain⟨xs,q,p,o⟩:=qK I P r (k+1) ρ' (acc++[x]) m (by rw[Q1];simp;ext) λi t hi a j=>by
   have e:k+1+i=k+(i+1):=by ext
   rw[e];exact hs (i+1) t (by simpa using hi) a j
  refine⟨x::xs,?_,by rw[QZ,p,QZ],λi y b=>?_⟩
  .rw[pB n (by ext)];show cP gt ft fe r ρ' (acc++[x])=_;rw[q,Sa];rfl
  .cases i with
   |zero=>cases(show cL x=cL y from b);exact l
   |succ i=>
    have e:k+(i+1)=k+1+i:=by ext
    rw[e];exact o i y (by simpa using b)
theorem tW(I:aQ->Prop)(P:Nat->D->Prop)(e:I ρ)(b:ds.length<=1000000)(a:∀i d,ds[i]?=cL d->∀ρ,I ρ->∃x ρ',jN gt ft fe d ρ=.ok (cL x,ρ')/\I ρ'/\P i x):
  ∃xs,iZ (cP gt ft fe ds ρ [])=.ok xs/\xs.length=ds.length/\∀i x,xs[i]?=cL x->P i x:=by
 obtain⟨xs,l,j,h⟩:=qK I P ds 0 ρ [] e (by simpa using b) (by simpa using a);exact⟨xs,by rw[l];rfl,j,by simpa using h⟩
theorem sW{α:Type}{f:α->D}{Q:Nat->α->Prop}:∀(xs:bb D) (k:Nat),(∀i x,xs[i]?=cL x->∃a,x=f a/\Q (k+i) a)->∃as:bb α,xs=as.map f/\∀i a,as[i]?=cL a->Q (k+i) a
 |[],_,_=>⟨[],rfl,λi a h=>by simp at h⟩
 |x::r,k,h=>by
  obtain⟨a,e,q⟩:=h 0 x rfl;obtain⟨as,e2,l⟩:=sW (f:=f) (Q:=Q) r (k+1) λi y m=>by
   have e:k+1+i=k+(i+1):=by ext
   rw[e];exact h (i+1) y (by simpa using m)
  refine⟨a::as,by rw[e,e2];rfl,λi b j=>?_⟩;cases i with
  |zero=>cases(show cL a=cL b from j);exact q
  |succ i=>
   have e:k+(i+1)=k+1+i:=by ext
   rw[e];exact l i b (by simpa using j)
theorem OB(ha:QO.strOk a=QM)(e:QO.strOk b=QM):br (.str a) (.str b)=cL (.fz (.bool (a==b))):=by unfold br;rw[show i7 (.str a)=QM by unfold i7;rw[show QO.canLay0 (.str a)=QM from ha];rfl,show QO.canLay0 (.str b)=QM from e,SS,ax rfl];rfl
theorem uR(ha:QO.strOk a=QM):br (.str a) (.str a)=cL (.fz (.bool QM)):=by rw[OB ha ha,d7]
theorem kE(ha:QO.strOk a=QM)(e:QO.strOk b=QM)(h:(a==b)=QP):br (.str a) (.str b)=cL (.fz (.bool QP)):=by rw[OB ha e,h]
theorem yr{α:Type}{xs:bb α}{i:Int}{v:α}(a:0<=i)(h:xs[i.toNat]?=cL v):kY xs i=cL v:=Ka a h
theorem Mj(a:0<=i)(h:ds[i.toNat]?=cL d):aC (.list ds) (.int i)=cL (.fz d):=by show(kY ds i).map RV.fz=_;rw[yr a h];rfl
theorem wR(a:0<=n)(h:n<=1000000):gl [.int n]=cL (aB (Rc n.toNat)):=by rw[xU (by unfold jg;ext),uC]
theorem Hi{s:bb Nat}(e:s.Pairwise (·<·))(h:∀k∈s,k<n):s.length<=n:=by
 have:∀(s:bb Nat) (a:Nat),s.Pairwise (·<·)->(∀k∈s,a<=k/\k<n)->s.length<=n - a:=by
  intro s
  induction s with
  |nil=>intro a _ _;exact Rz _
  |cons x r i=>intro a e h;obtain⟨l,j⟩:=Uh.mp e;have m:=h x Q2;have:=i (x+1) j λk b=>⟨l k b,(h k (Q0 _ b)).2⟩;rw[QZ];ext
 exact this s 0 e λk b=>⟨Rz _,h k b⟩
theorem xf(ha:fr ρ=.ok (ps,ρ1))(hd:nu ρ1 ps=cL ([d,e],Z))(b:fq d=cL es)(a:fq e=cL fs):zr fr ρ=.ok (kI es fs,Z):=by unfold zr;rw[ha,ea,hd,aL,ea];dsimp only;rw[b,aL,ea,a,aL,ea]
theorem B2{f g:D->D->bg RV}(ha:fa ρ=.ok (pa,ρ))(j:fb ρ=.ok (pb,ρ))(i:fc ρ=.ok (pc,ρ))(b:qB ρ (bu pa)=cL dx)(a:qB ρ (bu pb)=cL dy)(hz:qB ρ pc=cL dz)(h:f dx dy=cL (.fz (.bool b1)))(e:b1=QM->g dy dz=cL (.fz (.bool b2))):jO f g fa fb fc ρ=.ok (.fz (.bool (b1&&b2)),ρ):=by
 unfold jO;rw[ha,ea,j,ea];dsimp only;rw[b,aL,ea,a,aL,ea,h,aL,ea];cases b1 with
 |false=>rfl
 |true=>dsimp only;rw[i,ea];dsimp only;rw[a,aL,ea,hz,aL,ea,e rfl,aL,ea];rfl
end
end L3
namespace L3
open PySem PySem.Spec PyProof.Rows L2 PySem.Builtin PySem.Builtin.Str
section
variable{K:Bn}{E:XK}{B O O':bS}{H0 H H':Hp}{σ:L2.St}{ρ ρ':aQ}{v:V}
def Qr(K:Bn)(r:V->bb V->Hp->VK->Prop)(f:Str->bb D->bg RV):Prop:=∀(O:bS) (H:Hp) (z:Str) (xs:bb V) (ds:bb D) (rv:RV) (Q:VK),l8 O H->Paired (DX O K H) xs ds->f z ds=cL rv->Fin O K H Q rv->r (.str z) xs H Q
end
end L3
namespace L2
open PySem PySem.Spec PyProof.Rows
section
variable{κ:Type}[DecidableEq κ]
def jy(kvs:bb (κ×V))(k:κ):bg V:=(kvs.find? λa=>decide (a.1=k)).map (·.2)
def iT(kvs:bb (κ×V))(k:κ)(v:V):bb (κ×V):=
 if(kvs.any λa=>decide (a.1=k))=QM then kvs.map (λa=>if a.1=k then(a.1,v)else a)else kvs++[(k,v)]
def lM(kvs:bb (κ×V))(k:κ):bb (κ×V):=kvs.filter λa=>decide (a.1≠k)
theorem pW{k:κ}(e:p.1=k):jy (p::r) k=cL p.2:=by simp[jy,Sy,e]
theorem pI{k:κ}(e:¬p.1=k):jy (p::r) k=jy r k:=by simp[jy,Sy,e]
theorem vf(k:κ):∀kvs:bb (κ×V),(kvs.any λkv=>decide (kv.1=k))=(jy kvs k).isSome
 |[]=>rfl
 |p::r=>by
  rw[Tt];by_cases e:p.1=k
  .simp only[pW e,a4 e,VF,Xv]
  .rw[pI e,a5 e,Uz];exact vf k r
theorem jA(kvs:bb (κ×V))(k:κ)(v:V):(iT kvs k v).length<=kvs.length+1:=by
 unfold iT;split
 .rw[QQ];ext
 .rw[Q1,QZ,Sz];ext
theorem U3.Vx(r:U3 o u):o.isSome=u.isSome:=by
 cases o with
 |none=>cases u with
  |none=>rfl
  |some _=>exact(show False from r).elim
 |some _=>cases u with
  |none=>exact(show False from r).elim
  |some _=>rfl
theorem KV.val{kvs:bb (κ×V)}{vs:bb (κ×QN)}(r:KV kvs vs)(k:κ):U3 (jy kvs k) (valueAt vs k):=by
 unfold KV at r
 induction r with
 |nil=>exact True.intro
 | @cons p q ps qs h t ih=>
  obtain⟨d,f⟩:=h;by_cases e:p.1=k
  .have a:q.1=k:=d.symm.trans e
   have b:valueAt (q::qs) k=cL q.2:=by simp[valueAt,Sy,a]
   rw[pW e,b];exact f
  .have a:¬q.1=k:=λz=>e (d.trans z)
   have b:valueAt (q::qs) k=valueAt qs k:=by simp[valueAt,Sy,a]
   rw[pI e,b];exact ih
theorem KV.any(r:KV kvs vs)(k:κ):(kvs.any λkv=>decide (kv.1=k))=vs.any λkv=>decide (kv.1=k):=by
 unfold KV at r
 induction r with
 |nil=>rfl
 |cons h t a=>rw[Tt,Tt,a,h.1]
theorem KV.Z6(r:KV kvs vs)(k:κ)(b:RelV y u):
  KV (kvs.map λkv=>if kv.1=k then(kv.1,y)else kv) (vs.map λkv=>if kv.1=k then(kv.1,u)else kv):=by
 unfold KV at r⊢
 induction r with
 |nil=>exact .nil
 | @cons p q ps qs h t ih=>
  rw[Q7,Q7];refine .cons ?_ ih;obtain⟨a,d⟩:=h;by_cases e:p.1=k
  .rw[ax e,ax (a.symm.trans e)];exact⟨a,b⟩
  .rw[a3 e,a3 (λz=>e (a.trans z))];exact⟨a,d⟩
theorem KV.put(r:KV kvs vs)(k:κ)(a:RelV y u):KV (iT kvs k y) (stored vs k u):=by
 unfold iT stored;rw[r.any k];by_cases e:(vs.any λb=>decide (b.1=k))=QM
 .rw[ax e,ax e];exact r.Z6 k a
 .rw[a3 e,a3 e];exact Paired.snoc r ⟨rfl,a⟩
theorem KV.drop(r:KV kvs vs)(k:κ):KV (lM kvs k) (without vs k):=by
 unfold KV at r⊢;unfold lM without
 induction r with
 |nil=>exact .nil
 | @cons p q ps qs h t ih=>
  obtain⟨d,f⟩:=h;rw[T4,T4];by_cases e:p.1=k
  .have a:¬decide (p.1≠k)=QM:=by simp[e]
   have b:¬decide (q.1≠k)=QM:=by simp[d.symm.trans e]
   rw[a3 a,a3 b];exact ih
  .have g:¬q.1=k:=λz=>e (d.trans z)
   have a:decide (p.1≠k)=QM:=by simp[e]
   have b:decide (q.1≠k)=QM:=by simp[g]
   rw[ax a,ax b];exact .cons ⟨d,f⟩ ih
theorem KV.keys{vs:bb (κ×QN)}(r:KV kvs vs):kvs.map (·.1)=vs.map (·.1):=by
 unfold KV at r
 induction r with
 |nil=>rfl
 |cons h t a=>rw[Q7,Q7,a,h.1]
theorem KV.length(r:KV kvs vs):kvs.length=vs.length:=Paired.length r
theorem Dj(kvs:bb (κ×V))(k:κ):(lM kvs k).length<=kvs.length:=U5 _ _
end
theorem n6(r:RelV (kV k) u):(bM P w).is k u=QM:=by
 cases k with
 |inl i=>obtain⟨t,e⟩:=(show∃t,u=QN.int i t from r);subst e;exact uW P w i t
 |inr x=>obtain⟨t,e⟩:=(show∃t,u=QN.str x t from r);subst e;exact tT P w x t
theorem qZ:∀{ks:bb bK} {us:bb QN},Vals (ks.map kV) us->ItemsAre (bM P w) ks us
 |[],_,r=>by rw[S7]at r;cases r;exact .nil
 |k::ks,_,r=>by
  rw[Q7]at r;cases r with
  |cons h t=>exact .cons (n6 h) (qZ t)
abbrev KT(H:Hp):bb (bb bK×V)->bb (bb bK×QT×QN)->Prop:=Paired λp q=>p.1=q.1/\H q.2.1=cL (.tup (p.1.map kV))/\RelV p.2 q.2.2
theorem KT.val(r:KT H kvs xs)(k:bb bK):U3 (jy kvs k) ((atKey xs k).map (·.2)):=by
 induction r with
 |nil=>exact True.intro
 | @cons p q ps qs h t ih=>
  obtain⟨d,_,f⟩:=h;by_cases e:p.1=k
  .have a:=d.symm.trans e
   have b:atKey (q::qs) k=cL q.2:=by simp[atKey,Sy,a]
   rw[pW e,b];exact f
  .have a:¬q.1=k:=λz=>e (d.trans z)
   have b:atKey (q::qs) k=atKey qs k:=by simp[atKey,Sy,a]
   rw[pI e,b];exact ih
theorem KT.Z6(r:KT H kvs xs)(k:bb bK)(d:RelV y u):
  KT H (kvs.map λkv=>if kv.1=k then(kv.1,y)else kv) (xs.map (putAt k u)):=by
 induction r with
 |nil=>exact .nil
 | @cons p q ps qs h t ih=>
  rw[Q7,Q7];refine .cons ?_ ih;obtain⟨a,b,f⟩:=h;unfold putAt;by_cases e:p.1=k
  .rw[ax e,ax (a.symm.trans e)];exact⟨a,b,d⟩
  .rw[a3 e,a3 (λz=>e (a.trans z))];exact⟨a,b,f⟩
theorem KT.put(r:KT H kvs xs)(k:bb bK)(f:H b=cL (.tup (k.map kV)))(a:RelV y u):
  KT H (iT kvs k y) (storedH xs k b u):=by
 have e:(kvs.any λd=>decide (d.1=k))=(atKey xs k).isSome:=by rw[vf,(r.val k).Vx,XI]
 unfold iT storedH;rw[e];by_cases q:(atKey xs k).isSome=QM
 .rw[ax q,ax q];exact r.Z6 k a
 .rw[a3 q,a3 q];exact Paired.snoc r ⟨rfl,f,a⟩
theorem KT.keeps(r:KT H kvs xs)(a:∀b ys,H b=cL (.tup ys)->H' b=cL (.tup ys)):KT H' kvs xs:=
 Paired.TU r λ_ _ z=>⟨z.1,a _ _ z.2.1,z.2.2⟩
section
variable{P:Rb}{w:Rr}{H:Hp}{h:Heap}{a:QT}
theorem HH(ok:Vb P w H h)(e:Rd H a u):ObjOk P w H h a u:=e.ok ok
theorem uf(ok:Vb P w H h)(e:Rd H a (.dK kvs)):kvs.length<=Q3/\(a==S4)=QP/\∃vs,KV kvs vs/\h.DictOf (bM P w) a vs:=
 show ObjOk P w H h a (.dK kvs)from HH ok e
theorem qQ(ok:Vb P w H h)(e:H a=cL (.dK kvs)):kvs.length<=Q3/\(a==S4)=QP/\∃vs,KV kvs vs/\h.DictOf (bM P w) a vs:=uf ok (.inl e)
theorem sS{ks:bb bK}(ok:Vb P w H h)(e:H a=cL (.tup (ks.map kV))):(tupleKind (bM P w)).is h ks a:=by obtain⟨_,g,r,o,f,⟨d,n,b⟩,_⟩:=(show ObjOk P w H h a (.tup (ks.map kV))from ok a _ e);exact⟨o,g.toArray,n,f,d,b,by simpa using qZ r⟩
theorem uq(ok:Vb P w H h)(e:Rd H a (.dT kvs)):kvs.length<=Q3/\(a==S4)=QP/\
  ∃xs,KT H kvs xs/\h.DictOfH (tupleKind (bM P w)) a xs:=by
 obtain⟨z,y,xs,r,o,es,n,j,i,g,f,d⟩:=(show ObjOk P w H h a (.dT kvs)from HH ok e);refine⟨z,y,xs,r,o,es,n,j,i,g,f,λx b=>?_,d⟩;have all:∀{l:bb (bb bK×V)} {m:bb (bb bK×QT×QN)},KT H l m->∀x∈m,(tupleKind (bM P w)).is h x.1 x.2.1:=by
  intro l m q
  induction q with
  |nil=>intro x b;exact nomatch b
  | @cons p q ps qs hq t ih=>
   intro x b;rcases Rm.mp b with e|b
   .subst e;exact sS ok (by rw[<-hq.1];exact hq.2.1)
   .exact ih x b
 exact all r x b
theorem Nm(ok:Vb P w H h)(e:H a=cL (.dT kvs)):kvs.length<=Q3/\(a==S4)=QP/\
  ∃xs,KT H kvs xs/\h.DictOfH (tupleKind (bM P w)) a xs:=uq ok (.inl e)
end
def Wv(H:Hp)(a:QT)(y:V)(r:bg V):Prop:=
 (∃kvs k,Rd H a (.dK kvs)/\y=kV k/\r=jy kvs k)\/∃kvs k b,Rd H a (.dT kvs)/\y=.ref b/\H b=cL (.tup (k.map kV))/\r=jy kvs k
def Yq(H:Hp)(a:QT)(y v:V)(d:Hp):Prop:=
 (∃kvs k,H a=cL (.dK kvs)/\y=kV k/\kvs.length<Q3/\d=bf H a (.dK (iT kvs k v)))\/
 ∃kvs k b,H a=cL (.dT kvs)/\y=.ref b/\H b=cL (.tup (k.map kV))/\kvs.length<Q3/\d=bf H a (.dT (iT kvs k v))
theorem Wv.k{k:bK}(e:H a=cL (.dK kvs)):Wv H a (kV k) (jy kvs k):=.inl ⟨kvs,k,.inl e,rfl,rfl⟩
theorem Yq.k{k:bK}(e:H a=cL (.dK kvs))(b:kvs.length<Q3):Yq H a (kV k) v (bf H a (.dK (iT kvs k v))):=.inl ⟨kvs,k,e,rfl,b,rfl⟩
section
variable{X:Cx}{Z:bb (QT×Obj)}{Y:St}{H:Hp}{s:QS}{a:QT}{y v:V}{u r:QN}{o:bg V}{A:Rt}{E:QN->QS->Prop}
theorem Inv.big(I:Inv X Z Y H s):S4<s.heap.objs.size:=by have h:=(I.mod.glob.keeps I.bk).lt;exact TR (by decide) h
theorem zG{Q:QN->QS->Prop}(n:A.units+1<cLine)(I:Inv X Z Y H s)(g:Wv H a y (cL v))(m:RelV y u)(h:∀w' s',Inv X Z Y H s'->RelV v w'->Q w' s'):
  wpAny (model X.prog X.w) A (getItem (.ref a) u) Q E s:=by
 rcases g with⟨kvs,k,e,i,l⟩|⟨kvs,k,b,e,i,B,l⟩
 .subst i;obtain⟨z,t,vs,d,dd⟩:=uf I.Sk e;obtain⟨w',f,j⟩:=U3.some_of (v:=v) (o:=valueAt vs k) (by rw[l];exact d.val k);exact wpAny_getItem_of (n6 m) dd.mapOf f (h w' _ (I.tok _) j)
 .subst i;cases(show u=QN.ref b from m);obtain⟨z,t,xs,d,dd⟩:=uq I.Sk e;obtain⟨w',f,j⟩:=U3.some_of (v:=v) (o:=(atKey xs k).map (·.2)) (by rw[l];exact d.val k);obtain⟨p,q,C⟩:=WK.mp f;refine wpAny_getItem_heap (VZ n) (sS I.Sk B) dd q ?_;rw[C];exact h w' _ (I.tok _) j
theorem Pe{Q:QN->QS->Prop}(m:A.units+1<cLine)(I:Inv X Z Y H s)(g:Wv H a y o)(j:RelV y u)(h:∀s',Inv X Z Y H s'->Q (.bool o.isSome) s'):
  wpAny (model X.prog X.w) A (Si .In u (.ref a)) Q E s:=by
 rcases g with⟨kvs,k,e,i,l⟩|⟨kvs,k,b,e,i,n,l⟩
 .subst i;obtain⟨z,f,vs,d,dd⟩:=uf I.Sk e;refine wpAny_in_of (n6 j) f dd.mapOf ?_;rw[<-(d.val k).Vx,<-l];exact h _ (I.tok _)
 .subst i;cases(show u=QN.ref b from j);obtain⟨z,f,xs,d,dd⟩:=uq I.Sk e;refine wpAny_in_heap (VZ m) (sS I.Sk n) f dd ?_;have q:=(d.val k).Vx;rw[XI]at q;rw[<-q,<-l];exact h _ (I.tok _)
theorem nU{h':Heap}{t':Nat}{d:HO}(I:Inv X Z Y H s)(f:Oj (H a))(g:Heap.SameBut a s.heap h')(h:∃q,h'.get? a=cL q)(new:ObjOk X.prog X.w (bf H a d) h' a d):
  Inv X Z Y (bf H a d) {s with heap:=h',toks:=t'}:=
 I.write (x:=a) (e:=a) f (.inl rfl) (λb q i z=>(g.2 b i).trans z) h new
theorem rY(z:kvs.length<=Q3)(hd:(a==S4)=QP)(b:KV kvs vs)(dd:h'.DictOf (bM P w) a vs):
  ObjOk P w H' h' a (.dK kvs):=⟨z,hd,vs,b,dd⟩
theorem zT{K:Hp}{Q:Unit->QS->Prop}(L:A.units+1<cLine)(I:Inv X Z Y H s)(g:Yq H a y v K)(C:RelV y u)(rv:RelV v r)(h:∀s',Inv X Z Y K s'->Q () s'):
  wpAny (model X.prog X.w) A (setItem (.ref a) u r) Q E s:=by
 rcases g with⟨kvs,k,e,t,l,B⟩|⟨kvs,k,b,e,t,J,l,B⟩
 .subst t B
  obtain⟨z,p,vs,d,dd⟩:=qQ I.Sk e;have j:vs.length<=Q3:=by rw[<-d.length];exact z
  have n:(iT kvs k v).length<=Q3:=by have:=jA kvs k v;ext
  refine wpAny_setItem_pairs (hsz:=j) (n6 C) dd λF i m=>h _ ?_;have M:∃q,F.get? a=cL q:=let⟨q,_,_,f,_⟩:=i;⟨q,f⟩
  exact nU I (by rw[e];exact True.intro) m M (rY n p (d.put k rv) i)
 .subst t B
  cases(show u=QN.ref b from C);obtain⟨z,p,xs,d,dd⟩:=Nm I.Sk e;have j:xs.length<=Q3:=by rw[<-Paired.length d];exact z
  have n:(iT kvs k v).length<=Q3:=by have:=jA kvs k v;ext
  refine wpAny_setItem_heap (hsz:=j) (VZ L) (sS I.Sk J) dd λF i m=>h _ ?_;obtain⟨q,es,S,f,R,P,O,_,N⟩:=i;refine nU I (by rw[e];exact True.intro) m ⟨q,f⟩ ⟨n,p,_,(d.put k J rv).keeps λc T G=>?_,q,es,S,f,R,P,O,N⟩;rw[aJ (Nu G e (λz=>nomatch z))];exact G
end
section
variable{X:Cx}{Z:bb (QT×Obj)}{σ:St}{H:Hp}{s:QS}{a:QT}{kvs:bb (bK×V)}{k:bK}{u:QN}{A:Rt}{E:QN->QS->Prop}
theorem Nd{v:V}{b:bb QN}{Q:QN->QS->Prop}(I:Inv X Z σ H s)(e:H a=cL (.dK kvs))(f:RelV (kV k) u)(l:jy kvs k=cL v)(hm:b=[]\/∃x,b=[x])
  (h:∀w' s',Inv X Z σ (bf H a (.dK (lM kvs k))) s'->RelV v w'->Q w' s'):wpAny (model X.prog X.w) A (call (.builtin "dict.pop") (.ref a::u::b)) Q E s:=by
 obtain⟨z,r,vs,d,dd⟩:=qQ I.Sk e;obtain⟨w',j,B⟩:=U3.some_of (v:=v) (o:=valueAt vs k) (by rw[<-l];exact d.val k);have n:(keyPart u).isSome=QM:=by
  cases k with
  |inl i=>obtain⟨t,q⟩:=(show∃t,u=QN.int i t from f);subst q;rfl
  |inr x=>obtain⟨t,q⟩:=(show∃t,u=QN.str x t from f);subst q;rfl
 have ha:argsOk "dict.pop" ⟨.ref a::u::b,[]⟩:=by
  rcases hm with q|⟨x,q⟩
  .subst q;exact PySem.F.args_dict_pop_2 _ _
  .subst q;exact PySem.F.args_dict_pop_3 _ _ _
 refine call_meetsIn WL dd.typeIs PySem.F.entry_dict_pop ha (meets_dict_pop_there (bM X.prog X.w) a (n6 f) b hm n)
  ⟨vs,w',dd,by rw[<-d.length];exact z,j,λy g m=>h w' _ ?_ B⟩
 have p:∃q,y.get? a=cL q:=let⟨q,_,_,hq,_⟩:=g;⟨q,hq⟩
 exact nU I (by rw[e];exact True.intro) m p (rY (Rp (Dj kvs k) z) r (d.drop k) g)
end
def Nq(i:Q9):Prop:=∀ov iv,subscripted i QP ov iv=operate [ov,iv] (getItem ov iv)
theorem F9{T id:String}
  (l:typeLookup (.type T) "__getitem__"=pure (cL (.builtin id))) (j:Nq slice)
  (h:wpAny (model prog w) A (eval value env) (λo s₁=>wpAny (model prog w) A (eval slice env) (λi s₂=>s₂.TypeIs o T/\wpAny (model prog w) A (getItem o i) Q E s₂) E s₁) E s):
  wpAny (model prog w) A (eval (.Subscript value slice pos) env) Q E s:=by
 refine Subscript_ (wpAny_mono h (λo s₁ f=>wpAny_mono f (λi s₂ a=>?_) λ_ _ x=>x) λ_ _ x=>x);obtain⟨g,a⟩:=a;unfold subscriptTail;refine Ld ?_;rw[getitemInPython_of_ne g.not_modules];refine Ld (abK g l ?_);have d:wpAny (model prog w) A (subscripted slice QP o i) (λr b=>wpAny (model prog w) A (letTemporaryGo value o r>>=λ_=>pure r) Q E b) E s₂:=by rw[j o i];exact wpAny_operating (wpAny_mono a (λr b e=>Ld (wpAny_letTemporaryGo (QW e))) λ_ _ x=>x)
 first
  |exact QW (Ld d)
  |exact Ld (QW (Ld d))
  |exact Ld d
theorem uY(I:Inv X pins σ H s)(g:Wv H a y o):s.TypeIs (.ref a) "dict":=by
 rcases g with⟨kvs,k,e,_,_⟩|⟨kvs,k,b,e,_,_,_⟩
 .obtain⟨_,_,vs,_,dd⟩:=uf I.Sk e;exact dd.typeIs
 .obtain⟨_,_,xs,_,dd⟩:=uq I.Sk e;exact dd.typeIs
def HK(e ty:TE):TE:=λb H Q=>e b H λx f=>ty b f λy d=>∃a v,x=.ref a/\Wv d a y (cL v)/\Q v d
def Oe(ty e:TE):TE:=λb H Q=>ty b H λy f=>e b f λx d=>∃a o,x=.ref a/\Wv d a y o/\Q (.bl o.isSome) d
def IK(e ty d:TE):TS:=λD b H=>d b H λv h=>e b h λx g=>ty b g λy f=>∃a H4,x=.ref a/\Yq f a y v H4/\D.nx b H4
section
variable{X:Cx}{o i e Z:Q9}{pos Y acO:Pos}{T U tv:TE}
theorem GD(q:X.A.units+1<cLine)(t:PE X o T)(hi:PE X i U)(r:Nq i):PE X (.Subscript o i pos) (HK T U):=by intro b s d H Q I h;refine F9 PySem.F.slot_dict_getitem.lookup r (cF (t b s d H _ I h) λu j ⟨x,G,C,m,p⟩=>cF (hi b j d G _ C p) λM L ⟨y,E,f,l,a,v,w,g,n⟩=>?_);subst w;obtain rfl:=m;exact⟨uY f g,zG q f g l λJ K B z=>⟨v,E,B,z,n⟩⟩
theorem Ag(q:X.A.units+1<cLine)(hi:PE X i U)(r:PE X o T):PC X .In i o (Oe U T):=by intro b s d H Q I h;refine cF (hi b s d H _ I h) λG f ⟨y,C,z,j,n⟩=>cF (r b f d C _ z n) λu F ⟨x,B,w,l,a,p,t,g,m⟩=>?_;subst t;obtain rfl:=l;exact Pe q w g j λE v=>⟨.bl p.isSome,B,v,rfl,m⟩
theorem EW(w:X.A.units+1<cLine)(B:PE X o T)(hi:PE X i U)(t:PE X Z tv)(z:TV Z (cL (.Subscript o i Y)) pos.line X.env=pure QP):
  PS X (.Assign [.Subscript o i Y] Z pos) (IK T U tv):=by
 intro b s d H D I h;refine wpAny_Assign_Subscript (cF (t b s d H _ I h) λr j ⟨v,M,J,rv,q⟩=>cF (B b j d M _ J q) λu f ⟨x,L,G,m,p⟩=>cF (hi b f d L _ G p) λP O ⟨y,Q,F,l,a,K,C,g,n⟩=>?_) z;subst C;obtain rfl:=m;exact zT w F g l rv λN E=>⟨d,K,E,n⟩
end
theorem tU(h:Heap)(a:S4<h.objs.size):ObjOk P w H (h.push {cls:=.type "dict",data:=.dict #[]}) h.objs.size (.dK []):=
 ⟨Rz _,beq_eq_false_iff_ne.mpr (dt (Ri a)),[],.nil,Heap.DictOf.new h⟩
def Da:TE:=λ_ H Q=>∀p,H p=lD->Q (.ref p) (bf H p (.dK []))
section
variable{X:Cx}{pos:Pos}
theorem Az:PE X (.Dict [] [] pos) Da:=λa s b H Q I h=>
 wpAny_Dict_empty ⟨.ref s.heap.objs.size,_,I.laid (λ_ _ q=>b3 _ q) (QV _) (tU s.heap I.big),rfl,h _ (I.Sk.fresh (QV _))⟩
end
def sI:bb (TE×TE)->St->Hp->(bb (V×V)->Hp->Prop)->Prop
 |[],_,H,Q=>Q [] H
 |(tk,tv)::r,σ,H,Q=>tk σ H λx d=>tv σ d λy b=>sI r σ b λps a=>Q ((x,y)::ps) a
abbrev VV:bb (V×V)->bb (QN×QN)->Prop:=Paired λp q=>RelV p.1 q.1/\RelV p.2 q.2
def ML(X:Cx)(pos:Pos)(keys:bb (bg Q9))(a:bb Q9)(f:bb (TE×TE)):Prop:=
 ∀(b:bb (QT×Obj)) (s:QS) (d:St) (H:Hp) (Q:bb (V×V)->Hp->Prop),Inv X b d H s->sI f d H Q->
  wpAny (model X.prog X.w) X.A (evalPairs (pairTrees keys a X.env pos)) (λvs e=>∃ps H',Inv X b d H' e/\VV ps vs/\Q ps H') X.xe s
theorem FV:ML X pos [] [] []:=λa s b H Q I h=>pairTrees_nil_walk ⟨[],H,I,.nil,h⟩
theorem CJ(p:PE X k tk)(n:PE X v tv)(o:ML X pos ks vs XR):
  ML X pos (cL k::ks) (v::vs) ((tk,tv)::XR):=λa s b H Q I h=>
 pairTrees_cons_walk (cF (p a s b H _ I h) λu f ⟨x,A,t,i,m⟩=>cF (n a f b A _ t m) λB e ⟨y,z,r,g,l⟩=>
  cF (o a e b z _ r l) λws C ⟨ps,w,q,d,j⟩=>⟨(x,y)::ps,w,q,.cons ⟨i,g⟩ d,j⟩)
def iO(kvs a:bb (bK×V)):bb (bK×V):=a.foldl (λb d=>iT b d.1 d.2) kvs
theorem KV.merge:∀{a:bb (bK×V)} {b:bb (bK×QN)} {kvs:bb (bK×V)} {vs:bb (bK×QN)},KV a b->KV kvs vs->KV (iO kvs a) (merged vs b):=by
 intro a b kvs vs r;unfold KV at r
 induction r generalizing kvs vs with
 |nil=>intro q;exact q
 | @cons p q ps qs h t ih=>
  intro d;have e:KV (iT kvs p.1 p.2) (stored vs q.1 q.2):=by have:=d.put p.1 h.2;rw[<-h.1];exact this
  exact ih e
theorem iL:∀(a kvs:bb (bK×V)),(iO kvs a).length<=kvs.length+a.length
 |[],kvs=>by show kvs.length<=kvs.length+0;ext
 |p::r,kvs=>by have d:=iL r (iT kvs p.1 p.2);have b:=jA kvs p.1 p.2;show(iO (iT kvs p.1 p.2) r).length<=_;rw[QZ];ext
theorem ox:∀{kvs:bb (bK×V)} {ws:bb (QN×QN)},VV (kvs.map λkv=>(kV kv.1,kv.2)) ws->∃rs,Carries (bM P w) ws rs/\KV kvs rs
 |[],_,r=>by rw[S7]at r;cases r;exact⟨[],True.intro,.nil⟩
 |p::kvs,_,r=>by
  rw[Q7]at r;cases r with
  | @cons a b as bs h t=>obtain⟨rs,c,q⟩:=ox t;obtain⟨e,d⟩:=b;exact⟨(p.1,d)::rs,⟨n6 h.1,rfl,c⟩,.cons ⟨rfl,h.2⟩ q⟩
def II(e:bb (TE×TE)):TE:=λd H Q=>∀p,H p=lD->sI e d (bf H p (.dK [])) λps b=>b p=cL (.dK [])/\∃kvs:bb (bK×V),ps=kvs.map (λa=>(kV a.1,a.2))/\kvs.length<=15/\Q (.ref p) (bf b p (.dK (iO [] kvs)))
theorem Gs(h:ML X pos keys values XR)(E:keys.all (·.isSome)=QM)(t:keys.length=values.length)(A:keys≠[])
  (d:keys.length<=15):PE X (.Dict keys values pos) (II XR):=by
 intro a s i H Q I q;have hn:=I.Sk.fresh (QV s.heap.objs.size);have F:=I.laid (t':=s.toks) (λ_ _ q=>b3 _ q) (QV _) (tU s.heap I.big);refine wpAny_Dict_walk (knd:=bM X.prog X.w) E t A d (cF (h a _ i _ _ F (q _ hn)) λws G ⟨ps,K,g,b,e,kvs,C,J,o⟩=>?_);subst C;obtain⟨l,c,m⟩:=ox b;obtain⟨z,v,j,n,dd⟩:=qQ g.Sk e;cases n;refine⟨l,c,dd,λB f r=>⟨.ref s.heap.objs.size,_,?_,rfl,o⟩⟩;have p:(iO [] kvs).length<=Q3:=by have y:=iL kvs [];rw[Sz]at y;rw[T9];ext
 have u:∃q,B.get? s.heap.objs.size=cL q:=let⟨q,_,_,hq,_⟩:=f;⟨q,hq⟩
 exact nU g (by rw[e];exact True.intro) r u (rY p v (m.merge .nil) f)
structure M1(X:Cx)(o:Q9)(m:Str)(apos:Pos)(e:Q9)(Ud:Pos):Prop where
 base:attributeBase o m X.env (eval o X.env)=eval o X.env
 few:((backTo Ud (Rg [e] X.env)).all (λx=> !x.1)&&(backToKw Ud (keywordEach [] X.env)).all (λx=>x.1.isSome)
  &&decide (([e]:bb Q9).length+([]:bb UO).length+(if([]:bb UO).isEmpty then 0 else 1)<30))=QM
 line:(apos.endLine==Ud.line)=QM
 trees:backTo Ud (Rg [e] X.env)=[(QP,eval e X.env)]
structure M2(X:Cx)(o:Q9)(m:Str)(apos:Pos)(e f:Q9)(Ud:Pos):Prop where
 base:attributeBase o m X.env (eval o X.env)=eval o X.env
 few:((backTo Ud (Rg [e,f] X.env)).all (λx=> !x.1)&&(backToKw Ud (keywordEach [] X.env)).all (λx=>x.1.isSome)
  &&decide (([e,f]:bb Q9).length+([]:bb UO).length+(if([]:bb UO).isEmpty then 0 else 1)<30))=QM
 line:(apos.endLine==Ud.line)=QM
 trees:backTo Ud (Rg [e,f] X.env)=[(QP,eval e X.env),(QP,eval f X.env)]
def Pv(H:Hp)(a:QT):Prop:=(∃kvs,Rd H a (.dK kvs))\/∃kvs,Rd H a (.dT kvs)
theorem JY(I:Inv X pins σ H s)(d:Pv H a):
  s.TypeIs (.ref a) "dict"/\(∀b,QN.ref a=.ref b->∃ob,s.heap.get? b=cL ob/\ob.dict=lD)/\(a==S4)=QP:=by
 rcases d with⟨kvs,e⟩|⟨kvs,e⟩
 .obtain⟨_,f,vs,_,dd⟩:=uf I.Sk e;refine⟨dd.typeIs,λb q=>?_,f⟩;cases q;obtain⟨ob,_,_,h,g,_⟩:=dd;exact⟨ob,h,g.2.1⟩
 .obtain⟨_,f,xs,_,dd⟩:=uq I.Sk e;refine⟨dd.typeIs,λb q=>?_,f⟩;cases q;obtain⟨ob,_,_,h,g,_⟩:=dd;exact⟨ob,h,g.2.1⟩
def Ch(f ty:TE):TE:=λb H Q=>f b H λx e=>∃a,x=.ref a/\Pv e a/\ty b e λy d=>∃kvs k v,d a=cL (.dK kvs)/\y=kV k/\jy kvs k=cL v/\Q v (bf d a (.dK (lM kvs k)))
section
variable{X:Cx}{o e f:Q9}{Z Ud:Pos}{td ty tx:TE}
theorem B5(z:PE X o td)(A:PE X e ty)(m:M1 X o "pop" Z e Ud):PE X (.Call (.Attribute o "pop" Z) [e] [] Ud) (Ch td ty):=by intro b s g H Q I h;refine wpAny_Call_method m.base m.few m.line Ur WL PySem.F.type_dict_pop (cF (z b s g H _ I h) λu p ⟨x,L,i,r,a,C,d,w⟩=>?_);subst C;obtain rfl:=r;obtain⟨n,j,_⟩:=JY i d;refine⟨n,j,?_⟩;rw[m.trees];refine Calls.callWith_builtin rfl (Calls.evalArgs_plain (Calls.spliced_cons (cF (A b p g L _ i w) λP O ⟨y,R,K,q,kvs,k,v,E,B,l,t⟩=>Calls.spliced_nil ?_)));subst B;exact Nd K E q l (.inl rfl) λM N J G=>⟨v,_,J,G,t⟩
end
end L2
namespace L4
open PySem PySem.Spec PyProof.Rows L2 L3
def Nh(h:Heap)(e:QT)(c:QN)(dx:bg QT)(a:QN)(hd:bg QT):Prop:=
 ∃ob fs,h.get? e=cL ob/\ob.cls=c/\ob.dict=dx/\ob.data=.fields fs/\fs[0]?=cL a/\
  match hd with
  |none=>fs[1]?=cL .none
  |some T=>fs[1]?=cL (.ref T)/\T≠e/\∃oT ts,h.get? T=cL oT/\oT.data=.fields ts/\ts[3]?=cL .none
structure Lft(l:bb Env)(e:QT)(hd:bg QT)(h h':Heap):Prop where
 keep:∀b o,h.get? b=cL o->b≠e->hd≠cL b->b∉vT l->h'.get? b=cL o
 slot:∀b o,h.get? b=cL o->b≠e->hd≠cL b->∃sl,h'.get? b=cL {o with slots:=sl}
 here:∀b o,h.get? b=cL o->∃o',h'.get? b=cL o'
section
variable{M:Model}{A:Rt}{E:QN->QS->Prop}{s:QS}
theorem pO
  (I:A.frames=cL (env::outer)) (B:s.heap.FunFrames base (env::outer)) (H:env.frame=cL L) (C:s.heap.get? e=cL ob) (p:ob.data=.fields fs) (m:1<fs.size) (J:fs[0]?=cL a0)
  (k:∀h' T,s.heap.objs.size<=T->Nh h' e ob.cls ob.dict a0 (cL T)->Lft (env::outer) e lD s.heap h'->Q () {s with heap:=h'}):
  wpAny M A (frameOf env>>=λfr=>entryPlaceOf L nx>>=λpl=>EntryCells.newEntry hv fr .none (rawInt L) .none pl>>=λb=>setField (.ref e) 1 b) (λ_ s'=>wpAny M A (setFlight (.ref e) lD) Q E s') E s:=by
 have j:e∉(env::outer).filterMap (·.frame):=λz=>by obtain⟨_,o,q,n⟩:=B.mem z;rw[C]at q;cases q;exact n fs p
 refine Ld (wpAny_frameOf_fun I B H λa S=>?_);refine Ld (wpAny_entryPlaceOf λpl P=>?_);unfold EntryCells.newEntry newFields;refine Ld (Sb ?_ (P.sizeOk5 _ _ _ _ _));have y:=(S.2.1 e j).trans C;generalize hN:({cls:=.type "traceback",dict:=lD,data:=.fields ([hv,.ref L,.none,rawInt L,.none]++(if pl.isEmpty then QX 6 QN.none else pl)).toArray}:Obj)=N;have g:N.data=.fields ([hv,.ref L,.none,rawInt L,.none]++(if pl.isEmpty then QX 6 QN.none else pl)).toArray:=by rw[<-hN]
 have K:=di g;have w:=b3 N y;refine UH w p m ?_;have l:=Se (b4 y);have r:=cv p (·.setIfInBounds 1 (QN.ref a.objs.size));have i:=cc (Obj.mapFields (·.setIfInBounds 1 (QN.ref a.objs.size))) w (di r)
 have u:=
  (b7 (a.push N) (Obj.mapFields (·.setIfInBounds 1 (QN.ref a.objs.size))) l.symm).trans (b5 a K)
 unfold setFlight;refine Ld (RQ i r (x:=.ref a.objs.size) (by simp[m]) ?_);rw[ax (show(QN.ref a.objs.size !=QN.none)=QM from by simp)];have t:3<([hv,.ref L,.none,rawInt L,.none]++(if pl.isEmpty then QX 6 QN.none else pl)).toArray.size:=by simp only[Q4,Q1,QZ,Sz];ext
 refine UH u g t ?_;have v:=b7 ((a.push N).update e (Obj.mapFields (·.setIfInBounds 1 (QN.ref a.objs.size)))) (Obj.mapFields (·.setIfInBounds 3 ((lD:bg QT).elim QN.none λf=>rawInt f))) l;have F:=cc (Obj.mapFields (·.setIfInBounds 3 ((lD:bg QT).elim QN.none λf=>rawInt f))) u (di (cv g _));have VQ:∀b o,b≠e->a.get? b=cL o->(((a.push N).update e (Obj.mapFields (·.setIfInBounds 1 (QN.ref a.objs.size)))).update a.objs.size (Obj.mapFields (·.setIfInBounds 3 ((lD:bg QT).elim QN.none λf=>rawInt f)))).get? b=cL o:=λb o ne q=>by rw[b7 _ _ (Se (b4 q)),b7 _ _ ne.symm];exact b3 N q
 refine k _ a.objs.size (by rw[S.1];exact QV _) ⟨_,_,v.trans i,Obj.cls_mapFields _ _,?_,r,?_,?_,l,_,_,F,cv g _,?_⟩ ⟨λb o q ne _ G=>VQ b o ne ((S.2.1 b G).trans q),λb o q ne _=>?_,λb o q=>?_⟩
 .cases ob with
  |mk c d O h=>cases O<;>rfl
 .rw[Array.getElem?_setIfInBounds_ne (by decide)];exact J
 .simp[m]
 .rw[Array.getElem?_setIfInBounds_self_of_lt t];rfl
 .obtain⟨h,z⟩:=S.2.2 b o q;exact⟨h,VQ b _ ne z⟩
 .by_cases ne:b=e
  .subst ne;exact⟨_,v.trans i⟩
  .obtain⟨h,z⟩:=S.2.2 b o q;exact⟨_,VQ b _ ne z⟩
theorem yT
  (v:A.frames=cL (env::outer)) (u:s.heap.FunFrames base (env::outer)) (h:env.frame=cL L) (F:Nh s.heap e c dx a0 hd)
  (k:∀h' T,s.heap.objs.size<=T->Nh h' e c dx a0 (cL T)->Lft (env::outer) e hd s.heap h'->Q () {s with heap:=h'}):wpAny M A (leaving env (.ref e)) Q E s:=by
 obtain⟨N,fs,q,I,H,d,w,r⟩:=F;subst I H;cases hd with
 |none=>have r:=r;unfold leaving noteFrame;simp only[h];refine Ld (Ld (RQ q d r ?_));rw[a3 (by decide)];exact pO v u h q d (Ub.mp r).1 w k
 |some T=>
  obtain⟨r,C,O,B,g,dT,p⟩:=r;unfold leaving noteFrame;simp only[h];refine Ld (Ld (RQ q d r ?_));rw[ax (show(QN.ref T !=QN.none)=QM from by simp)];refine Ld (RQ g dT p ?_);rw[a3 (show¬((QN.none==rawInt L)=QM)from by simp[rawInt])];refine Ld (UH g dT (Ub.mp p).1 ?_);have f:∀b,b≠T->(s.heap.update T (Obj.mapFields (·.setIfInBounds 3 QN.none))).get? b=s.heap.get? b:=λb ne=>b7 _ _ ne.symm;have a:=cc (Obj.mapFields (·.setIfInBounds 3 QN.none)) g (di (cv dT _));have m:∀b o,s.heap.get? b=cL o->(∀vs,o.data≠.fields vs)->b≠T:=λb o z n y=>by rw[y,g]at z;cases z;exact n B dT
  refine pO v (u.of_keeps λb o z n=>⟨o,(f b (m b o z n)).trans z,rfl⟩) h ((f e C.symm).trans q) d (Ub.mp r).1 w λh' J t K i=>k h' J (by rw[Heap.size_after_update]at t;exact t) K ⟨λb o z l j G=>?_,λb o z l j=>?_,λb o z=>?_⟩
  .exact i.keep b o ((f b λy=>j (by rw[y])).trans z) l (by simp) G
  .exact i.slot b o ((f b λy=>j (by rw[y])).trans z) l (by simp)
  .by_cases y:b=T
   .subst y;exact i.here b _ a
   .exact i.here b o ((f b y).trans z)
end
theorem Lft.Sk{P:Rb}{w:Rr}{l:bb Env}{e:QT}{hd:bg QT}{H:Hp}{h h':Heap}(L:Lft l e hd h h')(j:Vb P w H h)(ne:H e=lD)(g:∀T,hd=cL T->H T=lD)(i:∀b∈vT l,H b=lD):Vb P w H h':=λb u q=>by
 have free:∀c v,H c=cL v->c≠e/\hd≠cL c/\c∉vT l:=λc v z=>⟨(λy=>by rw[y,ne]at z;cases z),(λy=>by rw[g c y]at z;cases z),(λy=>by rw[i c y]at z;cases z)⟩;refine(j b u q).VQ (λc v m z=>?_) (λ_ z=>z) λ_ _ z=>z;rcases m with y|y
 .rw[y]at z⊢;obtain⟨f,d,a⟩:=free b u q;exact L.keep b v z f d a
 .obtain⟨f,d,a⟩:=free c _ y;exact L.keep c v z f d a
def Cr(P:Rb)(w:Rr):tS:=λa H s E x b=>
 ∃e c dx a0 T H',x=.ref e/\s.heap.get? e=lD/\s.heap.get? T=lD/\Nh b.heap e c dx a0 (cL T)/\H' e=lD/\H' T=lD/\
  b.os=s.os/\AllBare b.gens/\Un (vT a) [] H H' s.heap b.heap/\Vb P w H' b.heap/\E c dx H'
theorem M5{P:Rb}{w:Rr}{K:Bn}{mg:Str->bg QN}{base:Heap}{N:bb Str}{h:Str}{a:SR}{f:QT}{u:QN}{A:Rt}{outer:bb Env}{d:QS}{C:Hp}{E:XK}
  {j:bb (QT×Obj)} {G:L2.St} {H:Hp} {s:QS} {e:QT} {c v:QN} {dx hd:bg QT} (I:L2.Inv (kr (Cr P w) P w K mg base N h a f u A outer d C E) j G H s)
  (F:Nh s.heap e c dx v hd) (t:d.heap.get? e=lD) (R:∀T,hd=cL T->d.heap.get? T=lD) (ne:H e=lD) (O:∀T,hd=cL T->H T=lD) (q:E c dx H):
  (kr (Cr P w) P w K mg base N h a f u A outer d C E).xe (.ref e) s:=by
 have Y:=I.ok.frames;have X:=I.stack;refine yT (L:=d.heap.objs.size) Y X rfl F λh' T r Z L=>?_;have Q:=L.Sk I.Sk ne O I.WC;have U:H T=lD:=I.Sk.fresh r;have m:∀b o,d.heap.get? b=cL o->b<d.heap.objs.size:=λb o z=>b4 z;have g:∀b o,d.heap.get? b=cL o->b≠e/\hd≠cL b:=λb o z=>⟨(λy=>by rw[y,t]at z;cases z),(λy=>by rw[R b y]at z;cases z)⟩;have sz:=I.sz;refine⟨e,c,dx,v,T,H,rfl,t,Heap.get?_none_of_le (Rp sz r),Z,ne,U,I.os,I.bare,?_,Q,q⟩;have B:=I.base;refine⟨λb o z n p _=>?_,λb o z n S _=>?_,λb o z n _=>?_,λb o z _=>?_,B.WG,B.We,B.Wx⟩
 .have i:=B.keep b o z n p (λy=>nomatch y)
  refine L.keep b o i (g b o z).1 (g b o z).2 λy=>?_;rcases Rm.mp (I.Ww b y)with y|y
  .have y:b=d.heap.objs.size:=y;exact a7 (m b o z) (by rw[y];exact Sj _)
  .exact p y
 .obtain⟨sl,i⟩:=B.slot b o z n S (λy=>nomatch y);obtain⟨l,J⟩:=L.slot b _ i (g b o z).1 (g b o z).2;exact⟨l,J⟩
 .exact B.free b o z n (λy=>nomatch y)
 .obtain⟨M,i⟩:=B.there b o z (λy=>nomatch y);exact L.here b M i
theorem BS{P:Rb}{w:Rr}{K:Bn}{mg:Str->bg QN}{base:Heap}{N:bb Str}{d:Str}{a:SR}{f:QT}{l:QN}{A:Rt}{outer:bb Env}{h:QS}{p:Hp}{E:XK}:
  eY (Cr P w) (kr (Cr P w) P w K mg base N d a f l A outer h p E) E:=by
 rintro j r H s x t I ⟨e,c,dx,v,T,B,rfl,le,lT,F,ne,nT,os,bare,un,Sk,q⟩;have n:=I.Zs (ch:=[]) os un Sk bare (λb z=>nomatch z);have g:∀b,s.heap.get? b=lD->h.heap.get? b=lD:=λb z=>by
  cases y:h.heap.get? b with
  |none=>rfl
  |some o=>obtain⟨u,i⟩:=I.base.there b o y (λy=>nomatch y);rw[z]at i;cases i
 exact M5 n F (g e le) (λm z=>by cases z;exact g T lT) ne (λm z=>by cases z;exact nT) q
section
variable{P:Rb}{w:Rr}{K:Bn}{mg:Str->bg QN}{base:Heap}{N:bb Str}{qual:Str}{scope:SR}{f:QT}{cd:QN}{A:Rt}{outer:bb Env}{s0:QS}{H0:Hp}{E:XK}{CX:tS}
  {σ:L2.St} {H:Hp} {s:QS} {h':Heap} {X:Cx}
end
def M6(K:Bn)(C:QT)(m:bb QN):Prop:=∃nm q N bs hd sn sub ab col dd k0 k1 k2 k3 k5 id,K.lookup C=cL (excClassObj nm q C N bs m hd sn sub ab col dd k0 k1 k2 k3 k5 id)
structure Apart(X:Cx)(a:QT):Prop where
 n0:X.s₀.heap.get? a=lD
 nL:a≠X.env.locals
 nC:∀y c,X.env.cells.lookup y=cL c->c≠a
 nP:∀p∈X.pn,p.1≠a
end L4
namespace L4
open PySem PySem.Spec PySem.W PyProof.Rows L2 L3
section
variable{prog:Rb}{w:Rr}{A:Rt}{E:QN->QS->Prop}{h:Heap}{g:Array Xe}{d:Drawn}{t:Nat}{os:OsState}{a C:QT}{o:Obj}{K:Bn}
  {n1 q1:Str} {N1:QT} {b1 m1:bb QN} {d1:Bool} {s1:bb Str} {u1:bb QN} {a1:Bool} {c1:bg Bool} {x1:bg QT} {i0 i1 i2 i3 i5:bg QN} {id1:String}
structure ac2(K:Bn)(C:QT)(m:bb QN):Prop where
 cl:M6 K C m
 be:m.contains (.type "BaseException")=QM
 ga:findIn K (.ref C) "__getattribute__"=cL (cL (.builtin "BaseException.__getattribute__"))
 gt:findIn K (.ref C) "__getattr__"=cL lD
 cs:findIn K (.ref C) "__class__"=cL (cL (.builtin "object.__class__"))
 ob:mroIn K C (.type "object")=cL QM
end
end L4
namespace L3
open PySem PySem.Spec PyProof.Rows L2
def vq:bb Int->Int
 |[]=>0
 |[a]=>a
 |a::r=>if vq r<=a then a else vq r
theorem wS:∀{ns:bb Int},0<ns.length->vq ns∈ns/\∀i,i∈ns->i<=vq ns
 |[a],_=>⟨Q2,λi h=>by rw[Rn.mp h];exact UB _⟩
 |a::b::r,_=>by
  obtain⟨e,d⟩:=wS (ns:=b::r) (by rw[QZ];ext);show(if vq (b::r)<=a then a else vq (b::r))∈a::b::r/\∀i,i∈a::b::r->i<=(if vq (b::r)<=a then a else vq (b::r));by_cases q:vq (b::r)<=a
  .rw[ax q]
   refine⟨Q2,λi h=>?_⟩;rcases Rm.mp h with z|z
   .omega
   .have:=d i z;ext
  .rw[a3 q]
   refine⟨Q0 _ e,λi h=>?_⟩;rcases Rm.mp h with z|z
   .omega
   .exact d i z
end L3
namespace L3
open PySem PySem.Spec PyProof.Rows L2
section
variable{K:Bn}{E:XK}
end
end L3
namespace L9
open PySem PySem.W PyProof.Rows Builtin Builtin.ObjectAttr
abbrev Pz:bb QN:=[.type "ValueError",.type "Exception",.type "BaseException",.type "object"]
end L9
namespace L9
open PySem PySem.Spec PyProof.Rows L2
structure XC(K:Bn)(C B fI:QT):Prop where
 obj:∃nm q N bs sn sub ab col dd k0 k1 k2 k3 k5,K.lookup C=cL (excClassObj nm q C N bs (.ref B::Pz) QM sn sub ab col dd k0 k1 k2 k3 k5 "ValueError.__new__")/\PySem.W.nsOkIn K N=QM/\RA K N "__init__"=cL (cL (.ref fI))
 base:V9 K B Pz "ValueError.__new__"=QM
 sa:RN K (.ref C) "__setattr__"=cL (cL (.builtin "object.__setattr__"))
end L9
namespace L9
open PySem PySem.Spec PySem.W PyProof.Rows L2 L3 L4
section
variable{prog:Rb}{w:Rr}{A:Rt}{E:QN->QS->Prop}{h:Heap}{g:Array Xe}{d:Drawn}{t:Nat}{os:OsState}{a C:QT}{o:Obj}{K:Bn}{od:bg Obj}{name:Str}{v:QN}
  {n1 q1:Str} {N1:QT} {b1 m1:bb QN} {d1:Bool} {s1:bb Str} {u1:bb QN} {a1:Bool} {c1:bg Bool} {x1:bg QT} {i0 i1 i2 i3 i5:bg QN} {id1:String}
end
end L9
namespace L3
open PySem PySem.Spec PyProof.Rows L2
mutual
def Py:QO->Bool
 |.tuple ds=>Jx ds
 |.int _=>QM
 |.str _=>QM
 |.bool _=>QM
 |.none=>QM
 |_=>QP
def Jx:bb QO->Bool
 |[]=>QM
 |d::r=>Py d&&Jx r
end
section
variable{K:Bn}{E:XK}{B:bS}{H0:Hp}{O Z:bS}{σ:L2.St}{H H':Hp}{ρ:aQ}
theorem Gh(h:UG K H a xs)(l:H a=cL (.lst ys)):UG K (λ_=>lD) a xs:=by
 rcases h with(h|⟨o,h⟩)|h
 .rw[l]at h;cases h
 .rw[l]at h;cases h
 .exact .inr h
mutual
theorem En(f:∀b,O b->¬Z b->∃ys,H b=cL (.lst ys)):∀{v:V} {d:D},DV Z K H v d->Py d=QM->DV O K H v d
 |_,_,.TF,_=>.TF
 |_,_,.bl b,_=>.bl b
 |_,_,.int i,_=>.int i
 |_,_,.str x,_=>.str x
 |_,_,.tup (a:=a) h hs,e=>.tup ⟨h.1,λz=>by
   by_cases y:Z a
   .exact h.2 y
   .obtain⟨ys,q⟩:=f a z y;exact Gh h.1 q⟩ (uX f hs e)
 |_,_,.lst h hs,e=>by cases e
theorem uX(a:∀b,O b->¬Z b->∃ys,H b=cL (.lst ys)):∀{vs:bb V} {ds:bb D},Ss Z K H vs ds->Jx ds=QM->Ss O K H vs ds
 |_,_,.nil,_=>.nil
 |_,_,.cons h hs,e=>by have d:=Bool.and_eq_true_iff.mp e;exact .cons (En a h d.1) (uX a hs d.2)
end
end
end L3
namespace PyProof.Rows
open PySem
section
variable{prog:Rb}{w:Rr}{A:Rt}{E:QN->QS->Prop}{s:QS}
theorem oH(b:h.get? a=cL (seqObj "list" vs.toArray n)):∃e,(sortedHeap h a vs out).get? a=cL (seqObj "list" out e):=by have d:=get?_update_seq b (λ_=> #[]);exact⟨_,get?_update_seq (b3 _ (b3 _ d)) _⟩
theorem mX(d:b≠a)(e:h.get? b=cL o):(sortedHeap h a vs out).get? b=cL o:=
 (b7 _ _ (dt d)).trans (b3 _ (b3 _ ((b7 _ _ (dt d)).trans e)))
theorem v9{l:QT}{vs:bb QN}{ns:bb Int}{Q:QN->QS->Prop}(i:s.heap.IsTuple l vs.toArray)(u:IntsAre vs ns)(g:vs.length<64)
  (h:∀(a h':Heap) (out:Array QN) (e:Nat) (d:bb Int),(∀b o,s.heap.get? b=cL o->a.get? b=cL o)->h'.get? a.objs.size=cL (seqObj "list" out e)->(∀b o,a.get? b=cL o->h'.get? b=cL o)->IntsAre out.toList d->d.Perm ns->d.Pairwise (·<=·)->Q (.ref a.objs.size) {s with heap:=h'}):
  wpAny (model prog w) A (call (.builtin "sorted") [.ref l]) Q E s:=by
 obtain⟨o,j,t,n,r⟩:=i;refine Calls.call_function_entry kind_sorted plain_sorted entry_sorted (args_sorted1 _) (Ld (m:=checkCount "sorted" 1 1 _) (QW (Ld (wpAny_collect_seq l (.inr rfl) j t r (λa p=>Ld (aev ?_)) (by rw[Q4,T9];ext)))));have f:(a.push (seqObj "list" vs.toArray 0)).get? a.objs.size=cL (seqObj "list" vs.toArray 0):=b5 _ rfl;refine Ld (TH (S9 slot_list_sort ⟨_,f,rfl⟩ entry_list_sort (list_sort_tree f u g λout d B y v=>⟨_,rfl,QW ⟨_,rfl,?_⟩⟩) (args_list_sort _)));obtain⟨e,q⟩:=oH (out:=out) f;exact h a _ out e d p q (λb C z=>mX (Ri (b4 z)) (b3 _ z)) B y v
end
end PyProof.Rows
namespace L9
open PySem PySem.Spec PyProof.Rows L2 L3
section
variable{K:Bn}{E:XK}
theorem rU:S3 X (.builtin "sorted") (λxs H Q=>∃(p:QT) (ns:bb Int),xs=[.ref p]/\UG X.K H p (ns.map V.int)/\ns.length<64/\∀(l:QT) (a:bb Int),H l=lD->a.Perm ns->a.Pairwise (·<=·)->Q (.ref l) (bf H l (.lst (a.map V.int)))):=by
 intro f s A H xs B Q I r h;obtain⟨p,ns,rfl,n,w,q⟩:=h;obtain⟨u,rfl,j⟩:=hG r;cases j;obtain⟨G,rv,pl,C⟩:=I.tuple n;have o:=rv.length;rw[QQ]at o;refine v9 pl (ju rv) (by ext) λy F d e a t v z hi g m=>?_;have b:=g.length_eq;have i:=I.kept (t':=s.toks) t;refine⟨.ref y.objs.size,_,i.laid z (QV _) ?_,rfl,q _ a (i.Sk.fresh (QV _)) g m⟩;refine⟨?_,d.toList,e,i4 hi,v⟩;rw[QQ,b];have:(64:Nat)<=Q3:=by decide
 ext
theorem tm:S3 X (.builtin "sorted") (λxs H Q=>(∃(p:QT) (ns:bb Int),xs=[.ref p]/\Uq X.K H p (ns.map V.int)/\ns.length<64/\∀(l:QT) (a:bb Int),H l=lD->a.Perm ns->a.Pairwise (·<=·)->Q (.ref l) (bf H l (.lst (a.map V.int))))\/
  (∃(p:QT) (ns:bb Int),xs=[.ref p]/\UG X.K H p (ns.map V.int)/\ns.length<64/\∀(l:QT) (a:bb Int),H l=lD->a.Perm ns->a.Pairwise (·<=·)->Q (.ref l) (bf H l (.lst (a.map V.int))))):=L2.S3.or uL rU
def eP:bb D->bg RV
 |[.tuple ds]=>(match jB ds with
  |some a=>if a.length<64 then cL (.ow ((jM a).map .int))else lD
  |none=>lD)
 |ds=>sC ds
theorem wc:vt K (λxs H Q=>(∃(p:QT) (ns:bb Int),xs=[.ref p]/\Uq K H p (ns.map V.int)/\ns.length<64/\∀(l:QT) (b:bb Int),H l=lD->b.Perm ns->b.Pairwise (·<=·)->Q (.ref l) (bf H l (.lst (b.map V.int))))\/
  (∃(p:QT) (ns:bb Int),xs=[.ref p]/\UG K H p (ns.map V.int)/\ns.length<64/\∀(l:QT) (b:bb Int),H l=lD->b.Perm ns->b.Pairwise (·<=·)->Q (.ref l) (bf H l (.lst (b.map V.int))))) eP:=by
 intro O H xs ds rv Q n f e q;unfold eP at e;split at e
 .split at e
  .rename_i ns h
   split at e
   .rename_i hn
    cases e;cases f with
    |cons m j=>cases j;obtain⟨a,vs,rfl,g,o⟩:=B7 m;rw[lu o h]at g;refine .inr ⟨a,ns,rfl,g.1,hn,λl b i d dW=>?_⟩;have e2:=ki (d.trans (eZ ns).symm) dW (d6 ns);subst e2;exact q.new (pp _) l i
   .cases e
  .cases e
 .exact .inl (yO O H xs ds rv Q n f e q)
end
end L9
namespace LD
open PySem PyProof.Rows L2 L3
mutual
def kd:QO->Bool
 |.none=>QM
 |.int _=>QM
 |.str x=>QO.strOk x
 |.tuple xs=>vx xs
 |_=>QP
def vx:bb QO->Bool
 |[]=>QM
 |x::r=>kd x&&vx r
end
def Hl:QO->Bool
 |.tuple xs=>vx xs&&decide ((QO.tuple xs).depth<=8)
 |_=>QP
mutual
theorem si:∀d:QO,kd d=QM->d.canLay0=QM
 |.none,_=>rfl
 |.int _,_=>rfl
 |.str x,h=>by unfold QO.canLay0;unfold kd at h;exact h
 |.tuple xs,h=>by unfold QO.canLay0;unfold kd at h;exact xV xs h
 |.bool _,h|.list _,h|.dict _,h=>by simp[kd]at h
theorem xV:∀xs:bb QO,vx xs=QM->QO.canLayAll0 xs=QM
 |[],_=>rfl
 |x::r,h=>by unfold vx at h;rw[CL]at h;unfold QO.canLayAll0;rw[si x h.1,xV r h.2];rfl
end
mutual
theorem Ec:∀d e:QO,kd d=QM->kd e=QM->QO.eqv d e=QM->d=e
 |.none,e,_,h,q=>by cases e<;>simp_all [kd,QO.eqv]
 |.int i,e,_,h,q=>by cases e<;>simp_all [kd,QO.eqv]
 |.str x,e,_,h,q=>by cases e<;>simp_all [kd,QO.eqv]
 |.tuple xs,e,g,h,q=>by
  cases e with
  |tuple a=>rw[QO.eqv]at q;unfold kd at g h;rw[yE xs a g h q]
  |_=>simp_all [kd,QO.eqv]
 |.bool _,_,h,_,_|.list _,_,h,_,_|.dict _,_,h,_,_=>by simp[kd]at h
theorem yE:∀xs ys:bb QO,vx xs=QM->vx ys=QM->QO.eqvAll xs ys=QM->xs=ys
 |[],[],_,_,_=>rfl
 |[],_::_,_,_,q=>by simp[QO.eqvAll]at q
 |_::_,[],_,_,q=>by simp[QO.eqvAll]at q
 |x::xs,y::ys,g,h,q=>by unfold vx at g h;rw[QO.eqvAll]at q;rw[CL]at g h q;rw[Ec x y g.1 h.1 q.1,yE xs ys g.2 h.2 q.2]
end
theorem LF[Decidable (d=e)](hd:kd d=QM)(a:kd e=QM):QO.eqv d e=decide (d=e):=by
 by_cases q:d=e
 .subst q;rw[a4 rfl];exact SeqAt.eqv_refl d (si d hd)
 .rw[a5 q]
  cases z:QO.eqv d e with
  |false=>rfl
  |true=>exact a7 (Ec d e hd a z) q
theorem gh(h:Hl d=QM):kd d=QM/\d.depth<=8:=by
 cases d with
 |tuple xs=>unfold Hl at h;rw[CL]at h;exact⟨by unfold kd;exact h.1,a6 h.2⟩
 |_=>simp[Hl]at h
mutual
def ul(w:Rr):QO->Int
 |.none=>reduceHash 0xFCA86420
 |.int i=>hashInt i
 |.str x=>hashStr w x
 |.tuple xs=>reduceHash (RD.Tuple.tupleHashOf (pN w xs))
 |_=>0
def pN(w:Rr):bb QO->bb Int
 |[]=>[]
 |x::r=>ul w x::pN w r
end
mutual
def OD:QO->Nat
 |.tuple xs=>ED xs+1
 |_=>1
def ED:bb QO->Nat
 |[]=>0
 |x::r=>OD x+ED r
end
section
variable{prog:Rb}{w:Rr}{E:QN->QS->Prop}
mutual
theorem yI:∀(d:QO) (v:QN) (as:bb QT) (A:Rt) (s:QS) (Q:Int->QS->Prop),kd d=QM->Xg s.heap v d as->A.units+d.depth<cLine->Q (ul w d) {s with toks:=s.toks+OD d}->wpAny (model prog w) A (pyHash v) Q E s
 |.none,_,_,A,s,Q,_,r,hu,h=>by cases r;exact W7 (T:= "NoneType") rfl F.slot_NoneType_hash F.entry_NoneType_hash (F.args_NoneType_hash_1 _) (aaU _) (.inr (by ext)) (Ld (QW (Ld (wpAny_mkInt (QW ⟨_,_,rfl,h⟩)))))
 |.int i,_,_,A,s,Q,_,r,_,h=>by cases r;exact aaK h
 |.str x,_,_,A,s,Q,_,r,_,h=>by cases r;exact aaL h
 |.tuple xs,_,_,A,s,Q,hk,r,hu,h=>by
  cases r with
  | @tuple a o vs n _ _ h1 h2 h3 h4=>
   refine W7 (T:= "tuple") ⟨_,h1,h2⟩ F.slot_tuple_hash F.entry_tuple_hash (F.args_tuple_hash_1 _) (aaU _) (.inr (by ext)) ?_;show wpAny _ _ (RD.Tuple.tupleItemsOf (.ref a)>>=_) _ _ s;refine Ld (wpAny_tupleItemsOf h1 h3 ?_);refine Ld ?_;rw[<-XJ];unfold kd at hk;refine qH xs vs.toList _ A.in1 s #[] _ hk h4 (by simp only[QO.depth,Rt.in1_units]at hu⊢;ext) λb e=>?_;show wpAny _ _ (retInt (RD.Tuple.tupleHashOf b.toList)) _ _ _;rw[e];refine Ld (wpAny_mkInt (QW ⟨_,_,rfl,?_⟩));unfold ul OD at h
   simpa [aak]using h
 |.bool _,_,_,_,_,_,h,_,_,_|.list _,_,_,_,_,_,h,_,_,_|.dict _,_,_,_,_,_,h,_,_,_=>by simp[kd]at h
theorem qH:∀(xs:bb QO) (vs:bb QN) (as:bb QT) (A:Rt) (s:QS) (b:Array Int) (Q:Array Int->QS->Prop),vx xs=QM->Vt s.heap vs xs as->A.units+QO.depthAll xs<cLine->
  (∀b':Array Int,b'.toList=b.toList++pN w xs->Q b' {s with toks:=s.toks+ED xs})->
  wpAny (model prog w) A (forIn vs b λx r=>do let h<-pyHash x;pure PUnit.unit;pure (ForInStep.yield (r.push h))) Q E s
 |[],_,_,A,s,b,Q,_,x,_,h=>by cases x;exact QW (h b (by simp[pN]))
 |k::xs,_,_,A,s,b,Q,hk,x,hu,h=>by
  cases x with
  |cons d a=>
   unfold vx at hk;simp only[CL,QO.depthAll]at hk hu;rw[UY];refine Ld (Ld (yI k _ _ A s _ hk.1 d (by ext) ?_));refine Ld (QW (QW ?_));refine qH xs _ _ A _ _ Q hk.2 a (by ext) λb' e=>?_;have:=h b' (by simp[e,pN]);unfold ED at this
   simpa [aak]using this
end
theorem ut:∀(n:Nat) (d:QO) (v:QN) (as:bb QT) (A:Rt) (s:QS) (Q:Bool->QS->Prop),kd d=QM->Xg s.heap v d as->d.depth<=n->Q QM s->wpAny (model prog w) A (eqIsQuiet n v) Q E s
 |n,.none,_,_,A,s,Q,_,r,_,h=>by cases r;rw[Wa _ rfl];exact QW h
 |n,.int i,_,_,A,s,Q,_,r,_,h=>by cases r;rw[Wa _ rfl];exact QW h
 |n,.str i,_,_,A,s,Q,_,r,_,h=>by cases r;rw[Wa _ rfl];exact QW h
 |0,.tuple xs,_,_,A,s,Q,hk,r,hn,h=>by simp only[QO.depth]at hn;ext
 |n+1,.tuple xs,_,_,A,s,Q,hk,r,hn,h=>by
  cases r with
  | @tuple a o vs m _ _ h1 h2 h3 h4=>
   have g:s.TypeIs (.ref a) "tuple":=⟨_,h1,h2⟩;simp only[QO.depth]at hn;unfold eqIsQuiet;refine Ld (abK g F.slot_tuple_eq.lookup ?_);refine Ld (Wt g isSubtype_tuple_tuple ?_);simp only[WM,Tw,if_false];refine Ld (Sm h1 h3 ?_);refine Ld ?_;rw[<-XJ];unfold kd at hk;refine wpAny_forIn_list _ (λb r e=>r.1=lD/\e=s/\∃ys bs,vx ys=QM/\Vt s.heap b ys bs/\QO.depthAll ys<=n) _ ?_ ?_ _ _ ⟨rfl,rfl,xs,_,hk,h4,by ext⟩
   .rintro v b r e ⟨f,rfl,ys,bs,k1,k2,k3⟩
    cases k2 with
    | @cons _ _ y ys' _ _ g1 g2=>unfold vx at k1;simp only[CL,QO.depthAll]at k1 k3;refine Ld (ut n y v _ A e _ k1.1 g1 (by ext) ?_);simp only[WM,Tw,if_false];exact QW ⟨rfl,rfl,ys',_,k1.2,g2,by ext⟩
   .rintro⟨l,j⟩ e ⟨f,rfl,_⟩;simp only at f;subst f;exact QW h
 |_,.bool _,_,_,_,_,_,h,_,_,_|_,.list _,_,_,_,_,_,h,_,_,_|_,.dict _,_,_,_,_,_,h,_,_,_=>by simp[kd]at h
end
mutual
theorem re{h h':Heap}{x:QT}{b:Obj}{es:Array U9}{i:Nat}(e:h.get? x=cL b)(g:b.data=.dict es i)(f:Heap.SameBut x h h'):∀(d:QO) (v:QN) (as:bb QT),kd d=QM->Xg h v d as->Xg h' v d as
 |.none,_,_,_,r=>by cases r;exact .none
 |.int _,_,_,_,r=>by cases r;exact .int _ _
 |.str _,_,_,_,r=>by cases r;exact .str _ _
 |.tuple xs,_,_,k,r=>by
  cases r with
  | @tuple a o vs n _ _ h1 h2 h3 h4=>
   have j:a≠x:=by rintro rfl;rw[e]at h1;cases h1;rw[g]at h3;exact nomatch h3
   unfold kd at k;exact .tuple ((f.2 a j).trans h1) h2 h3 (oS e g f xs _ _ k h4)
 |.bool _,_,_,h,_|.list _,_,_,h,_|.dict _,_,_,h,_=>by simp[kd]at h
theorem oS{h h':Heap}{x:QT}{a:Obj}{es:Array U9}{j:Nat}(b:h.get? x=cL a)(f:a.data=.dict es j)(e:Heap.SameBut x h h'):∀(ds:bb QO) (vs:bb QN) (as:bb QT),vx ds=QM->Vt h vs ds as->Vt h' vs ds as
 |[],_,_,_,r=>by cases r;exact .nil
 |d::ds,_,_,k,r=>by
  cases r with
  |cons i g=>unfold vx at k;rw[CL]at k;exact .cons (re b f e d _ _ k.1 i) (oS b f e ds _ _ k.2 g)
end
abbrev KD:={d:QO//Hl d=QM}
noncomputable instance kdDec:DecidableEq KD:=λ_ _=>Classical.propDecidable _
def Cw(prog:Rb)(w:Rr):HeapKind prog w KD where
 is:=λh k a=>∃as,Xg h (.ref a) k.1 as
 hash:=λk=>ul w k.1
 draws:=λk=>OD k.1
 room:=λA=>A.units+8<cLine
 inj:=λ⟨_,r⟩ ⟨_,f⟩=>Subtype.ext (Xg.unique r _ _ f).1
 keeps:=λ{h h' k a d o es ep} ⟨as,r⟩ ho hd hs=>⟨as,re ho hd hs k.1 _ _ (gh k.2).1 r⟩
 pyHash:=λ{A E s k a Q} hu ⟨as,r⟩ q=>yI k.1 _ as A s Q (gh k.2).1 r (by have:=(gh k.2).2;ext) q
 eqBool:=λ{A E s x y a b Q} hu ⟨as,r⟩ ⟨bs,f⟩ q=>SeqAt.eqAt_reads x.1 y.1 A s _ _ as bs r f (si _ (gh x.2).1) (si _ (gh y.2).1) (by have:=(gh x.2).2;ext) prog w E Q (by
  haveI:Decidable (x.1=y.1):=Classical.propDecidable _
  rw[LF (gh x.2).1 (gh y.2).1];by_cases e:x=y
  .rw[a4 e]at q;rw[a4 (d5 Subtype.val e)];exact q
  .rw[a5 e]at q;rw[a5 λz=>e (Subtype.ext z)];exact q)
 quiet:=λ{A E s k a Q} ⟨as,r⟩ q=>ut 8 k.1 _ as A s Q (gh k.2).1 r (gh k.2).2 q
def P7(a:QT)(xs:bb (KD×QT×V))(w:Rr)(h:Heap):Prop:=
 (xs.length<=Q3/\(a==S4)=QP/\(xs.map (·.1)).Nodup)/\∃o es ep,h.get? a=cL o/\o.ExactDict/\o.data=.dict es ep/\Paired (λ(x:KD×QT×V) (e:U9)=>e.hash=ul w x.1.1/\e.key=.ref x.2.1/\RelV x.2.2 e.val) xs es.toList
abbrev DkO(a:QT)(xs:bb (KD×QT×V)):HO:=.exw (P7 a xs)
abbrev PrD(O:bS)(K:Bn)(H:Hp):bb (KD×QT×V)->bb (D×D)->Prop:=
 Paired λx a=>x.1.1=a.1/\L3.DV O K H (.ref x.2.1) a.1/\L3.DV O K H x.2.2 a.2
end LD
namespace L10
open PySem L2 L3
inductive AV where
 |fz (d:D)
 |rf (i:Nat)
inductive SV where
 |fz (d:D)
 |rf (i:Nat)
 |tp (l:bb AV)
def AV.sv:AV->SV
 |.fz d=>.fz d
 |.rf i=>.rf i
inductive Cell where
 |lst (xs:bb SV)
 |Te (kvs:bb (bK×SV))
 |obj (C:Str) (fs:bb (Str×SV))
 |dd (kvs:bb (D×D))
 |dead
abbrev aW:=bb Cell
abbrev aZ:=bb (bg SV)
inductive RS(α:Type) where
 |ok (a:α) (ω:aW)
 |er (x:Xc) (ω:aW)
 |bad
def RS.bind(r:RS α)(f:α->aW->RS β):RS β:=match r with
 |.ok a ω=>f a ω
 |.er x ω=>.er x ω
 |.bad=>.bad
def RS.RK(ω:aW):bg α->RS α
 |some a=>.ok a ω
 |none=>.bad
theorem RS.bind_ok(a:α)(ω:aW)(f:α->aW->RS β):(RS.ok a ω).bind f=f a ω:=rfl
abbrev ee:=@RS.bind_ok
def Lv(α:bb QT)(ω:aW):bS:=λb=>∃(i:Nat) (c:Cell),α[i]?=cL b/\ω[i]?=cL c/\c≠Cell.dead
def ow(B:bS)(α:bb QT)(ω:aW):bS:=λb=>B b\/Lv α ω b
section
variable(O:bS)(K:Bn)(H:Hp)(Z:bb QT)
def Yb(v:V):AV->Prop
 |.fz d=>DV O K H v d
 |.rf i=>∃a,Z[i]?=cL a/\v=.ref a
def To(v:V):SV->Prop
 |.fz d=>DV O K H v d
 |.rf i=>∃a,Z[i]?=cL a/\v=.ref a
 |.tp l=>∃a xs,v=.ref a/\UN O K H a xs/\Paired (Yb O K H Z) xs l
abbrev Tv:bb V->bb SV->Prop:=Paired (To O K H Z)
def Ya(a:QT):Cell->Prop
 |.lst xs=>∃vs,H a=cL (.lst vs)/\Tv O K H Z vs xs
 |.Te kvs=>∃ws:bb (bK×V),H a=cL (.dK ws)/\Paired (λ(p:bK×V) (q:bK×SV)=>p.1=q.1/\To O K H Z p.2 q.2) ws kvs
 |.obj C fs=>∃Ca dx ws,RA K Rk C=cL (cL (.ref Ca))/\H a=cL (.ins Ca dx ws)/\Paired (λ(p:Str×V) (q:Str×SV)=>p.1=q.1/\To O K H Z p.2 q.2) ws fs
 |.dd kvs=>∃xs,H a=cL (LD.DkO a xs)/\LD.PrD O K H xs kvs
 |.dead=>True
def Tq(a:L2.St)(ρ:aZ):Prop:=a.length=ρ.length/\∀(i:Nat) (x:SV),ρ[i]?=cL (cL x)->∃v,a[i]?=cL (cL v)/\To O K H Z v x
end
structure Rj(B:bS)(K:Bn)(H:Hp)(α:bb QT)(ω:aW):Prop where
 len:α.length=ω.length
 nd:∀(i j:Nat) (a:QT),α[i]?=cL a->α[j]?=cL a->i=j
 bn:∀a,B a->H a≠lD
 ba:∀a,B a->∀i:Nat,α[i]?≠cL a
 al:∀(i:Nat) (a:QT),α[i]?=cL a->H a≠lD
 V4:∀(i:Nat) (a:QT) (c:Cell),α[i]?=cL a->ω[i]?=cL c->Ya (ow B α ω) K H α a c
structure SF(α:bb QT)(ω:aW)(H:Hp)(α':bb QT)(ω':aW)(H':Hp):Prop where
 pre:∀(i:Nat) (a:QT),α[i]?=cL a->α'[i]?=cL a
 kp:∀b o,H b=cL o->¬Lv α ω b->H' b=cL o
 lv:∀b,Lv α' ω' b->Lv α ω b\/H b=lD
section
variable{B O Q:bS}{K:Bn}{E:XK}{H U R N:Hp}{Z Y T S:bb QT}{ω X ω1 ω2:aW}{σ:L2.St}{ρ:aZ}{v:V}
theorem SF.refl:SF Z ω H Z ω H:=⟨λ_ _ h=>h,λ_ _ h _=>h,λ_ h=>.inl h⟩
theorem SF.trans(a:SF Z ω H T ω1 R)(b:SF T ω1 R S ω2 N):SF Z ω H S ω2 N:=by
 have d:∀b o,H b=cL o->¬Lv Z ω b->¬Lv T ω1 b:=λb o h n z=>(a.lv b z).elim n λq=>by simp_all
 refine⟨λi p h=>b.pre i p (a.pre i p h),λp o h n=>b.kp p o (a.kp p o h n) (d p o h n),λp h=>?_⟩;rcases b.lv p h with h|h
 .exact a.lv p h
 .cases q:H p with
  |none=>simp_all
  |some o=>refine .inl (Classical.byContradiction λn=>?_);rw[a.kp p o q n]at h;cases h
theorem SF.same(s:Sv H U):SF Z ω H Z ω U:=⟨λ_ _ h=>h,λb o h _=>s b o h,λ_ h=>.inl h⟩
theorem SF.ev(e:SF Z ω H Y X U):Ev (ow B Z ω) H (ow B Y X) U:=λb o h n=>
 ⟨e.kp b o h λz=>n (.inr z),λz=>z.elim (λq=>n (.inl q)) λq=>(e.lv b q).elim (λq=>n (.inr q)) λq=>by simp_all⟩
theorem Yb.ev(e:Ev O H Q U)(p:∀(i:Nat) (a:QT),Z[i]?=cL a->Y[i]?=cL a)(h:Yb O K H Z v x):Yb Q K U Y v x:=by
 cases x with
 |fz d=>exact DV.ev e h
 |rf i=>obtain⟨a,f,b⟩:=h;exact⟨a,p i a f,b⟩
theorem To.ev(e:Ev O H Q U)(p:∀(i:Nat) (a:QT),Z[i]?=cL a->Y[i]?=cL a)(h:To O K H Z v x):To Q K U Y v x:=by
 cases x with
 |fz d=>exact DV.ev e h
 |rf i=>obtain⟨a,f,b⟩:=h;exact⟨a,p i a f,b⟩
 |tp l=>obtain⟨a,xs,f,b,g⟩:=h;exact⟨a,xs,f,b.ev e,Paired.TU g λ_ _ q=>q.ev e p⟩
theorem To.Tr(e:SF Z ω H Y X U)(h:To (ow B Z ω) K H Z v x):To (ow B Y X) K U Y v x:=h.ev e.ev e.pre
theorem Tv.Tr(e:SF Z ω H Y X U)(h:Tv (ow B Z ω) K H Z vs xs):Tv (ow B Y X) K U Y vs xs:=Paired.TU h λ_ _ q=>q.Tr e
theorem Tq.Tr(e:SF Z ω H Y X U)(h:Tq (ow B Z ω) K H Z σ ρ):Tq (ow B Y X) K U Y σ ρ:=⟨h.1,λi x q=>let⟨v,h1,h2⟩:=h.2 i x q;⟨v,h1,h2.Tr e⟩⟩
theorem Ya.ev(e:Ev O H Q U)(p:∀(i:Nat) (a:QT),Z[i]?=cL a->Y[i]?=cL a)(ha:∀o,H a=cL o->U a=cL o)(h:Ya O K H Z a c):Ya Q K U Y a c:=by
 cases c with
 |lst xs=>obtain⟨vs,d,b⟩:=h;exact⟨vs,ha _ d,Paired.TU b λ_ _ q=>q.ev e p⟩
 |Te kvs=>obtain⟨ws,d,b⟩:=h;exact⟨ws,ha _ d,Paired.TU b λ_ _ q=>⟨q.1,q.2.ev e p⟩⟩
 |obj C fs=>obtain⟨g,dx,ws,f,d,b⟩:=h;exact⟨g,dx,ws,f,ha _ d,Paired.TU b λ_ _ q=>⟨q.1,q.2.ev e p⟩⟩
 |dd kvs=>obtain⟨xs,d,b⟩:=h;exact⟨xs,ha _ d,Paired.TU b λ_ _ q=>⟨q.1,q.2.1.ev e,q.2.2.ev e⟩⟩
 |dead=>trivial
theorem Rj.Xb(s:Rj B K H Z ω):l8 (ow B Z ω) H:=λa h z=>z.elim (λq=>s.bn a q h) λ⟨i,c,q,_⟩=>s.al i a q h
theorem Rj.owd(s:Rj B K H Z ω):∀a,ow B Z ω a->H a≠lD:=λa z h=>s.Xb a h z
theorem Rj.grow(s:Rj B K H Z ω)(e:Sv H U):Rj B K U Z ω:=by have n:∀a,H a≠lD->U a≠lD:=λa h z=>h (e.free z);exact⟨s.len,s.nd,λa h=>n a (s.bn a h),s.ba,λi a h=>n a (s.al i a h),λi a c d b=>(s.V4 i a c d b).ev (Ev.grow e) (λ_ _ h=>h) λo h=>e _ _ h⟩
theorem Rj.at(s:Rj B K H Z ω){i:Nat}(h:ω[i]?=cL c):∃a,Z[i]?=cL a:=by have:i<ω.length:=(QU.mp h).1;rw[<-s.len]at this;simp_all
theorem Rj.Y4(s:Rj B K H Z ω){i:Nat}(h:Z[i]?=cL a):¬B a:=λz=>s.ba a z i h
theorem v7{i:Nat}{c l:Cell}(h:ω[i]?=cL c)(m:c≠.dead)(n:l≠.dead){b:QT}:Lv Z (ω.set i l) b↔Lv Z ω b:=by
 constructor
 .rintro⟨j,d,f,a,g⟩
  rcases bL a with⟨rfl,rfl⟩|⟨_,a⟩
  .exact⟨j,c,f,h,m⟩
  .exact⟨j,d,f,a,g⟩
 .rintro⟨j,d,f,a,g⟩
  by_cases e:j=i
  .subst e;exact⟨j,l,f,by rw[S5 (QU.mp h).1],n⟩
  .exact⟨j,d,f,by rw[Tg (λz=>e z.symm)];exact a,g⟩
theorem Lw(h:ω[i]?=cL c)(a:c≠.dead)(d:c'≠.dead):ow B Z (ω.set i c')=ow B Z ω:=by funext b;exact propext ⟨λz=>z.imp id (v7 h a d).mp,λz=>z.imp id (v7 h a d).mpr⟩
theorem SF.put(ha:Z[i]?=cL a)(h:ω[i]?=cL c)(d:c≠.dead)(f:c'≠.dead):SF Z ω H Z (ω.set i c') (bf H a o):=
 ⟨λ_ _ h=>h,λb g q n=>by have z:b≠a:=λe=>n ⟨i,c,by simp_all,h,d⟩;rw[aJ z];exact q,λb z=>.inl ((v7 h d f).mp z)⟩
theorem Rj.put(s:Rj B K H Z ω)(ha:Z[i]?=cL a)(h:ω[i]?=cL c)(l:c≠.dead)(m:c'≠.dead)(new:Ya (ow B Z ω) K (bf H a o) Z a c'):Rj B K (bf H a o) Z (ω.set i c'):=by
 have e:SF Z ω H Z (ω.set i c') (bf H a o):=SF.put ha h l m;have n:∀b,H b≠lD->bf H a o b≠lD:=λb h=>by
  by_cases z:b=a
  .subst z;rw[aE];simp
  .rw[aJ z];exact h
 refine⟨by rw[RU];exact s.len,s.nd,λb h=>n b (s.bn b h),s.ba,λj b h=>n b (s.al j b h),λj b d g f=>?_⟩;rcases bL f with⟨rfl,rfl⟩|⟨p,f⟩
 .rw[ha]at g;cases g;rw[Lw h l m];exact new
 .exact(s.V4 j b d g f).ev e.ev e.pre λu q=>by rw[aJ (λz=>p (s.nd j i a (by simp_all) ha))];exact q
theorem sA{i:Nat}{a:QT}{c:Cell}{o:HO}(ha:Z[i]?=cL a)(h:ω[i]?=cL c)(b:c≠.dead):Ev (ow B Z ω) H (ow B Z ω) (bf H a o):=Ev.mut (.inr ⟨i,c,ha,h,b⟩) o
theorem bc{Z:Type}{l:bb Z}{x y:Z}{i:Nat}(h:(l++[x])[i]?=cL y):l[i]?=cL y\/(i=l.length/\y=x):=by
 by_cases hi:i<l.length
 .rw[Ro hi]at h;exact .inl h
 .rw[Rq (by ext)]at h
  cases q:i - l.length with
  |zero=>rw[q]at h;cases h;exact .inr ⟨by ext,rfl⟩
  |succ n=>rw[q]at h;cases h
theorem eC{Z:Type}{l:bb Z}{x y:Z}{i:Nat}(h:l[i]?=cL y):(l++[x])[i]?=cL y:=by rw[Ro (QU.mp h).1];exact h
theorem aM:(l++[x])[l.length]?=cL x:=by simp
theorem ou(g:Z.length=ω.length)(h:Lv (Z++[p]) (ω++[c]) b):Lv Z ω b\/b=p:=by
 obtain⟨i,d,e,a,f⟩:=h;rcases bc e with e|⟨e1,e2⟩
 .rcases bc a with a|⟨e1,e2⟩
  .exact .inl ⟨i,d,e,a,f⟩
  simp_all
 .exact .inr e2
theorem SF.W6(d:Z.length=ω.length)(s:Sv H U)(f:H p=lD):SF Z ω H (Z++[p]) (ω++[c]) U:=
 ⟨λi a h=>eC h,λb u q _=>s b u q,λb z=>(ou d z).imp id λe=>by simp_all⟩
theorem Rj.W6(s:Rj B K H Z ω)(e:Sv H U)(l:H p=lD)(m:U p≠lD)(new:Ya (ow B (Z++[p]) (ω++[c])) K U (Z++[p]) p c):Rj B K U (Z++[p]) (ω++[c]):=by
 have ev:SF Z ω H (Z++[p]) (ω++[c]) U:=SF.W6 s.len e l;have n:∀b,H b≠lD->U b≠lD:=λb h z=>h (e.free z);refine⟨by rw[Q1,Q1,s.len];rfl,λi j a f g=>?_,λa h=>n a (s.bn a h),λa h i q=>?_,λi a h=>?_,λi a d f g=>?_⟩
 .rcases bc f with g1|⟨e1,e2⟩<;>rcases bc g with g2|⟨e3,e4⟩
  .exact s.nd i j a g1 g2
  .exact a7 (by rw[e4];exact l) (s.al i a g1)
  .exact a7 (by rw[e2];exact l) (s.al j a g2)
  .omega
 .rcases bc q with q|⟨_,e2⟩
  .exact s.ba a h i q
  .subst e2;exact s.bn a h l
 .rcases bc h with h|⟨_,e2⟩
  .exact n a (s.al i a h)
  simp_all
 .rcases bc g with g|⟨e1,e2⟩
  .rcases bc f with f|⟨e1,_⟩
   .exact(s.V4 i a d f g).ev ev.ev ev.pre λo q=>e _ _ q
   .have:=(QU.mp g).1;have:=s.len;ext
  .rcases bc f with f|⟨_,e3⟩
   .have:=(QU.mp f).1;have:=s.len;ext
   simp_all
def WS(K:Bn)(E:XK)(B:bS)(H:Hp)(Z:bb QT)(ω:aW)(P:A->bb QT->aW->Hp->Prop):RS A->Prop
 |.ok a X=>∀Y U,SF Z ω H Y X U->Rj B K U Y X->P a Y X U
 |.er x X=>∀c dx Y U,SF Z ω H Y X U->Rj B K U Y X->Y7 K (ow B Y X) U c dx x->E c dx U
 |.bad=>False
theorem WS.from(e:SF Z ω H T ω1 R)(h:WS K E B H Z ω P r):WS K E B R T ω1 P r:=by
 cases r with
 |ok a ω2=>exact λS N e2 b=>h S N (e.trans e2) b
 |er x ω2=>exact λc dx S N e2 b=>h c dx S N (e.trans e2) b
 |bad=>exact h
theorem WS.bind(h:WS K E B H Z ω P (r.bind k)):WS K E B H Z ω (λa T ω1 R=>WS K E B R T ω1 P (k a ω1)) r:=by
 cases r with
 |ok a ω1=>exact λT R e1 _=>WS.from e1 h
 |er x ω1=>exact h
 |bad=>exact h
theorem WS.RK(h:WS K E B H Z ω P ((RS.RK ω o).bind k)):∃a,o=cL a/\WS K E B H Z ω P (k a ω):=by
 cases o with
 |none=>exact h.elim
 |some a=>exact⟨a,rfl,h⟩
theorem WS.imp(h:WS K E B H Z ω P r)(g:∀a Y X U,SF Z ω H Y X U->Rj B K U Y X->P a Y X U->P' a Y X U):WS K E B H Z ω P' r:=by
 cases r with
 |ok a ω1=>exact λT R e1 b=>g a T ω1 R e1 b (h T R e1 b)
 |er x ω1=>exact h
 |bad=>exact h
theorem WS.now(s:Rj B K H Z ω)(h:WS K E B H Z ω P (.ok a ω)):P a Z ω H:=h Z H .refl s
end
abbrev cR:=aZ->aW->RS SV
abbrev oa:=aZ->aW->RS Bool
abbrev xp:=aZ->aW->RS (bb SV)
def dr(K:Bn)(E:XK)(t:TE)(f:cR):Prop:=
 ∀(B:bS) (d:L2.St) (H:Hp) (α:bb QT) (ω:aW) (ρ:aZ) (Q:VK),Rj B K H α ω->Tq (ow B α ω) K H α d ρ->WS K E B H α ω (λx a b e=>∀v,To (ow B a b) K e a v x->Q v e) (f ρ ω)->t d H Q
def tK(K:Bn)(E:XK)(t:TT)(f:oa):Prop:=
 ∀(B:bS) (a:L2.St) (H:Hp) (α:bb QT) (ω:aW) (ρ:aZ) (Q:Bool->Hp->Prop),Rj B K H α ω->Tq (ow B α ω) K H α a ρ->WS K E B H α ω (λb _ _ d=>Q b d) (f ρ ω)->t a H Q
def zC(K:Bn)(E:XK)(t:TA)(f:xp):Prop:=
 ∀(B:bS) (d:L2.St) (H:Hp) (α:bb QT) (ω:aW) (ρ:aZ) (Q:bb V->Hp->Prop),Rj B K H α ω->Tq (ow B α ω) K H α d ρ->WS K E B H α ω (λxs a b e=>∀vs,Tv (ow B a b) K e a vs xs->Q vs e) (f ρ ω)->t d H Q
section
variable{B O N:bS}{K:Bn}{E:XK}{H T U H2:Hp}{Z P Y J:bb QT}{ω M ω1 ω2:aW}{X:L2.St}{ρ:aZ}{v:V}
def Ia:bg SV->bg PV
 |some (.fz d)=>cL (.fz d)
 |_=>lD
def bV(ρ:aZ):aQ:=ρ.map Ia
theorem qW{i:Nat}(h:(bV ρ)[i]?=cL (cL x)):∃d,x=.fz d/\ρ[i]?=cL (cL (.fz d)):=by
 unfold bV at h;rw[Q5]at h;cases q:ρ[i]? with
 |none=>simp_all
 |some o=>
  rw[q]at h;have a:=Ra h;unfold Ia at a;split at a
  .cases a;exact⟨_,rfl,rfl⟩
  .cases a
theorem AM(s:Rj B K H Z ω)(a:Tq (ow B Z ω) K H Z X ρ):Rl K (ow B Z ω) H (ow B Z ω) X H (bV ρ):=by
 refine⟨Sv.refl _,λ_ h=>h,s.owd,s.Xb,by unfold bV;rw[QQ];exact a.1,λi x h=>?_,λi j ds es w h=>?_⟩
 .obtain⟨d,rfl,b⟩:=qW h;obtain⟨v,g,f⟩:=a.2 i _ b;exact⟨v,g,f⟩
 .obtain⟨d,e,_⟩:=qW h;cases e
def jD(ω:aW):RV->RS SV
 |.fz d=>.ok (.fz d) ω
 |.ow ds=>.ok (.rf ω.length) (ω++[.lst (ds.map .fz)])
abbrev PQ(B:bS)(K:Bn)(Q:VK):SV->bb QT->aW->Hp->Prop:=λx P M T=>∀v,To (ow B P M) K T P v x->Q v T
theorem mi(O:bS)(Z:bb QT):∀{vs:bb V} {ds:bb D},Ss O K H vs ds->Tv O K H Z vs (ds.map .fz)
 |_,_,.nil=>.nil
 |_,_,.cons h t=>.cons h (mi O Z t)
theorem wg:∀{vs:bb V} {ds:bb D},Tv O K H Z vs (ds.map .fz)->Ss O K H vs ds
 |_,[],.nil=>.nil
 |_,_::_,.cons h t=>.cons h (wg t)
theorem pP(s:Rj B K H Z ω)(w:WS K E B H Z ω (PQ B K Q) (jD ω (.ow ds)))(e:Sv H T)(a:H p=lD)(h:T p=cL (.lst vs))(hd:Ss N K T vs ds)(d:∀b,ow B Z ω b->N b)(f:N p):Q (.ref p) T:=by
 have sub:∀b,ow B (Z++[p]) (ω++[.lst (ds.map .fz)]) b->N b:=λb z=>z.elim (λq=>d b (.inl q)) λq=>(ou s.len q).elim (λq=>d b (.inr q)) λq=>by simp_all
 exact w (Z++[p]) T (SF.W6 s.len e a) (s.W6 e a (by rw[h];simp) ⟨vs,h,mi _ _ (hd.ev (Ev.sub sub))⟩) (.ref p) ⟨p,by rw[<-s.len];exact aM,rfl⟩
theorem A6(s:Rj B K H Z ω)(w:WS K E B H Z ω (PQ B K Q) (jD ω rv)):Fin (ow B Z ω) K H Q rv:=by
 cases rv with
 |fz d=>exact λv T e a=>w Z T (SF.same e) (s.grow e) v a
 |ow ds=>exact λp vs T e f h a=>pP s w e f h a (λb z=>.inl z) (.inr rfl)
def af(f:FE):cR:=λρ ω=>match f (bV ρ)with
 |.ok (.fz d,_)=>.ok (.fz d) ω
 |.ok (.ow ds,_)=>jD ω (.ow ds)
 |.ok (.pl _,_)=>.bad
 |.er x=>.er x ω
 |.bad=>.bad
theorem ug(h:EO K E t f):dr K E t (af f):=by
 intro B X H Z ω ρ Q s g w;refine h (ow B Z ω) H (ow B Z ω) X H (bV ρ) Q (AM s g) ?_;unfold af at w;cases q:f (bV ρ)with
 |bad=>rw[q]at w;exact w.elim
 |er x=>rw[q]at w;exact λc dx T e k=>w c dx Z T (SF.same e) (s.grow e) k
 |ok r=>
  obtain⟨pv,b⟩:=r;rw[q]at w;intro N v T e R p;cases pv with
  |fz d=>exact w Z T (SF.same R.same) (s.grow R.same) v (DV.ev (Ev.sub R.bo) p)
  |ow ds=>obtain⟨a,vs,rfl,n,m,l,j,o⟩:=p;exact pP s w R.same m l j R.bo n
  |pl i=>exact w.elim
def aH(f:FT):oa:=λρ ω=>match f (bV ρ)with
 |.ok (b,_)=>.ok b ω
 |.er x=>.er x ω
 |.bad=>.bad
theorem B9(h:Xs K E t f):tK K E t (aH f):=by
 intro B X H Z ω ρ Q s d w;refine h (ow B Z ω) H (ow B Z ω) X H (bV ρ) Q (AM s d) ?_;unfold aH at w;cases q:f (bV ρ)with
 |bad=>rw[q]at w;exact w.elim
 |er x=>rw[q]at w;exact λc dx T e k=>w c dx Z T (SF.same e) (s.grow e) k
 |ok r=>obtain⟨b,a⟩:=r;rw[q]at w;exact λN T e R=>w Z T (SF.same R.same) (s.grow R.same)
def aq(i:Nat):cR:=λρ ω=>match ρ[i]? with
 |some (cL x)=>.ok x ω
 |_=>.bad
theorem Fp:dr K E (u7 i) (aq i):=by
 intro B X H Z ω ρ Q s a w;unfold aq at w;cases q:ρ[i]? with
 |none=>rw[q]at w;exact w.elim
 |some o=>
  cases o with
  |none=>rw[q]at w;exact w.elim
  |some x=>rw[q]at w;obtain⟨v,d,b⟩:=a.2 i x q;exact⟨v,d,WS.now s w v b⟩
def lX(K:Bn)(C:Str)(fs:bb Str):Prop:=∃Ca,RA K Rk C=cL (cL (.ref Ca))/\XN K Ca/\∀f∈fs,U4 K Ca f
def bE(C f:Str)(e:cR):cR:=λρ ω=>(e ρ ω).bind λx ω1=>match x with
 |.rf i=>(match ω1[i]? with
  |some (.obj D fs)=>if D=C then RS.RK ω1 (fs.lookup f)else .bad
  |_=>.bad)
 |_=>.bad
theorem zL:∀{ws:bb (Str×V)} {fs:bb (Str×SV)},Paired (λ(p:Str×V) (q:Str×SV)=>p.1=q.1/\To O K H Z p.2 q.2) ws fs->fs.lookup f=cL x->∃v,ws.lookup f=cL v/\To O K H Z v x:=by
 intro ws fs p
 induction p with
 |nil=>intro h;cases h
 | @cons a b _ _ q t ih=>
  obtain⟨a,v⟩:=a;obtain⟨b,y⟩:=b;obtain⟨e,d⟩:=q;intro h;cases e;rw[Rx]at h⊢;split at h
  .cases h;exact⟨v,rfl,d⟩
  .exact ih h
theorem zQ:∀{ws:bb (Str×V)} {fs:bb (Str×SV)},Paired (λ(p:Str×V) (q:Str×SV)=>p.1=q.1/\To O K H Z p.2 q.2) ws fs->fs.lookup f=lD->ws.lookup f=lD:=by
 intro ws fs p
 induction p with
 |nil=>intro h;rfl
 | @cons a b _ _ q t ih=>
  obtain⟨a,v⟩:=a;obtain⟨b,y⟩:=b;obtain⟨d,e⟩:=q;intro h;cases d;rw[Rx]at h⊢;split at h
  .cases h
  .exact ih h
theorem Fq(o:lX K C L)(n:f∈L)(ha:dr K E ta fa):dr K E (MR K ta f) (bE C f fa):=by
 intro B X H Z ω ρ Q s h w;refine ha B X H Z ω ρ _ s h (w.bind.imp λx Y ω1 U e1 e b v j=>?_);cases x with
 |fz d=>exact b.elim
 |tp l=>exact b.elim
 |rf i=>
  obtain⟨a,ha,rfl⟩:=j;dsimp only at b;cases q:ω1[i]? with
  |none=>rw[q]at b;exact b.elim
  |some c=>
   rw[q]at b;cases c with
   |obj D fs=>
    dsimp only at b;by_cases z:D=C
    .subst z
     rw[ax rfl]at b;obtain⟨F,dx,ws,t,r,p⟩:=e.V4 i a _ ha q;cases ql:fs.lookup f with
     |none=>rw[ql]at b;exact b.elim
     |some x=>rw[ql]at b;obtain⟨u,m,g⟩:=zL p ql;obtain⟨G,g0,A,y⟩:=o;rw[t]at g0;cases g0;exact⟨a,F,dx,ws,u,rfl,r,A,y f n,m,WS.now e b u g⟩
    .rw[a3 z]at b;exact b.elim
   |_=>exact b.elim
def aD{Z a:Type}(f:Z->bg a):bb Z->bg (bb a)
 |[]=>cL []
 |x::r=>match f x with
  |some y=>(match aD f r with
   |some b=>cL (y::b)
   |none=>lD)
  |none=>lD
def mK:Nat->aW->SV->bg D
 |_,_,.fz d=>cL d
 |0,_,_=>lD
 |n+1,ω,.rf i=>match ω[i]? with
  |some (.lst xs)=>(aD (mK n ω) xs).map .list
  |_=>lD
 |n+1,ω,.tp l=>(aD (λx=>mK n ω x.sv) l).map .tuple
theorem c7{Z a:Type}{f:Z->bg a}{R:V->Z->Prop}{S:V->a->Prop}(h:∀v x y,R v x->f x=cL y->S v y):∀{vs:bb V} {xs:bb Z} {ys:bb a},Paired R vs xs->aD f xs=cL ys->Paired S vs ys
 |_,_,_,.nil,e=>by cases e;exact .nil
 |_,_,_,.cons (b:=x) (l₂:=xs) r t,e=>by
  unfold aD at e;cases q:f x with
  |none=>simp_all
  |some y=>
   rw[q]at e;dsimp only at e;cases q2:aD f xs with
   |none=>simp_all
   |some ys=>rw[q2]at e;cases e;exact .cons (h _ _ _ r q) (c7 h t q2)
theorem kJ:∀{vs:bb V} {ds:bb D},Paired (DV O K H) vs ds->Ss O K H vs ds:=by
 intro _ _ p
 induction p with
 |nil=>exact .nil
 |cons h t a=>exact .cons h a
theorem IG:Ev O H Xb H:=Ev.sub λ_ z=>z.elim
theorem jf(s:Rj B K H Z ω):∀(n:Nat) {v:V} {x:SV} {d:D},To (ow B Z ω) K H Z v x->mK n ω x=cL d->DV Xb K H v d
 |n,v,.fz d',d,h,e=>by
  have g:cL d'=cL d:=by cases n<;>exact e
  cases g;exact DV.ev IG h
 |0,v,.rf i,d,h,e=>by cases e
 |0,v,.tp l,d,h,e=>by cases e
 |n+1,v,.rf i,d,h,e=>by
  obtain⟨a,ha,rfl⟩:=h;unfold mK at e;cases q:ω[i]? with
  |none=>simp_all
  |some c=>
   rw[q]at e;cases c with
   |lst xs=>
    dsimp only at e;cases q2:aD (mK n ω) xs with
    |none=>simp_all
    |some ds=>rw[q2]at e;cases e;obtain⟨vs,f,b⟩:=s.V4 i a _ ha q;exact .lst ⟨Ue.of f,λz=>z.elim⟩ (kJ (c7 (R:=To (ow B Z ω) K H Z) (λv x y r e=>jf s n r e) b q2))
   |_=>cases e
 |n+1,v,.tp l,d,h,e=>by
  obtain⟨a,xs,rfl,f,b⟩:=h;unfold mK at e;cases q2:aD (λx=>mK n ω x.sv) l with
  |none=>simp_all
  |some ds=>rw[q2]at e;cases e;exact .tup (f.ev IG) (kJ (c7 (λv x y r e=>jf s n (by cases x<;>exact r) e) b q2))
def rM:SV->bg D
 |.fz d=>cL d
 |_=>lD
def sh(ω:aW):SV->bg D
 |.fz d=>cL d
 |.rf i=>match ω[i]? with
  |some (.lst xs)=>(aD rM xs).map .list
  |_=>lD
 |.tp _=>lD
theorem Ds(s:Rj B K H Z ω)(h:To (ow B Z ω) K H Z v x)(e:sh ω x=cL d):DX (ow B Z ω) K H v d:=by
 cases x with
 |fz g=>cases e;exact DV.x h
 |tp l=>cases e
 |rf i=>
  obtain⟨a,ha,rfl⟩:=h;unfold sh at e;dsimp only at e;cases q:ω[i]? with
  |none=>simp_all
  |some c=>
   rw[q]at e;cases c with
   |lst xs=>
    dsimp only at e;cases q2:aD rM xs with
    |none=>simp_all
    |some ds=>
     rw[q2]at e;cases e;obtain⟨vs,f,b⟩:=s.V4 i a _ ha q;refine⟨a,vs,rfl,Ue.of f,kJ (c7 (λv x y r e=>?_) b q2)⟩;cases x with
     |fz d=>cases e;exact r
     |rf i=>cases e
     |tp l=>cases e
   |_=>cases e
def t8:D->Bool
 |.none=>QM
 |.bool _=>QM
 |.int _=>QM
 |.str _=>QM
 |_=>QP
theorem GK(h:t8 d=QM)(a:DV O K H v d):DV N K T v d:=by
 cases a with
 |TF=>exact .TF
 |bl b=>exact .bl b
 |int i=>exact .int i
 |str x=>exact .str x
 |tup _ _=>cases h
 |lst _ _=>cases h
def lg(ω:aW):RV->RS SV
 |.fz d=>if t8 d=QM then .ok (.fz d) ω else .bad
 |.ow _=>.bad
theorem Be(s:Rj B K H Z ω)(w:WS K E B H Z ω (PQ B K Q) (lg ω rv)):Fin Xb K H Q rv:=by
 cases rv with
 |fz d=>
  have w:WS K E B H Z ω (PQ B K Q) (if t8 d=QM then RS.ok (SV.fz d) ω else RS.bad):=w;by_cases z:t8 d=QM
  .rw[ax z]at w;exact λv T e a=>w Z T (SF.same e) (s.grow e) v (GK z a)
  .rw[a3 z]at w;exact w.elim
 |ow ds=>exact w.elim
theorem DJ:l8 Xb H:=λ_ _ z=>z
def kX(f:D->D->bg RV)(x y:SV)(ω:aW):RS SV:=match sh ω x,sh ω y with
 |some dx,cL b=>(RS.RK ω (f dx b)).bind λrv ω1=>jD ω1 rv
 |_,_=>(RS.RK ω (mK 6 ω x)).bind λdx ω1=>(RS.RK ω1 (mK 6 ω1 y)).bind λb ω2=>(RS.RK ω2 (f dx b)).bind λrv a=>lg a rv
theorem A1(m:jR K r f)(s:Rj B K H Z ω)(l:To (ow B Z ω) K H Z x a)(j:To (ow B Z ω) K H Z y b)(w:WS K E B H Z ω (PQ B K Q) (kX f a b ω)):r x y H Q:=by
 have n:WS K E B H Z ω (PQ B K Q) ((RS.RK ω (mK 6 ω a)).bind λdx ω1=>(RS.RK ω1 (mK 6 ω1 b)).bind λd ω2=>(RS.RK ω2 (f dx d)).bind λrv h=>lg h rv)->r x y H Q:=λw=>by obtain⟨dx,g,w⟩:=w.RK;obtain⟨d,e,w⟩:=w.RK;obtain⟨rv,i,w⟩:=w.RK;exact m Xb H x y dx d rv Q DJ (DV.x (jf s 6 l g)) (DV.x (jf s 6 j e)) i (Be s w)
 unfold kX at w;cases g:sh ω a with
 |none=>simp_all
 |some dx=>
  cases e:sh ω b with
  |none=>simp_all
  |some d=>rw[g,e]at w;obtain⟨rv,i,w⟩:=w.RK;exact m _ H x y dx d rv Q s.Xb (Ds s l g) (Ds s j e) i (A6 s w)
def g7(f:D->D->bg RV)(fa a:cR):cR:=λρ ω=>(fa ρ ω).bind λx ω1=>(a ρ ω1).bind λy ω2=>kX f x y ω2
theorem AL(j:jR K r f)(ha:dr K E ta fa)(l:dr K E tb fb):dr K E (Eh r ta tb) (g7 f fa fb):=by intro B X H Z ω ρ Q s a w;refine ha B X H Z ω ρ _ s a (w.bind.imp λx Y ω1 U e1 g d v h=>?_);refine l B X U Y ω1 ρ _ g (a.Tr e1) (d.bind.imp λy J ω2 H2 e2 e b u i=>?_);exact A1 j e (h.Tr e2) i b
def E1:SV->bg Bool
 |.fz (.bool b)=>cL b
 |_=>lD
theorem Gc(e:E1 x=cL b)(h:To O K H Z v x):v=.bl b:=by
 unfold E1 at e;split at e
 .cases e;cases h;rfl
 .cases e
def aO(fa:cR):oa:=λρ ω=>(fa ρ ω).bind λx ω1=>RS.RK ω1 (E1 x)
theorem lL(ha:dr K E ta fa):tK K E (qV ta) (aO fa):=by
 intro B X H Z ω ρ Q s d w;refine ha B X H Z ω ρ _ s d (w.bind.imp λx Y ω1 U e1 e a v f=>?_);cases q:E1 x with
 |none=>rw[q]at a;exact a.elim
 |some b=>rw[q]at a;exact⟨b,Gc q f,WS.now e a⟩
theorem Ic(ha:dr K E ta fa):tK K E (tB ta) (aO fa):=lL ha
def gq(fa a:oa):oa:=λρ ω=>(fa ρ ω).bind λb ω1=>if b=QM then a ρ ω1 else .ok QP ω1
def uU(fa a:oa):oa:=λρ ω=>(fa ρ ω).bind λb ω1=>if b=QM then .ok QM ω1 else a ρ ω1
def mC(fa:oa):oa:=λρ ω=>(fa ρ ω).bind λb ω1=>.ok (!b) ω1
theorem FQ(i:tK K E t f)(h:tK K E u g):tK K E (J5 t u) (gq f g):=by
 intro B X H Z ω ρ Q s d w;refine i B X H Z ω ρ _ s d (w.bind.imp λb Y ω1 U e1 e a=>?_);cases b with
 |true=>exact h B X U Y ω1 ρ Q e (d.Tr e1) a
 |false=>exact WS.now e a
theorem Lg(i:tK K E t f)(h:tK K E u g):tK K E (Pp t u) (uU f g):=by
 intro B X H Z ω ρ Q s d w;refine i B X H Z ω ρ _ s d (w.bind.imp λb Y ω1 U e1 e a=>?_);cases b with
 |true=>exact WS.now e a
 |false=>exact h B X U Y ω1 ρ Q e (d.Tr e1) a
theorem G9(g:tK K E t f):tK K E (Ho t) (mC f):=by intro B X H Z ω ρ Q s d w;exact g B X H Z ω ρ _ s d (w.bind.imp λb Y ω1 U e1 e a=>WS.now e a)
def jU:oa:=λ_ ω=>.ok QM ω
theorem A5:tK K E Di jU:=λB X H Z ω ρ Q s a w=>WS.now s w
def u8(fa a:cR):cR:=λρ ω=>(aO fa ρ ω).bind λb ω1=>if b=QM then a ρ ω1 else .ok (.fz (.bool QP)) ω1
def Oy(fa a:cR):cR:=λρ ω=>(aO fa ρ ω).bind λb ω1=>if b=QM then .ok (.fz (.bool QM)) ω1 else a ρ ω1
theorem Fk(ha:dr K E ta fa)(f:dr K E tb fb):dr K E (IV ta tb) (u8 fa fb):=by
 intro B X H Z ω ρ Q s d w;refine lL ha B X H Z ω ρ (λc U=>if c=QM then tb X U Q else Q (.bl QP) U) s d (w.bind.imp λb Y ω1 U e1 e a=>?_);cases b with
 |true=>exact f B X U Y ω1 ρ Q e (d.Tr e1) a
 |false=>exact WS.now e a _ (.bl QP)
theorem KO(ha:dr K E ta fa)(f:dr K E tb fb):dr K E (N7 ta tb) (Oy fa fb):=by
 intro B X H Z ω ρ Q s d w;refine lL ha B X H Z ω ρ (λc U=>if c=QM then Q (.bl QM) U else tb X U Q) s d (w.bind.imp λb Y ω1 U e1 e a=>?_);cases b with
 |true=>exact WS.now e a _ (.bl QM)
 |false=>exact f B X U Y ω1 ρ Q e (d.Tr e1) a
def IM(c:oa)(fa a:cR):cR:=λρ ω=>(c ρ ω).bind λb ω1=>if b=QM then fa ρ ω1 else a ρ ω1
theorem Kz(f:tK K E t c)(ha:dr K E ta fa)(g:dr K E tb fb):dr K E (Oo t ta tb) (IM c fa fb):=by
 intro B X H Z ω ρ Q s a w;refine f B X H Z ω ρ _ s a (w.bind.imp λb Y ω1 U e1 e d=>?_);cases b with
 |true=>exact ha B X U Y ω1 ρ Q e (a.Tr e1) d
 |false=>exact g B X U Y ω1 ρ Q e (a.Tr e1) d
def aF:xp:=λ_ ω=>.ok [] ω
def aj(fa:cR)(a:xp):xp:=λρ ω=>(fa ρ ω).bind λx ω1=>(a ρ ω1).bind λxs ω2=>.ok (x::xs) ω2
theorem wX:zC K E kx aF:=λB X H Z ω ρ Q s a w=>WS.now s w [] .nil
theorem Ak(ha:dr K E ta fa)(h:zC K E tr fr):zC K E (iC ta tr) (aj fa fr):=by intro B X H Z ω ρ Q s a w;refine ha B X H Z ω ρ _ s a (w.bind.imp λx Y ω1 U e1 f d v g=>?_);refine h B X U Y ω1 ρ _ f (a.Tr e1) (d.bind.imp λxs J ω2 H2 e2 e b vs i=>?_);exact WS.now e b (v::vs) (.cons (g.Tr e2) i)
def Ou:SV->bg AV
 |.fz d=>cL (.fz d)
 |.rf i=>cL (.rf i)
 |.tp _=>lD
def Os(xs:bb SV):bg SV:=match aD rM xs with
 |some ds=>cL (.fz (.tuple ds))
 |none=>(aD Ou xs).map .tp
def jk(fa:xp):cR:=λρ ω=>(fa ρ ω).bind λxs ω1=>if xs.length<=1000 then RS.RK ω1 (Os xs)else .bad
theorem wj(r:To O K H Z v x)(e:rM x=cL d):DV O K H v d:=by
 cases x with
 |fz d=>cases e;exact r
 |rf i=>cases e
 |tp l=>cases e
theorem Lm(r:To O K H Z v x)(e:Ou x=cL d):Yb O K H Z v d:=by
 cases x with
 |fz d=>cases e;exact r
 |rf i=>cases e;exact r
 |tp l=>cases e
theorem FZ(ha:zC K E ta fa):dr K E (E8 ta) (jk fa):=by
 intro B X H Z ω ρ Q s j w;refine ha B X H Z ω ρ _ s j (w.bind.imp λxs Y ω1 U e1 d a vs f=>?_);by_cases hn:xs.length<=1000
 .rw[ax hn]at a
  refine⟨by rw[f.length];exact wy hn,λp i=>?_⟩;have b:Sv U (bf U p (.tup vs)):=bO i _;have e:SF Y ω1 U Y ω1 (bf U p (.tup vs)):=SF.same b;have h:UN (ow B Y ω1) K (bf U p (.tup vs)) p vs:=⟨UG.of aE,λz=>a7 z (d.Xb p i)⟩;unfold Os at a;cases q:aD rM xs with
  |some ds=>rw[q]at a;exact a Y _ e (d.grow b) _ (.tup h (kJ (c7 (R:=To (ow B Y ω1) K U Y) (λv x y r g=>(wj r g).ev e.ev) f q)))
  |none=>
   rw[q]at a;dsimp only at a;cases q2:aD Ou xs with
   |none=>rw[q2]at a;exact a.elim
   |some l=>rw[q2]at a;exact a Y _ e (d.grow b) _ ⟨p,vs,rfl,h,c7 (R:=To (ow B Y ω1) K U Y) (λv x y r g=>(Lm r g).ev e.ev e.pre) f q2⟩
 .rw[a3 hn]at a;exact a.elim
def FX(f:bb D->bg RV)(xs:bb SV)(ω:aW):RS SV:=match aD (sh ω) xs with
 |some ds=>(RS.RK ω (f ds)).bind λrv ω1=>jD ω1 rv
 |_=>(RS.RK ω (aD (mK 6 ω) xs)).bind λds ω1=>(RS.RK ω1 (f ds)).bind λrv a=>lg a rv
def z7(f:bb D->bg RV)(fa:xp):cR:=λρ ω=>(fa ρ ω).bind λxs ω1=>FX f xs ω1
theorem K7(h:vt K r f)(ha:zC K E ta fa):dr K E (zY r ta) (z7 f fa):=by
 intro B X H Z ω ρ Q s i w;refine ha B X H Z ω ρ _ s i (w.bind.imp λxs Y ω1 U e1 b a vs g=>?_);unfold FX at a;cases q1:aD (sh ω1) xs with
 |none=>rw[q1]at a;obtain⟨ds,j,a⟩:=a.RK;obtain⟨rv,d,a⟩:=a.RK;exact h Xb U vs ds rv Q DJ (c7 (R:=To (ow B Y ω1) K U Y) (λv x y r e=>DV.x (jf b 6 r e)) g j) d (Be b a)
 |some ds=>rw[q1]at a;obtain⟨rv,d,a⟩:=a.RK;exact h _ U vs ds rv Q b.Xb (c7 (R:=To (ow B Y ω1) K U Y) (λv x y r e=>Ds b r e) g q1) d (A6 b a)
end
section
variable{B O O':bS}{K:Bn}{E:XK}{H L S M:Hp}{Z N X U:bb QT}{ω Y ω1 ω2:aW}{T:L2.St}{ρ:aZ}{v:V}
theorem wk:∀{vs:bb V} {xs:bb β} {i:Nat} {x:β},Paired R vs xs->xs[i]?=cL x->∃v,vs[i]?=cL v/\R v x
 |_,_,_,_,.nil,e=>by simp at e
 |_,_,0,_,.cons h _,e=>by simp_all
 |_,_,i+1,x,.cons _ t,e=>by obtain⟨v,b,a⟩:=wk t (by simpa using e);simp_all
theorem Ii{vs:bb V}(h:Paired R vs xs)(e:kY xs i=cL x):∃v,kY vs i=cL v/\R v x:=by
 unfold kY at e⊢;rw[h.length];cases q:IT xs.length i with
 |none=>simp_all
 |some j=>rw[q]at e;exact wk h e
def FJ:SV->bg Int
 |.fz (.int i)=>cL i
 |_=>lD
theorem x5(e:FJ x=cL i)(h:To O K H Z v x):v=.int i:=by
 unfold FJ at e;split at e
 .cases e;cases h;rfl
 .cases e
def N9(x y:SV)(ω:aW):RS SV:=match x with
 |.fz _=>kX aC x y ω
 |.rf j=>(match ω[j]? with
  |some (.lst xs)=>(RS.RK ω (FJ y)).bind λi ω1=>RS.RK ω1 (kY xs i)
  |_=>.bad)
 |.tp l=>(RS.RK ω (FJ y)).bind λi ω1=>RS.RK ω1 ((kY l i).map AV.sv)
def iK(fa a:cR):cR:=λρ ω=>(fa ρ ω).bind λx ω1=>(a ρ ω1).bind λy ω2=>N9 x y ω2
theorem K6(ha:dr K E ta fa)(C:dr K E tb fb):dr K E (Eh (MQ K) ta tb) (iK fa fb):=by
 intro B T H Z ω ρ Q s r w;refine ha B T H Z ω ρ _ s r (w.bind.imp λx X ω1 S e1 A t v e=>?_);refine C B T S X ω1 ρ _ A (r.Tr e1) (t.bind.imp λy U ω2 M e2 f b u n=>?_);have e:=e.Tr e2;unfold N9 at b;cases x with
 |fz d=>exact A1 B4 f e n b
 |rf j=>
  obtain⟨a,ha,rfl⟩:=e;dsimp only at b;cases q:ω2[j]? with
  |none=>rw[q]at b;exact b.elim
  |some c=>
   rw[q]at b;cases c with
   |lst xs=>
    obtain⟨i,h,b⟩:=WS.RK b;cases qa:kY xs i with
    |none=>rw[qa]at b;exact b.elim
    |some x=>rw[qa]at b;obtain⟨vs,p,o⟩:=f.V4 j a _ ha q;obtain⟨z,m,g⟩:=Ii o qa;exact .inl ⟨a,vs,i,z,rfl,x5 h n,Uq.of p,m,WS.now f b z g⟩
   |_=>exact b.elim
 |tp l=>
  obtain⟨a,xs,rfl,p,o⟩:=e;obtain⟨i,h,b⟩:=WS.RK b;cases qa:kY l i with
  |none=>rw[qa]at b;exact b.elim
  |some x=>rw[qa]at b;obtain⟨z,m,g⟩:=Ii o qa;exact .inr (.inl ⟨a,xs,i,z,rfl,x5 h n,p.1,m,WS.now f b z (by cases x<;>exact g)⟩)
theorem nH(h:Lv Z (ω.set i .dead) b):Lv Z ω b:=by
 obtain⟨j,c,e,a,d⟩:=h;rcases bL a with⟨rfl,rfl⟩|⟨_,a⟩
 .simp_all
 .exact⟨j,c,e,a,d⟩
theorem SF.kill:SF Z ω H Z (ω.set i .dead) H:=⟨λ_ _ h=>h,λ_ _ h _=>h,λ_ h=>.inl (nH h)⟩
theorem Rj.kill(s:Rj B K H Z ω)(i:Nat):Rj B K H Z (ω.set i .dead):=by
 have e:SF Z ω H Z (ω.set i .dead) H:=SF.kill;refine⟨by rw[RU];exact s.len,s.nd,s.bn,s.ba,s.al,λj b d f a=>?_⟩;rcases bL a with⟨rfl,rfl⟩|⟨g,a⟩
 .exact trivial
 .exact(s.V4 j b d f a).ev e.ev e.pre λu q=>q
theorem Rj.Yx(s:Rj B K H Z ω)(ha:Z[i]?=cL a):¬ow B Z (ω.set i .dead) a:=by
 rintro(z|⟨j,c,e,d,b⟩)
 .exact s.Y4 ha z
 .have:=s.nd j i a e ha
  subst this;rcases bL d with⟨_,rfl⟩|⟨f,_⟩
  .exact b rfl
  .exact f rfl
def p9(g:aW->SV->bg (D×aW)):aW->bb SV->bg (bb D×aW)
 |ω,[]=>cL ([],ω)
 |ω,x::r=>match g ω x with
  |some (d,ω1)=>(match p9 g ω1 r with
   |some (ds,ω2)=>cL (d::ds,ω2)
   |none=>lD)
  |none=>lD
def frz:Nat->aW->SV->bg (D×aW)
 |_,ω,.fz d=>cL (d,ω)
 |0,_,_=>lD
 |n+1,ω,.rf i=>match ω[i]? with
  |some (.lst xs)=>(match p9 (frz n) ω xs with
   |some (ds,ω1)=>cL (.list ds,ω1.set i .dead)
   |none=>lD)
  |_=>lD
 |n+1,ω,.tp l=>match p9 (frz n) ω (l.map AV.sv)with
  |some (ds,ω1)=>cL (.tuple ds,ω1)
  |none=>lD
theorem rQ(a:∀{ω Y:aW} {v:V} {x:SV} {d:D},Rj B K H Z ω->To (ow B Z ω) K H Z v x->g ω x=cL (d,Y)->Rj B K H Z Y/\SF Z ω H Z Y H/\L3.DV (ow B Z Y) K H v d):
  ∀{vs:bb V} {xs:bb SV} {ds:bb D} {ω Y:aW},Rj B K H Z ω->Tv (ow B Z ω) K H Z vs xs->p9 g ω xs=cL (ds,Y)->Rj B K H Z Y/\SF Z ω H Z Y H/\L3.Ss (ow B Z Y) K H vs ds
 |_,_,_,ω,Y,s,.nil,e=>by cases e;exact⟨s,.refl,.nil⟩
 |_,_,_,ω,Y,s,.cons (b:=x) (l₂:=xs) r t,e=>by
  unfold p9 at e;cases q:g ω x with
  |none=>simp_all
  |some p=>
   obtain⟨d,ω1⟩:=p;rw[q]at e;dsimp only at e;obtain⟨h,e1,l⟩:=a s r q;cases q2:p9 g ω1 xs with
   |none=>simp_all
   |some i=>obtain⟨ds,ω2⟩:=i;rw[q2]at e;cases e;obtain⟨f,e2,j⟩:=rQ a h (Tv.Tr e1 t) q2;exact⟨f,e1.trans e2,.cons (l.ev e2.ev) j⟩
theorem tq:∀{vs:bb V} {l:bb AV},Paired (Yb O K H Z) vs l->Tv O K H Z vs (l.map AV.sv)
 |_,_,.nil=>.nil
 |_,_,.cons (b:=x) h t=>.cons (by cases x<;>exact h) (tq t)
theorem tP:∀(n:Nat) {ω Y:aW} {v:V} {x:SV} {d:D},Rj B K H Z ω->To (ow B Z ω) K H Z v x->frz n ω x=cL (d,Y)->Rj B K H Z Y/\SF Z ω H Z Y H/\L3.DV (ow B Z Y) K H v d
 |n,ω,Y,v,.fz d',d,s,h,e=>by
  have m:cL (d',ω)=cL (d,Y):=by cases n<;>exact e
  cases m;exact⟨s,.refl,h⟩
 |0,_,_,v,.rf i,d,s,h,e=>by cases e
 |0,_,_,v,.tp l,d,s,h,e=>by cases e
 |n+1,ω,Y,v,.rf i,d,s,h,e=>by
  obtain⟨a,ha,rfl⟩:=h;unfold frz at e;cases q:ω[i]? with
  |none=>simp_all
  |some c=>
   rw[q]at e;cases c with
   |lst xs=>
    dsimp only at e;obtain⟨vs,g,f⟩:=s.V4 i a _ ha q;cases q2:p9 (frz n) ω xs with
    |none=>simp_all
    |some p=>obtain⟨ds,ω1⟩:=p;rw[q2]at e;cases e;obtain⟨b,e1,j⟩:=rQ (λs h e=>tP n s h e) s f q2;exact⟨b.kill i,e1.trans SF.kill,rR g (b.Yx ha) (j.ev (SF.kill).ev)⟩
   |_=>cases e
 |n+1,ω,Y,v,.tp l,d,s,h,e=>by
  obtain⟨a,xs,rfl,g,f⟩:=h;unfold frz at e;cases q2:p9 (frz n) ω (l.map AV.sv)with
  |none=>simp_all
  |some p=>obtain⟨ds,ω1⟩:=p;rw[q2]at e;cases e;obtain⟨b,e1,j⟩:=rQ (λs h e=>tP n s h e) s (tq f) q2;exact⟨b,e1,.tup (g.ev e1.ev) j⟩
def Jo(x:SV)(ω:aW):RS SV:=match frz 4 ω x with
 |some (d,ω1)=>.ok (.fz d) ω1
 |none=>.bad
def qA(f:cR):cR:=λρ ω=>(f ρ ω).bind λx ω1=>Jo x ω1
theorem yu(h:dr K E t f):dr K E t (qA f):=by
 intro B T H Z ω ρ Q s b w;refine h B T H Z ω ρ _ s b (w.bind.imp λx X ω1 S e1 g a v i=>?_);unfold Jo at a;cases q:frz 4 ω1 x with
 |none=>rw[q]at a;exact a.elim
 |some p=>obtain⟨d,ω2⟩:=p;rw[q]at a;obtain⟨e,e2,j⟩:=tP 4 g i q;exact a X S e2 e v j
theorem Y7.sub(h:∀b,O' b->O b)(k:Y7 K O H c dx x):Y7 K O' H c dx x:=by obtain⟨i,fs,g,a⟩:=k;exact⟨i,fs,g,λf d e=>let⟨g1,v,g2,g3⟩:=a f d e;⟨g1,v,g2,g3.ev (Ev.sub h)⟩⟩
def uG(F:FN)(n:Nat)(xs:bb SV)(ω:aW):RS SV:=if xs.length=n then(match aD rM xs with
 |some ds=>(match F ds with
  |.ok rv=>jD ω rv
  |.er x=>.er x ω
  |.bad=>.bad)
 |none=>(RS.RK ω (aD (mK 6 ω) xs)).bind λds ω1=>(match F ds with
  |.ok rv=>lg ω1 rv
  |_=>.bad))else .bad
def iV:RS A->RS A
 |.er _ _=>.bad
 |r=>r
def ie(F:FN)(n:Nat)(fa:xp):cR:=λρ ω=>(fa ρ ω).bind λxs ω1=>iV (uG F n xs ω1)
theorem WS.e0(h:WS K E B H Z ω P (iV r)):WS K E0 B H Z ω P r:=by
 cases r with
 |ok a ω=>exact h
 |er x ω=>exact h.elim
 |bad=>exact h
theorem Ff(s:Rj B K H Z ω)(b:Tv (ow B Z ω) K H Z vs xs)(w:WS K E B H Z ω (PQ B K Q) (uG F n xs ω)):zP K n F vs H Q E:=by
 unfold uG at w;by_cases hn:xs.length=n
 .rw[ax hn]at w
  refine⟨b.length.trans hn,?_⟩;cases q:aD rM xs with
  |some ds=>
   rw[q]at w;refine⟨ow B Z ω,ds,s.owd,kJ (c7 (R:=To (ow B Z ω) K H Z) (λv x y r e=>wj r e) b q),?_⟩;dsimp only at w;cases qF:F ds with
   |ok rv=>rw[qF]at w;exact A6 s w
   |er x=>rw[qF]at w;exact λc dx L e k=>w c dx Z L (SF.same e) (s.grow e) k
   |bad=>rw[qF]at w;exact w.elim
  |none=>
   rw[q]at w;obtain⟨ds,d,w⟩:=WS.RK w;refine⟨Xb,ds,λa z=>z.elim,kJ (c7 (R:=To (ow B Z ω) K H Z) (λv x y r e=>jf s 6 r e) b d),?_⟩;cases qF:F ds with
   |ok rv=>rw[qF]at w;exact Be s w
   |er x=>rw[qF]at w;exact w.elim
   |bad=>rw[qF]at w;exact w.elim
 .rw[a3 hn]at w;exact w.elim
theorem Es(ha:zC K E ta fa):dr K E (rA (zP K n F) [] E0 ta) (ie F n fa):=by intro B T H Z ω ρ Q s b w;refine ha B T H Z ω ρ _ s b (w.bind.imp λxs X ω1 S e1 d a vs e=>?_);rw[Ru];exact Ff d e (WS.e0 a)
abbrev g9:=bb SV->aW->RS SV
def se(K:Bn)(n:Nat)(F:g9):Sp:=λvs H Q E=>vs.length=n/\∃(B:bS) (Z:bb QT) (ω:aW) (xs:bb SV),Rj B K H Z ω/\Tv (ow B Z ω) K H Z vs xs/\WS K E B H Z ω (PQ B K Q) (F xs ω)
def cw(F:g9)(n:Nat)(fa:xp):cR:=λρ ω=>(fa ρ ω).bind λxs ω1=>if xs.length=n then iV (F xs ω1)else .bad
theorem zF(ha:zC K E ta fa):dr K E (rA (se K n F) [] E0 ta) (cw F n fa):=by
 intro B T H Z ω ρ Q s d w;refine ha B T H Z ω ρ _ s d (w.bind.imp λxs X ω1 S e1 e a vs b=>?_);rw[Ru];by_cases hn:xs.length=n
 .rw[ax hn]at a;exact⟨b.length.trans hn,B,X,ω1,xs,e,b,WS.e0 a⟩
 .rw[a3 hn]at a;exact a.elim
def rd(ω:aW)(C m:Str):SV->Bool
 |.rf i=>match ω[i]? with
  |some (.obj D fs)=>decide (D=C)&&(fs.lookup m).isNone
  |_=>QP
 |_=>QP
def aP(C m:Str)(F:g9)(n:Nat)(a:cR)(fa:xp):cR:=λρ ω=>(a ρ ω).bind λx ω1=>if rd ω1 C m x=QM then(fa ρ ω1).bind λxs ω2=>(if(x::xs).length=n then iV (F (x::xs) ω2)else .bad)else .bad
theorem LX(f:RA K Rk C=cL (cL (.ref Ca)))(s:Rj B K H Z ω)(b:To (ow B Z ω) K H Z v x)(h:rd ω C m x=QM):∃a dx fs,v=.ref a/\H a=cL (.ins Ca dx fs)/\fs.lookup m=lD:=by
 cases x with
 |fz d=>cases h
 |tp l=>cases h
 |rf i=>
  obtain⟨a,ha,rfl⟩:=b;unfold rd at h;dsimp only at h;cases q:ω[i]? with
  |none=>simp_all
  |some c=>
   rw[q]at h;cases c with
   |obj D fs=>rw[CL]at h;obtain⟨j,g⟩:=h;have e:=a6 j;subst e;obtain⟨p,dx,ws,g0,o,n⟩:=s.V4 i a _ ha q;rw[f]at g0;cases g0;exact⟨a,dx,ws,rfl,o,zQ n (Ui.mp g)⟩
   |_=>cases h
theorem zp(o:RA K Rk C=cL (cL (.ref Ca)))(l:dr K E to fo)(ha:zC K E ta fa):dr K E (ye Ca m (se K n F) [] E0 to ta) (aP C m F n fo fa):=by
 intro B T H Z ω ρ Q s e w;refine l B T H Z ω ρ _ s e (w.bind.imp λx X ω1 S e1 f d v g=>?_);by_cases h:rd ω1 C m x=QM
 .rw[ax h]at d
  obtain⟨a,dx,fs,rfl,q,p⟩:=LX o f g h;refine⟨a,dx,fs,rfl,q,p,?_⟩;refine ha B T S X ω1 ρ _ f (e.Tr e1) (d.bind.imp λxs U ω2 M e2 j b vs r=>?_);rw[Ru];have i:Tv (ow B U ω2) K M U (.ref a::vs) (x::xs):=.cons (g.Tr e2) r;by_cases hn:(x::xs).length=n
  .rw[ax hn]at b;exact⟨i.length.trans hn,B,U,ω2,_,j,i,WS.e0 b⟩
  .rw[a3 hn]at b;exact b.elim
 .rw[a3 h]at d;exact d.elim
def DR:SV->Bool
 |.fz .none=>QM
 |_=>QP
def xw(C:Str)(F:g9)(n:Nat)(xs:bb SV)(ω:aW):RS SV:=if(SV.rf ω.length::xs).length=n then(F (.rf ω.length::xs) (ω++[.obj C []])).bind λr ω2=>(if DR r=QM then .ok (.rf ω.length) ω2 else .bad)else .bad
def ph(C:Str)(F:g9)(n:Nat)(fa:xp):cR:=λρ ω=>(fa ρ ω).bind λxs ω1=>iV (xw C F n xs ω1)
theorem Hc(h:DR x=QM)(a:To O K H Z v x):v=.TF:=by
 unfold DR at h;split at h
 .cases a;rfl
 .cases h
theorem K9(o:RA K Rk C=cL (cL (.ref Ca)))(s:Rj B K H Z ω)(m:Tv (ow B Z ω) K H Z vs xs)(w:WS K E B H Z ω (PQ B K Q) (xw C F n xs ω)):
  ∀x dx,H x=lD->H dx=lD->dx≠x->se K n F (.ref x::(vs++[])) (bf (bf H dx (.own x)) x (.ins Ca dx [])) (λv M=>v=.TF/\Q (.ref x) M) E:=by
 intro x dx b f p;rw[Ru];unfold xw at w;have g:Sv H (bf (bf H dx (.own x)) x (.ins Ca dx [])):=(bO f _).trans (bO (by rw[aJ (λz=>p z.symm)];exact b) _);have e:SF Z ω H (Z++[x]) (ω++[.obj C []]) (bf (bf H dx (.own x)) x (.ins Ca dx [])):=SF.W6 s.len g b;have l:Rj B K (bf (bf H dx (.own x)) x (.ins Ca dx [])) (Z++[x]) (ω++[.obj C []]):=s.W6 g b (by rw[aE];simp) ⟨Ca,dx,[],o,aE,.nil⟩;have i:∀{N:bb QT} {Y:aW} {L:Hp},SF (Z++[x]) (ω++[.obj C []]) (bf (bf H dx (.own x)) x (.ins Ca dx [])) N Y L->To (ow B N Y) K L N (.ref x) (.rf ω.length):=λe=>⟨x,e.pre _ _ (by rw[<-s.len];exact aM),rfl⟩;by_cases hn:(SV.rf ω.length::xs).length=n
 .rw[ax hn]at w
  have h:Tv (ow B (Z++[x]) (ω++[.obj C []])) K (bf (bf H dx (.own x)) x (.ins Ca dx [])) (Z++[x]) (.ref x::vs) (.rf ω.length::xs):=.cons (i .refl) (Tv.Tr e m);refine⟨h.length.trans hn,B,_,_,_,l,h,?_⟩;refine WS.imp (WS.from e w.bind) λr U ω2 M e2 j a v d=>?_;by_cases z:DR r=QM
  .rw[ax z]at a;exact⟨Hc z d,WS.now j a _ (i e2)⟩
  .rw[a3 z]at a;exact a.elim
 .rw[a3 hn]at w;exact w.elim
theorem D9(f:RA K Rk C=cL (cL (.ref Ca)))(ha:zC K E ta fa):dr K E (D8 Ca (se K n F) [] E0 ta) (ph C F n fa):=by intro B T H Z ω ρ Q s b w;refine ha B T H Z ω ρ _ s b (w.bind.imp λxs X ω1 S e1 d a vs e=>?_);exact K9 f d e (WS.e0 a)
def jL(ω:aW):SV->bg (Nat×bb SV)
 |.rf i=>match ω[i]? with
  |some (.lst xs)=>cL (i,xs)
  |_=>lD
 |_=>lD
theorem xa(s:Rj B K H Z ω)(b:To (ow B Z ω) K H Z v x)(h:jL ω x=cL (i,xs)):ω[i]?=cL (.lst xs)/\∃a vs,Z[i]?=cL a/\v=.ref a/\H a=cL (.lst vs)/\Tv (ow B Z ω) K H Z vs xs:=by
 cases x with
 |fz d=>cases h
 |tp l=>cases h
 |rf j=>
  obtain⟨a,ha,rfl⟩:=b;unfold jL at h;dsimp only at h;cases q:ω[j]? with
  |none=>simp_all
  |some c=>
   rw[q]at h;cases c with
   |lst m=>have e:=Ra h;cases e;obtain⟨vs,g,f⟩:=s.V4 i a _ ha q;exact⟨q,a,vs,ha,rfl,g,f⟩
   |_=>cases h
theorem xA(h:Paired R vs xs)(r:R v x):Paired R (vs++[v]) (xs++[x]):=by
 induction h with
 |nil=>exact .cons r .nil
 |cons a _ b=>exact .cons a b
def oK(b fe:cR):cR:=λρ ω=>(b ρ ω).bind λo ω1=>(RS.RK ω1 (jL ω1 o)).bind λ_ ω1=>(fe ρ ω1).bind λx ω2=>(RS.RK ω2 (jL ω2 o)).bind λp a=>
 if p.2.length<1000000 then .ok (.fz .none) (a.set p.1 (.lst (p.2++[x])))else .bad
theorem GR(C:dr K E to fo)(F:dr K E te fe):dr K E (M8 K "list" r9 to (iC te kx)) (oK fo fe):=by
 intro B T H Z ω ρ Q s g w;refine C B T H Z ω ρ _ s g (w.bind.imp λo X ω1 S e1 l d v m=>?_);obtain⟨⟨J,t⟩,y,d⟩:=WS.RK d;obtain⟨_,p,e,_,rfl,g0,_⟩:=xa l m y;refine⟨.inl ⟨rfl,e,Uq.of g0⟩,?_⟩;refine F B T S X ω1 ρ _ l (g.Tr e1) (d.bind.imp λx U ω2 M e2 j b u A=>?_);obtain⟨⟨i,xs⟩,q,b⟩:=WS.RK b;obtain⟨f,a,vs,ha,I,G,n⟩:=xa j (m.Tr e2) q;cases I;dsimp only at b;by_cases hn:xs.length<1000000
 .rw[ax hn]at b;have ev:Ev (ow B U ω2) M (ow B U ω2) (bf M p (.lst (vs++[u]))):=sA ha f (by nofun);refine⟨p,vs,u,rfl,rfl,G,vj (by rw[n.length];exact hn),?_⟩;exact b U _ (SF.put ha f (by nofun) (by nofun)) (j.put ha f (by nofun) (by nofun) ⟨_,aE,xA (Paired.TU n λ_ _ r=>r.ev ev λ_ _ h=>h) (A.ev ev λ_ _ h=>h)⟩) _ .TF
 .rw[a3 hn]at b;exact b.elim
end
inductive FlS where
 |nx (ρ:aZ)
 |bk (ρ:aZ)
 |ct (ρ:aZ)
 |rt (x:SV)
abbrev fw:=aZ->aW->RS FlS
abbrev tG:=SV->aZ->aW->RS aZ
abbrev ze:=bb SV->aZ->aW->RS aZ
def AC(B:bS)(K:Bn)(D:Ends):FlS->bb QT->aW->Hp->Prop
 |.nx ρ,α,ω,H=>∀σ,Tq (ow B α ω) K H α σ ρ->D.nx σ H
 |.bk ρ,α,ω,H=>∀σ,Tq (ow B α ω) K H α σ ρ->D.bk σ H
 |.ct ρ,α,ω,H=>∀σ,Tq (ow B α ω) K H α σ ρ->D.ct σ H
 |.rt x,α,ω,H=>∀v,To (ow B α ω) K H α v x->D.rt v H
def ti(K:Bn)(E:XK)(t:TS)(g:fw):Prop:=
 ∀(B:bS) (a:L2.St) (H:Hp) (α:bb QT) (ω:aW) (ρ:aZ) (D:Ends),Rj B K H α ω->Tq (ow B α ω) K H α a ρ->WS K E B H α ω (AC B K D) (g ρ ω)->t D a H
def Ei(K:Bn)(E:XK)(g:TG)(f:tG):Prop:=
 ∀(B:bS) (e:L2.St) (H:Hp) (α:bb QT) (ω:aW) (ρ:aZ) (v:V) (x:SV) (Q:L2.St->Hp->Prop),Rj B K H α ω->Tq (ow B α ω) K H α e ρ->To (ow B α ω) K H α v x->WS K E B H α ω (λd a b h=>∀σ',Tq (ow B a b) K h a σ' d->Q σ' h) (f x ρ ω)->g v e H Q
def C5(K:Bn)(E:XK)(g:vQ)(f:ze):Prop:=
 ∀(B:bS) (e:L2.St) (H:Hp) (α:bb QT) (ω:aW) (ρ:aZ) (vs:bb V) (xs:bb SV) (Q:L2.St->Hp->Prop),Rj B K H α ω->Tq (ow B α ω) K H α e ρ->Tv (ow B α ω) K H α vs xs->WS K E B H α ω (λd a b h=>∀σ',Tq (ow B a b) K h a σ' d->Q σ' h) (f xs ρ ω)->g vs e H Q
section
variable{B O O':bS}{K:Bn}{E:XK}{H S T P:Hp}{Y M X Z:bb QT}{ω N ω1 ω2:aW}{U:L2.St}{ρ:aZ}{v:V}
theorem Tq.set(a:Tq O K H Y U ρ)(h:To O K H Y v x):Tq O K H Y (U.set i (cL v)) (ρ.set i (cL x)):=by
 refine⟨by rw[RU,RU];exact a.1,λj y d=>?_⟩;rcases bL d with⟨rfl,e⟩|⟨l,b⟩
 .cases e;refine⟨v,?_,h⟩;rw[S5];have:=rL d;rw[a.1];exact this
 .obtain⟨u,g,f⟩:=a.2 j y b;exact⟨u,by rw[Tg (λz=>l z.symm)];exact g,f⟩
def eI(i:Nat):tG:=λx ρ ω=>.ok (ρ.set i (cL x)) ω
theorem pA:Ei K E (mW i) (eI i):=λB U H Y ω ρ v x Q s a h w=>WS.now s w _ (a.set h)
def qk:ze:=λxs ρ ω=>match xs with
 |[]=>.ok ρ ω
 |_=>.bad
def iI(f:tG)(g:ze):ze:=λxs ρ ω=>match xs with
 |x::r=>(f x ρ ω).bind λa ω1=>g r a ω1
 |[]=>.bad
theorem Fo:C5 K E G3 qk:=by
 intro B U H Y ω ρ vs xs Q s a h w;cases h with
 |nil=>exact⟨rfl,WS.now s w _ a⟩
 |cons _ _=>exact w.elim
theorem Cn(n:Ei K E t f)(m:C5 K E u g):C5 K E (yx t u) (iI f g):=by
 intro B U H Y ω ρ vs xs Q s j h w;cases h with
 |nil=>exact w.elim
 |cons a b=>refine⟨_,_,rfl,n B U H Y ω ρ _ _ _ s j a (WS.imp (WS.bind w) λe X ω1 T e1 l i d o=>?_)⟩;exact m B d T X ω1 e _ _ _ l o (Tv.Tr e1 b) i
def D7:SV->bg (bb SV)
 |.fz (.tuple ds)=>cL (ds.map .fz)
 |.tp l=>cL (l.map AV.sv)
 |_=>lD
theorem JC(h:To O K H Y v x)(e:D7 x=cL xs):∃a vs,v=.ref a/\UN O K H a vs/\Tv O K H Y vs xs:=by
 unfold D7 at e;split at e
 .cases e
  cases h with
  |tup h d=>exact⟨_,_,rfl,h,mi _ _ d⟩
 .cases e;obtain⟨a,b,rfl,g,f⟩:=h;exact⟨a,b,rfl,g,tq f⟩
 .cases e
def zW(n:Nat)(f:ze):tG:=λx ρ ω=>(RS.RK ω (D7 x)).bind λxs ω1=>if xs.length=n then f xs ρ ω1 else .bad
theorem G7(h:C5 K E t f):Ei K E (Ej K n t) (zW n f):=by
 intro B U H Y ω ρ v x Q s d e w;obtain⟨xs,q,w⟩:=WS.RK w;obtain⟨a,vs,rfl,g,b⟩:=JC e q;by_cases hn:xs.length=n
 .rw[ax hn]at w;exact⟨a,vs,rfl,g.1,b.length.trans hn,h B U H Y ω ρ vs xs Q s d b w⟩
 .rw[a3 hn]at w;exact w.elim
def bA:fw:=λρ ω=>.ok (.nx ρ) ω
def aG(f g:fw):fw:=λρ ω=>(f ρ ω).bind λa ω1=>match a with
 |.nx ρ1=>g ρ1 ω1
 |a=>.ok a ω1
def aY(f:cR):fw:=λρ ω=>(f ρ ω).bind λ_ ω1=>.ok (.nx ρ) ω1
def cX(f:cR)(g:tG):fw:=λρ ω=>(f ρ ω).bind λx ω1=>(g x ρ ω1).bind λa ω2=>.ok (.nx a) ω2
def bq(c:oa)(f g:fw):fw:=λρ ω=>(c ρ ω).bind λb ω1=>if b=QM then f ρ ω1 else g ρ ω1
def gF(f:cR):fw:=λρ ω=>(f ρ ω).bind λx ω1=>.ok (.rt x) ω1
def lR:fw:=λ_ ω=>.ok (.rt (.fz .none)) ω
theorem C0:ti K E Aj bA:=λB U H Y ω ρ D s a w=>WS.now s w U a
theorem BZ:ti K E Iv lR:=λB U H Y ω ρ D s a w=>WS.now s w .TF .TF
theorem Hv(j:ti K E t f)(i:ti K E u g):ti K E (GL t u) (aG f g):=by
 intro B U H Y ω ρ D s h w;refine j B U H Y ω ρ {D with nx:=u D} s h (WS.imp (WS.bind w) λl X ω1 T e1 d b=>?_);cases l with
 |nx a=>exact λe m=>i B e T X ω1 a D d m b
 |rt x=>exact WS.now (E:=E) d b
 |bk a=>exact WS.now (E:=E) d b
 |ct a=>exact WS.now (E:=E) d b
theorem AE(h:dr K E t f):ti K E (xx t) (aY f):=by intro B U H Y ω ρ D s a w;exact h B U H Y ω ρ _ s a (WS.imp (WS.bind w) λx X ω1 T e1 d b v e=>WS.now d b U (a.Tr e1))
theorem sN(h:dr K E t f)(n:Ei K E g fg):ti K E (uo t g) (cX f fg):=by intro B U H Y ω ρ D s b w;refine h B U H Y ω ρ _ s b (WS.imp (WS.bind w) λx X ω1 T e1 l i v m=>?_);exact n B U T X ω1 ρ v x _ l (b.Tr e1) m (WS.imp (WS.bind i) λd Z ω2 P e2 j e a o=>WS.now j e a o)
theorem LJ(h:tK K E c fc)(j:ti K E t f)(i:ti K E u g):ti K E (Gp c t u) (bq fc f g):=by
 intro B U H Y ω ρ D s a w;refine h B U H Y ω ρ _ s a (WS.imp (WS.bind w) λb X ω1 T e1 e d=>?_);cases b with
 |true=>exact j B U T X ω1 ρ D e (a.Tr e1) d
 |false=>exact i B U T X ω1 ρ D e (a.Tr e1) d
theorem GB(h:dr K E t f):ti K E (EY t) (gF f):=by intro B U H Y ω ρ D s b w;exact h B U H Y ω ρ _ s b (WS.imp (WS.bind w) λx X ω1 T e1 d a v e=>WS.now d a v e)
def hU(f:Str)(x:SV):bb (Str×SV)->bb (Str×SV)
 |[]=>[(f,x)]
 |(g,y)::r=>if g=f then(g,x)::r else(g,y)::hU f x r
theorem Lo(h:To O K H Y v x):∀{ws:bb (Str×V)} {fs:bb (Str×SV)},Paired (λ(p:Str×V) (q:Str×SV)=>p.1=q.1/\To O K H Y p.2 q.2) ws fs->Paired (λ(p:Str×V) (q:Str×SV)=>p.1=q.1/\To O K H Y p.2 q.2) (iY f v ws) (hU f x fs):=by
 intro ws fs p
 induction p with
 |nil=>exact .cons ⟨rfl,h⟩ .nil
 | @cons a b _ _ q t ih=>
  obtain⟨g,u⟩:=a;obtain⟨d,y⟩:=b;obtain⟨e,k⟩:=q;cases e;unfold iY hU;by_cases z:g=f
  .rw[ax z,ax z];exact .cons ⟨rfl,h⟩ t
  .rw[a3 z,a3 z];exact .cons ⟨rfl,k⟩ ih
def AY(ω:aW)(C:Str):SV->bg (Nat×bb (Str×SV))
 |.rf i=>match ω[i]? with
  |some (.obj D fs)=>if D=C then cL (i,fs)else lD
  |_=>lD
 |_=>lD
theorem Nk(s:Rj B K H Y ω)(b:To (ow B Y ω) K H Y v x)(h:AY ω C x=cL (i,fs)):ω[i]?=cL (.obj C fs)/\∃a Ca dx ws,Y[i]?=cL a/\v=.ref a/\RA K Rk C=cL (cL (.ref Ca))/\H a=cL (.ins Ca dx ws)/\Paired (λ(p:Str×V) (q:Str×SV)=>p.1=q.1/\To (ow B Y ω) K H Y p.2 q.2) ws fs:=by
 cases x with
 |fz d=>cases h
 |tp l=>cases h
 |rf j=>
  obtain⟨a,ha,rfl⟩:=b;unfold AY at h;dsimp only at h;cases q:ω[j]? with
  |none=>simp_all
  |some c=>
   rw[q]at h;cases c with
   |obj D gs=>
    dsimp only at h;by_cases z:D=C
    .subst z;rw[ax rfl]at h;have e:=Ra h;cases e;obtain⟨Ca,dx,ws,m,g,f⟩:=s.V4 i a _ ha q;exact⟨q,a,Ca,dx,ws,ha,rfl,m,g,f⟩
    simp_all
   |_=>cases h
def T3(C f:Str)(b fe:cR):fw:=λρ ω=>(fe ρ ω).bind λx ω1=>(b ρ ω1).bind λo ω2=>(RS.RK ω2 (AY ω2 C o)).bind λp a=>if p.2.length<100 then .ok (.nx ρ) (a.set p.1 (.obj C (hU f x p.2)))else .bad
theorem EJ(G:lX K C L)(A:f∈L)(z:dr K E to fo)(F:dr K E te fe):ti K E (NX K to te f) (T3 C f fo fe):=by
 intro B U H Y ω ρ D s e w;refine F B U H Y ω ρ _ s e (WS.imp (WS.bind w) λx X ω1 T e1 p n v t=>?_);refine z B U T X ω1 ρ _ p (e.Tr e1) (WS.imp (WS.bind n) λo Z ω2 P e2 j b u y=>?_);obtain⟨⟨i,fs⟩,q,b⟩:=WS.RK b;obtain⟨g,a,d,dx,ws,ha,rfl,m,I,l⟩:=Nk j y q;obtain⟨Cb,g0,Q,J⟩:=G;rw[m]at g0;cases g0;dsimp only at b;by_cases hn:fs.length<100
 .rw[ax hn]at b;have ev:Ev (ow B Z ω2) P (ow B Z ω2) (bf P a (.ins d dx (iY f v ws))):=sA ha g (by simp_all);have e3:SF Z ω2 P Z (ω2.set i (.obj C (hU f x fs))) (bf P a (.ins d dx (iY f v ws))):=SF.put ha g (by simp_all) (by simp_all);have R:=Paired.length l;refine⟨a,d,dx,ws,rfl,I,Q,J f A,by ext,?_⟩;refine b Z _ e3 (j.put ha g (by simp_all) (by simp_all) ⟨d,dx,_,m,aE,Lo ((t.Tr e2).ev ev λ_ _ h=>h) (Paired.TU l λ_ _ r=>⟨r.1,r.2.ev ev λ_ _ h=>h⟩)⟩) U ((e.Tr (e1.trans e2)).Tr e3)
 .rw[a3 hn]at b;exact b.elim
abbrev Jv:=aZ->aW->RS (bb D)
def Oa(K:Bn)(E:XK)(b:TI)(d:Jv):Prop:=
 ∀(B:bS) (U:L2.St) (H:Hp) (Y:bb QT) (ω:aW) (ρ:aZ) (a:It->Hp->Prop),Rj B K H Y ω->Tq (ow B Y ω) K H Y U ρ->WS K E B H Y ω (λds M N S=>∀J,sH K J (ow B M N) S ds->a J S) (d ρ ω)->b U H a
def lh(f:FI):Jv:=λρ ω=>match f (bV ρ)with
 |.ok (ds,_)=>.ok ds ω
 |.er x=>.er x ω
 |.bad=>.bad
theorem Cg(h:IO K E wi f):Oa K E wi (lh f):=by
 intro B U H Y ω ρ i s d w;refine h (ow B Y ω) H (ow B Y ω) U H (bV ρ) i (AM s d) ?_;unfold lh at w;cases q:f (bV ρ)with
 |bad=>rw[q]at w;exact w.elim
 |er x=>rw[q]at w;exact λc dx S e k=>w c dx Y S (SF.same e) (s.grow e) k
 |ok r=>obtain⟨ds,a⟩:=r;rw[q]at w;exact λO' J S e R g=>w Y S (SF.same R.same) (s.grow R.same) J λj P e2 n=>g j P (λb o h z=>e2 b o h λy=>z (R.bo b y)) n
def iR(fe:cR):Jv:=λρ ω=>(fe ρ ω).bind λx ω1=>(match frz 4 ω1 x with
 |some (d,ω2)=>RS.RK ω2 (fq d)
 |none=>.bad)
theorem E4(h:dr K E tl fe):Oa K E (xZ K tl) (iR fe):=by
 intro B U H Y ω ρ l s f w;refine h B U H Y ω ρ _ s f (WS.imp (WS.bind w) λx X ω1 T e1 g a v i=>?_);cases q:frz 4 ω1 x with
 |none=>rw[q]at a;exact a.elim
 |some p=>
  obtain⟨d,ω2⟩:=p;rw[q]at a;obtain⟨e,e2,j⟩:=tP 4 g i q;dsimp only at a;cases qs:fq d with
  |none=>rw[qs]at a;exact a.elim
  |some ds=>
   rw[qs]at a;cases j with
   |tup h b=>cases qs;exact⟨_,rfl,.inr ⟨⟨_,h.1⟩,a X T e2 e _ (Aq h b)⟩⟩
   |lst h b=>cases qs;exact⟨_,rfl,.inl ⟨⟨_,h.1.sq⟩,a X T e2 e _ (w9 h b)⟩⟩
   |_=>cases qs
def nk(gt:tG)(b:fw):bb D->fw
 |[],ρ,ω=>.ok (.nx ρ) ω
 |d::r,ρ,ω=>(gt (.fz d) ρ ω).bind λa ω1=>(b a ω1).bind λe ω2=>match e with
  |.nx ρ2=>nk gt b r ρ2 ω2
  |.ct ρ2=>nk gt b r ρ2 ω2
  |.bk ρ2=>.ok (.nx ρ2) ω2
  |.rt x=>.ok (.rt x) ω2
def rV(a:Jv)(gt:tG)(b:fw):fw:=λρ ω=>(a ρ ω).bind λds ω1=>nk gt b ds ρ ω1
theorem Fz(hi:Oa K E wi fi)(hg:Ei K E g gt)(hb:ti K E tb b):ti K E (He wi g tb) (rV fi gt b):=by
 intro B U H Y ω ρ D s Q w;refine hi B U H Y ω ρ _ s Q (WS.imp (WS.bind w) λds X ω1 T e1 s1 w1 J it=>?_);refine⟨λi m a S=>m=ds.length - i/\i<=ds.length/\∃Z ω2 ρ2,SF X ω1 T Z ω2 S/\Rj B K S Z ω2/\Tq (ow B Z ω2) K S Z a ρ2/\WS K E B S Z ω2 (AC B K D) (nk gt b (ds.drop i) ρ2 ω2),⟨_,rfl,Rz _,X,ω1,ρ,.refl,s1,Q.Tr e1,w1⟩,?_⟩;rintro i m l P ⟨rfl,hi,Z,ω2,ρ2,e2,s2,Y5,w2⟩;obtain⟨go,o⟩:=it (ow B Z ω2) P e2.ev s2.Xb;by_cases u:i<ds.length
 .obtain⟨g1,g2⟩:=go i u
  refine .inr ⟨g1,λa S=>i+1<=ds.length/\∃Z ω2 ρ2,SF X ω1 T Z ω2 S/\Rj B K S Z ω2/\Tq (ow B Z ω2) K S Z a ρ2/\WS K E B S Z ω2 (AC B K D) (nk gt b (ds.drop (i+1)) ρ2 ω2),λa S ⟨h1,h2⟩=>⟨ds.length - (i+1),by ext,rfl,h1,h2⟩,λx L y=>?_⟩;obtain⟨R,d,hd,dv⟩:=g2 x L y;have ed:ds.drop i=d::ds.drop (i+1):=by obtain⟨_,q⟩:=QU.mp hd;rw[Th u,q]
  rw[ed]at w2;have e3:SF Z ω2 P Z ω2 L:=SF.same R;refine hg B l L Z ω2 ρ2 x (.fz d) _ (s2.grow R) (Y5.Tr e3) dv (WS.imp (WS.bind (WS.from e3 w2)) λF G z H4 e4 s4 w3 C I=>?_);refine hb B C H4 G z F _ s4 I (WS.imp (WS.bind w3) λfl n j H5 e5 t r=>?_);have p:=e2.trans (e3.trans (e4.trans e5));cases fl with
  |nx f=>exact λA h=>⟨u,n,j,f,p,t,h,r⟩
  |ct f=>exact λA h=>⟨u,n,j,f,p,t,h,r⟩
  |bk f=>exact WS.now (E:=E) t r
  |rt x=>exact WS.now (E:=E) t r
 .have e:i=ds.length:=by ext
  subst e;rw[TL (QV _)]at w2;exact .inl ⟨o,WS.now s2 w2 l Y5⟩
end
section
variable{B O O':bS}{K:Bn}{E:XK}{H U T M:Hp}{X S Y Z:bb QT}{ω ω' ω1 ω2:aW}{R:L2.St}{ρ:aZ}{v:V}
def ce(gt:tG)(ft:oa)(fe:cR):bb D->aZ->aW->bb SV->RS (bb SV)
 |[],_,ω,acc=>.ok acc ω
 |d::r,ρ,ω,acc=>(gt (.fz d) ρ ω).bind λa ω1=>(ft a ω1).bind λb ω2=>if b=QM then(fe a ω2).bind λx e=>(if acc.length<1000000 then ce gt ft fe r a e (acc++[x])else .bad)else ce gt ft fe r a ω2 acc
def ib(n:Nat)(a:bb Nat)(ρ:aZ):aZ:=QX n lD++a.map λj=>(ρ[j]?).join
def kB(n:Nat)(a:bb Nat)(b:Jv)(gt:tG)(ft:oa)(fe:cR):cR:=λρ ω=>(b ρ ω).bind λds ω1=>(iV (ce gt ft fe ds (ib n a ρ) ω1 [])).bind λxs ω2=>.ok (.rf ω2.length) (ω2++[.lst xs])
theorem HB{own:bb Str}{fv:bb (Str×Nat)}{n:Nat}{e:bb Nat}(hn:own.length=n)(g:fv.map (·.2)=e)(h:Tq O K H X R ρ):Tq O K H X (hJ own fv R) (ib n e ρ):=by
 unfold hJ ib;rw[w6 hn];have i:fv.length=e.length:=by rw[<-g,QQ]
 refine⟨by simp_all,λj x a=>?_⟩;by_cases f:j<n
 .rw[Ro (by rw[RZ];exact f),Su,ax f]at a;cases a
 .rw[Rq (by simp_all),RZ,Q5]at a⊢
  subst g;rw[Q5]at a;cases q:fv[j - n]? with
  |none=>simp_all
  |some p=>
   rw[q]at a;have b:(ρ[p.2]?).join=cL x:=Ra a;have d:ρ[p.2]?=cL (cL x):=by
    cases qq:ρ[p.2]? with
    |none=>rw[qq]at b;cases b
    |some o=>rw[qq]at b;exact d5 cL b
   obtain⟨u,m,l⟩:=h.2 p.2 x d;simp_all
theorem uN{p:QT}{c:Cell}(a:X.length=ω.length)(e:c≠.dead):ow (bZ B p) X ω=ow B (X++[p]) (ω++[c]):=by
 funext b;refine propext ⟨λz=>?_,λz=>?_⟩
 .rcases z with(z|z)|⟨i,d,h1,h2,h3⟩
  .exact .inl z
  .exact .inr ⟨X.length,c,by rw[z];exact aM,by rw[a];exact aM,e⟩
  .exact .inr ⟨i,d,eC h1,eC h2,h3⟩
 .rcases z with z|z
  .exact .inl (.inl z)
  .rcases ou a z with z|z
   .exact .inr z
   .exact .inl (.inr z)
theorem Rj.adopt{p:QT}{vs:bb V}{xs:bb SV}(s:Rj (bZ B p) K H X ω)(l:H p=cL (.lst vs))(g:Tv (ow (bZ B p) X ω) K H X vs xs)(n:¬B p):Rj B K H (X++[p]) (ω++[.lst xs]):=by
 have eo:ow (bZ B p) X ω=ow B (X++[p]) (ω++[.lst xs]):=uN s.len (by simp_all);have b:∀(i:Nat) (a:QT),X[i]?=cL a->(X++[p])[i]?=cL a:=λi a h=>eC h;have m:∀i:Nat,X[i]?≠cL p:=s.ba p (.inr rfl);refine⟨by rw[Q1,Q1,s.len];rfl,λi j a e f=>?_,λa h=>s.bn a (.inl h),λa h i q=>?_,λi a h=>?_,λi a d e f=>?_⟩
 .rcases bc e with g1|⟨e1,e2⟩<;>rcases bc f with g2|⟨e3,e4⟩
  .exact s.nd i j a g1 g2
  .simp_all
  .simp_all
  .omega
 .rcases bc q with q|⟨_,e2⟩
  .exact s.ba a (.inl h) i q
  simp_all
 .rcases bc h with h|⟨_,e2⟩
  .exact s.al i a h
  simp_all
 .rw[<-eo]
  rcases bc f with g2|⟨e1,e2⟩
  .rcases bc e with g1|⟨e1,_⟩
   .exact(s.V4 i a d g1 g2).ev .refl b λo q=>q
   .have:=(QU.mp g2).1;have:=s.len;ext
  .rcases bc e with g1|⟨_,e3⟩
   .have:=(QU.mp g1).1;have:=s.len;ext
   .rw[e2,e3];exact⟨vs,l,Paired.TU g λ_ _ r=>r.ev .refl b⟩
theorem Rj.hide{p:QT}{o:HO}(s:Rj B K H X ω)(f:H p=lD):Rj (bZ B p) K (bf H p o) X ω:=by have d:Sv H (bf H p o):=bO f o;have g:=s.grow d;have ev:Ev (ow B X ω) H (ow (bZ B p) X ω) (bf H p o):=λb u h n=>⟨d b u h,λz=>z.elim (λz=>z.elim (λz=>n (.inl z)) λz=>by simp_all) λz=>n (.inr z)⟩;refine⟨g.len,g.nd,λa h=>h.elim (g.bn a) λe=>by rw[e,aE];simp,λa h i q=>h.elim (λh=>g.ba a h i q) λe=>by rw[e]at q;exact s.al i p q f,g.al,λi a c l j=>?_⟩;exact(s.V4 i a c l j).ev ev (λ_ _ h=>h) λo q=>d _ _ q
theorem Rj.abj{p:QT}{o d:HO}(s:Rj (bZ B p) K H X ω)(g:H p=cL o):Rj (bZ B p) K (bf H p d) X ω:=by
 have ev:Ev (ow (bZ B p) X ω) H (ow (bZ B p) X ω) (bf H p d):=Ev.mut (.inl (.inr rfl)) d;have n:∀b,H b≠lD->bf H p d b≠lD:=λb h=>by
  by_cases z:b=p
  .subst z;rw[aE];simp
  .rw[aJ z];exact h
 refine⟨s.len,s.nd,λa h=>n a (s.bn a h),s.ba,λi a h=>n a (s.al i a h),λi a c e f=>(s.V4 i a c e f).ev ev (λ_ _ h=>h) λu q=>?_⟩;have:a≠p:=λz=>s.ba p (.inr rfl) i (by rw[<-z];exact e);rw[aJ this];exact q
theorem SF.dd{p:QT}{o:HO}(e:SF Y ω1 T X ω H)(a:T p=lD):SF Y ω1 T X ω (bf H p o):=⟨e.pre,λb u h n=>by rw[aJ (bI h a)];exact e.kp b u h n,e.lv⟩
theorem Rj.ZR{p:QT}(s:Rj (bZ B p) K H X ω):Rj B K H X ω:=
 ⟨s.len,s.nd,λa h=>s.bn a (.inl h),λa h=>s.ba a (.inl h),s.al,λi a c e d=>(s.V4 i a c e d).ev (λb o h n=>⟨h,λy=>n (y.elim (λy=>.inl (.inl y)) .inr)⟩) (λ_ _ h=>h) λ_ h=>h⟩
theorem pE{own:bb Str}{fv:bb (Str×Nat)}{g:TG}{tc:TT}{te:TE}{gt:tG}{ft:oa}{fe:cR}{n:Nat}{fj:bb Nat}{J:It}{Q:VK}{ds:bb D}(hn:own.length=n)(hf:fv.map (·.2)=fj)
  (hg:Ei K E g gt) (ht:tK K E tc ft) (he:dr K E te fe) (s1:Rj B K T Y ω1) (Zb:Tq (ow B Y ω1) K T Y R ρ) (it:sH K J (ow B Y ω1) T ds) (w1:WS K E B T Y ω1 (PQ B K Q) ((ce gt ft fe ds (ib n fj ρ) ω1 []).bind λxs ω2=>.ok (.rf ω2.length) (ω2++[.lst xs]))):
  ∀D,T D=lD->xW J D (hJ own fv R) g tc te T λU=>Q (.ref D) U:=by
 intro p hD;have slc:Tq (ow B Y ω1) K T Y (hJ own fv R) (ib n fj ρ):=HB hn hf Zb;generalize qr:ce gt ft fe ds (ib n fj ρ) ω1 []=rr at w1;by_cases YF:rr=.bad
 .subst YF;exact w1.elim
 .
  have hB:¬B p:=λz=>s1.bn p z hD;have evH:∀{Z:bb QT} {ω2:aW} {U:Hp},SF Y ω1 T Z ω2 U->Ev (ow B Y ω1) T (ow (bZ B p) Z ω2) U:=λe b o h n=>⟨e.kp b o h λz=>n (.inr z),λz=>by
   rcases z with(z|z)|z
   .exact n (.inl z)
   .simp_all
   .exact(e.lv b z).elim (λq=>n (.inr q)) λq=>by simp_all⟩
  refine⟨λi m σ' U=>m=ds.length - i/\i<=ds.length/\∃Z ω2 ρc acc ys,SF Y ω1 T Z ω2 U/\Rj (bZ B p) K U Z ω2/\Tq (ow (bZ B p) Z ω2) K U Z σ' ρc/\U p=cL (.lst ys)/\Tv (ow (bZ B p) Z ω2) K U Z ys acc/\ce gt ft fe (ds.drop i) ρc ω2 acc=rr,
   ⟨_,rfl,Rz _,Y,ω1,ib n fj ρ,[],[],SF.same (bO hD _),s1.hide hD,?_,aE,.nil,qr⟩,?_⟩
  .exact⟨slc.1,λj x hx=>let⟨v,h1,h2⟩:=slc.2 j x hx;⟨v,h1,h2.ev (evH (SF.same (bO hD _))) λ_ _ h=>h⟩⟩
  .rintro i m σ2 M ⟨rfl,hi,Z,ω2,ρ2,acc,ys,e2,s2,Y5,hy,vy,f⟩
   obtain⟨go,stop⟩:=it (ow (bZ B p) Z ω2) M (evH e2) s2.Xb;by_cases Uv:i<ds.length
   .obtain⟨g1,g2⟩:=go i Uv
    refine .inr ⟨g1,λσ5 F=>i+1<=ds.length/\∃Z ω2 ρc acc ys,SF Y ω1 T Z ω2 F/\Rj (bZ B p) K F Z ω2/\Tq (ow (bZ B p) Z ω2) K F Z σ5 ρc/\F p=cL (.lst ys)/\Tv (ow (bZ B p) Z ω2) K F Z ys acc/\ce gt ft fe (ds.drop (i+1)) ρc ω2 acc=rr,
     λσ5 F ⟨h1,h2⟩=>⟨ds.length - (i+1),by ext,rfl,h1,h2⟩,λx P y=>?_⟩
    obtain⟨s3,d,hd,dv⟩:=g2 x P y;have ed:ds.drop i=d::ds.drop (i+1):=by obtain⟨_,q⟩:=QU.mp hd;rw[Th Uv,q]
    rw[ed]at f;unfold ce at f;have e3:SF Z ω2 M Z ω2 P:=SF.same s3;have kD:∀{αx αy:bb QT} {ωx ωy:aW} {Hx Hy:Hp} {o:HO},Rj (bZ B p) K Hx αx ωx->SF αx ωx Hx αy ωy Hy->Hx p=cL o->Hy p=cL o:=λsx ex h=>ex.kp _ _ h λ⟨i,c,q,_⟩=>sx.ba p (.inr rfl) i q;have w:∀{L:bb QT} {u:aW} {P:Hp} {z:Xc} {t:aW},SF Y ω1 T L u P->RS.er z t=rr->∀c dx S U,SF L u P S t U->Rj (bZ B p) K U S t->Y7 K (ow (bZ B p) S t) U c dx z->E c dx U:=λ{L u P z t} e3 q c dx S U e s' x'=>by subst q;exact w1 c dx S U (e3.trans e) s'.ZR (Y7.sub (λb y=>y.elim (λy=>.inl (.inl y)) .inr) x')
    refine hg (bZ B p) σ2 P Z ω2 ρ2 x (.fz d) _ (s2.grow s3) (Y5.Tr e3) dv ?_;cases qg:gt (.fz d) ρ2 ω2 with
    |er z t=>rw[qg]at f;exact w (e2.trans e3) f
    |bad=>rw[qg]at f;exact YF f.symm
    |ok l G=>
     rw[qg]at f;intro α4 H4 e4 s4 σ4 sl4;refine ht (bZ B p) σ4 H4 α4 G l _ s4 sl4 ?_;have f:((ft l G).bind λb ω2=>if b=QM then(fe l ω2).bind λx u=>(if acc.length<1000000 then ce gt ft fe (ds.drop (i+1)) l u (acc++[x])else .bad)else ce gt ft fe (ds.drop (i+1)) l ω2 acc)=rr:=f;cases qt:ft l G with
     |er z t=>rw[qt]at f;exact w (e2.trans (e3.trans e4)) f
     |bad=>rw[qt]at f;exact YF f.symm
     |ok b A=>
      rw[qt]at f;intro α5 F e5 s5;have N:=sl4.Tr e5;have J7:=e3.trans (e4.trans e5);cases b with
      |false=>have f:ce gt ft fe (ds.drop (i+1)) l A acc=rr:=f;exact⟨Uv,α5,A,l,acc,ys,e2.trans J7,s5,N,kD s2 J7 hy,Tv.Tr J7 vy,f⟩
      |true=>
       have f:((fe l A).bind λx u=>(if acc.length<1000000 then ce gt ft fe (ds.drop (i+1)) l u (acc++[x])else .bad))=rr:=f;rw[ax rfl];refine he (bZ B p) σ4 F α5 A l _ s5 N ?_;cases qe:fe l A with
       |er z t=>rw[qe]at f;exact w (e2.trans J7) f
       |bad=>rw[qe]at f;exact YF f.symm
       |ok x6 C=>
        rw[qe]at f;intro I H6 e6 s6 v6 hv6;have f:(if acc.length<1000000 then ce gt ft fe (ds.drop (i+1)) l C (acc++[x6])else .bad)=rr:=f;by_cases YW:acc.length<1000000
        .rw[ax YW]at f;have NG:=J7.trans e6;have hy6:H6 p=cL (.lst ys):=kD s2 NG hy;have vy6:=Tv.Tr NG vy;have em:Ev (ow (bZ B p) I C) H6 (ow (bZ B p) I C) (bf H6 p (.lst (ys++[v6]))):=Ev.mut (.inl (.inr rfl)) _;have sl6:=N.Tr e6;refine⟨ys,hy6,vj (by rw[vy6.length];exact YW),Uv,I,C,l,acc++[x6],ys++[v6],(e2.trans NG).dd hD,s6.abj hy6,⟨sl6.1,λj x hx=>let⟨v,h1,h2⟩:=sl6.2 j x hx;⟨v,h1,h2.ev em λ_ _ h=>h⟩⟩,aE,xA (Paired.TU vy6 λ_ _ r=>r.ev em λ_ _ h=>h) (hv6.ev em λ_ _ h=>h),f⟩
        .rw[a3 YW]at f;exact a7 f.symm YF
   .have e:i=ds.length:=by ext
    subst e;rw[TL (QV _)]at f;have f:RS.ok acc ω2=rr:=f;subst f;refine .inl ⟨stop,?_⟩;refine w1 (Z++[p]) M ⟨λi a h=>eC (e2.pre i a h),e2.kp,λb z=>(ou s2.len z).elim (e2.lv b) λz=>.inr (by rw[z];exact hD)⟩ (s2.adopt hy vy hB) (.ref p) ⟨p,by rw[<-s2.len];exact aM,rfl⟩
theorem Ao{A C:Type}{P:C->bb QT->aW->Hp->Prop}{r:RS A}{k:A->aW->C}{m:A->aW->aW}(w:WS K E B H X ω P ((iV r).bind λa o=>.ok (k a o) (m a o))):WS K E0 B H X ω P (r.bind λa o=>.ok (k a o) (m a o)):=by
 cases r with
 |ok a o=>exact w
 |er x o=>exact w.elim
 |bad=>exact w
theorem z9{own:bb Str}{fv:bb (Str×Nat)}{a:TI}{g:TG}{d:TT}{b:TE}{h:Jv}{gt:tG}{ft:oa}{fe:cR}{n:Nat}{f:bb Nat}(hn:own.length=n)(p:fv.map (·.2)=f)
  (hi:Oa K E a h) (o:Ei K E0 g gt) (m:tK K E0 d ft) (q:dr K E0 b fe):dr K E (oB own fv a g d b) (kB n f h gt ft fe):=by
 intro B R H X ω ρ Q s e w;refine hi B R H X ω ρ _ s e (WS.imp (WS.bind w) λds Y ω1 T e1 j i J l=>?_);exact pE hn p o m q j (e.Tr e1) l (Ao i)
def dQ(N:Nat)(g:fw):g9:=λxs ω=>(g (xs.map cL++QX (N - xs.length) lD) ω).bind λa ω1=>match a with
 |.rt x=>.ok x ω1
 |.nx _=>.ok (.fz .none) ω1
 |_=>.bad
theorem DW{N:bb Str}{vs:bb V}{xs:bb SV}(h:Tv O K H X vs xs):Tq O K H X (L2.start N vs) (xs.map cL++QX (N.length - xs.length) lD):=by
 have e:vs.length=xs.length:=Paired.length h;unfold L2.start;refine⟨by simp_all,λi x a=>?_⟩;by_cases hi:i<xs.length
 .rw[Ro (by simp_all),Q5]at a
  cases q:xs[i]? with
  |none=>rw[q]at a;cases a
  |some d=>rw[q]at a;cases a;obtain⟨v,b,f⟩:=wk h q;refine⟨v,?_,f⟩;rw[Ro (by rw[QQ,e];exact hi),Q5,b];rfl
 .rw[Rq (by rw[QQ];ext),Su]at a;split at a<;>cases a
theorem Ke{N:bb Str}{vs:bb V}{xs:bb SV}{g:fw}{t:TS}{Q:VK}{n:Nat}(e:ti K E t g)(h:se K n (dQ N.length g) vs H Q E):t {nx:=λ_ U=>Q .TF U,rt:=Q} (L2.start N vs) H:=by
 obtain⟨j,B,X,ω,xs,s,d,w⟩:=h;refine e B _ H X ω _ _ s (DW d) (WS.imp (WS.bind w) λf Y ω1 T e1 b a=>?_);cases f with
 |rt x=>exact WS.now (E:=E) b a
 |nx ρ=>exact λR i=>WS.now (E:=E) b a .TF .TF
 |bk ρ=>exact a.elim
 |ct ρ=>exact a.elim
end
theorem PN{P:Rb}{w:Rr}{K:Bn}{mg:Str->bg QN}{base:Heap}{x a:Str}{b:Tb}{f:QT}{fd:Sl}{N ps:bb Str}{k n m:Nat}{g:fw}{e:g9}(F:Wf K x a b f fd)(S:TY N ps (aI b))(hn:ps.length=n)(hm:N.length=m)(o:e=dQ m g)
  (p:∀(d:QN) (A:Rt) (outer:bb Env) (s:QS) (H:Hp) (E:XK),SY k (A.deeper (RH a (aI b) s.heap.objs.size f d))->
   ∃t,WO (kr l9 P w K mg base N a (aI b) f d A outer s H E).YY (d8 b) t/\ti K E t g):FnOk P w K mg base l9 (k+1) f fd ps (se K n e):=by
 subst o hm;refine F.ok S (λvs H Q E h=>h.1.trans hn.symm) (λd A outer s H vs Q E l h=>?_);obtain⟨t,i,j⟩:=p d A outer s H E l;exact⟨t,i,Ke (xs:=[]) j h⟩
end L10
namespace PySem.W
open PySem PySem.Calls PyProof.Rows PyProof.V PySem.Spec
section
variable{prog:Rb}{w:Rr}{A:Rt}{E:QN->QS->Prop}{s:QS}{T:String}{r d:QT}{n:Nat}{P:Nat->QN->Prop}{OK:Heap->Prop}
theorem collect_kdl(K:KdlSrc prog w T r d n P OK)(l:A.handled=lD)(Sk:OK s.heap)(hn:n<=Q3)
  (p:∀h' tk acc,(∀b o,s.heap.get? b=cL o->h'.get? b=cL o)->aew P acc n->Q acc.toList {s with heap:=h',toks:=tk}):wpAny (model prog w) A (collect (.ref r)) Q E s:=by
 have h:=K.there _ Sk;unfold collect;refine Ld (wpAny_runValue (TM F.entry_proto_collect ?_));rw[Rt.under_plainId F.plain_proto_collect _];refine Ld (Sb ?_);refine QW ⟨TK F.plain_list_iadd _,TM F.entry_list_iadd ?_⟩;rw[Rt.under_plainId F.plain_list_iadd _];have m:(s.heap.push {cls:=.type "list",data:=.seq ([]:bb QN).toArray}).get? s.heap.objs.size=cL {cls:=.type "list",data:=.seq ([]:bb QN).toArray}:=b5 _ rfl;refine kdl_extend (R:=wants (λv i=>wpAny (model prog w) A (match v with|.ref a=>(load a>>=λo=>match o.data with|.seq xs _=>pure xs.toList|_=>unsupported "internal:collect")|_=>unsupported "internal:collect") Q E i) E) (s:={s with heap:=s.heap.push {cls:=.type "list",data:=.seq ([]:bb QN).toArray}}) K l (K.keep _ _ Sk λb _ o e=>b3 _ e) _ (Se h.1) (Se h.2) _ 0 m (λh' tk f t j q g=>?_) hn;refine Ld (ZD q ?_);exact QW (p h' tk f (λb o e=>j b o (Ri (b4 e)) (b3 _ e)) g)
end
end PySem.W
namespace PyProof.Rows
open PySem
section
variable{prog:Rb}{w:Rr}{A:Rt}{E:QN->QS->Prop}{s:QS}{T:String}{r d:QT}{n:Nat}{P:Nat->QN->Prop}{OK:Heap->Prop}
theorem wf(K:PySem.W.KdlSrc prog w T r d n P OK)(p:A.handled=lD)(Sk:OK s.heap)(l:n<64)(t:∀acc:Array QN,aew P acc n->IntsAre acc.toList ns)
  (h:∀(a h':Heap) (g:Nat) (out:Array QN) (e:Nat) (f:bb Int),(∀b o,s.heap.get? b=cL o->a.get? b=cL o)->h'.get? a.objs.size=cL (seqObj "list" out e)->(∀b o,a.get? b=cL o->h'.get? b=cL o)->IntsAre out.toList f->f.Perm ns->f.Pairwise (·<=·)->Q (.ref a.objs.size) {s with heap:=h',toks:=g}):
  wpAny (model prog w) A (call (.builtin "sorted") [.ref r]) Q E s:=by
 refine Calls.call_function_entry kind_sorted plain_sorted entry_sorted (args_sorted1 _) (Ld (QW (Ld (PySem.W.collect_kdl K p Sk (by rw[T9];ext) (λa g acc m hi=>Ld (aev ?_ (hsz:=by rw[RL,hi.1,T9];ext)))))));have i:(a.push (seqObj "list" acc.toList.toArray 0)).get? a.objs.size=cL (seqObj "list" acc.toList.toArray 0):=b5 _ rfl;have j:=t acc hi;refine Ld (TH (S9 slot_list_sort ⟨_,i,rfl⟩ entry_list_sort (list_sort_tree i j (by rw[RL,hi.1];exact l) λout f y v u=>⟨_,rfl,QW ⟨_,rfl,?_⟩⟩) (args_list_sort _)));obtain⟨e,q⟩:=oH i;exact h a _ g out e f m q (λb B z=>mX (Ri (b4 z)) (b3 _ z)) y v u
end
end PyProof.Rows
namespace L10
open PySem PySem.Spec PyProof.Rows L2 L3
def zZ(p d:QT):HO:=.ext λh=>h.IsValuesView p d
theorem NL(x:h.IsValuesView p d):ObjOk P w H h p (zZ p d):=⟨x,let⟨o,a,_⟩:=x;⟨o,a⟩,λf e ⟨o,a,b⟩ k=>⟨o,k o a,b⟩⟩
def xC:V->bb V->Hp->VK->Prop:=λx vs H Q=>∃a kvs,x=.ref a/\vs=[]/\H a=cL (.dK kvs)/\∀p,H p=lD->Q (.ref p) (bf H p (zZ p a))
theorem qY:Nr X "dict.values" xC:=by intro f s l H x xs v m Q I g d h;obtain⟨a,kvs,rfl,rfl,e,q⟩:=h;cases g;cases d;obtain⟨z,j,vs,i,dd⟩:=qQ I.Sk e;refine call_meetsIn Ul dd.typeIs PySem.F.entry_dict_values (PySem.F.args_dict_values_1 _) (meets_dict_values (bM X.prog X.w) a j) ⟨⟨vs,dd⟩,?_⟩;refine⟨.ref s.heap.objs.size,_,I.laid (λb o e=>b3 _ e) (QV _) (NL ⟨_,b5 _ rfl,rfl,rfl⟩),rfl,q _ (I.Sk.fresh (QV _))⟩
def Cu:bb V->Hp->VK->Prop:=λxs H Q=>∃p a kvs,xs=[.ref p]/\H p=cL (zZ p a)/\H a=cL (.dK kvs)/\∀l,H l=lD->Q (.ref l) (bf H l (.lst (kvs.map (·.2))))
theorem Eo:∀{kvs:bb (κ×V)} {vs:bb (κ×QN)},KV kvs vs->Vals (kvs.map (·.2)) (vs.map (·.2)):=by
 intro _ _ a
 induction a with
 |nil=>exact .nil
 | @cons _ _ _ _ h t ih=>exact .cons h.2 (ih)
theorem v8(m:X.calm=QM):S3 X (.type "list") Cu:=by intro f s B H xs C Q I r h;obtain⟨p,a,kvs,rfl,t,e,q⟩:=h;obtain⟨u,rfl,i⟩:=hG r;cases i;obtain⟨z,F,vs,b,dd⟩:=qQ I.Sk e;obtain⟨J,A⟩:=dd.dictAt;obtain⟨g,_,_⟩:=I.Sk p _ t;refine PySem.W.kdl_call (PySem.W.kdl_values) (I.ok.hd m) ⟨g,A⟩ (by rw[<-b.length];exact z) λG E d c l n hi=>?_;have y:=PySem.W.kdl_vals_eq d.toList (by rw[RL];exact hi.1) λj v w=>hi.2 j v (by rw[<-W8];exact w);refine⟨.ref s.heap.objs.size,_,I.laid (o:=.lst (kvs.map (·.2))) l (QV _) ⟨by rw[QQ];exact z,d.toList,c,by rw[y];exact Eo b,by rw[Array.toArray_toList];exact n⟩,rfl,q _ (I.Sk.fresh (QV _))⟩
def wQ:bb V->Hp->VK->Prop:=λxs H Q=>∃(p:QT) (kvs:bb (bK×V)) (a:bb Int),xs=[.ref p]/\H p=cL (.dK kvs)/\kvs.map (·.1)=a.map Sum.inl/\a.length<64/\∀(l:QT) (b:bb Int),H l=lD->b.Perm a->b.Pairwise (·<=·)->Q (.ref l) (bf H l (.lst (b.map V.int)))
theorem nW:∀{vs:bb (bK×QN)} {ns:bb Int} {us:bb QN},vs.map (·.1)=ns.map Sum.inl->us.length=vs.length->(∀(j:Nat) (u:QN),us[j]?=cL u->∃k x,vs[j]?=cL (k,x)/\(bM prog w).is k u=QM)->IntsAre us ns
 |[],[],[],_,_,_=>.nil
 |[],[],_::_,_,h,_=>by simp at h
 |[],_::_,_,h,_,_=>by simp at h
 |_::_,[],_,h,_,_=>by simp at h
 |_::_,_::_,[],_,h,_=>by simp at h
 |(k,y)::vs,n::ns,u::us,h1,h2,h3=>by rw[Q7,Q7,afY]at h1;obtain⟨f,x,e,b⟩:=h3 0 u rfl;cases e;have d:=h1.1;subst d;obtain⟨t,rfl⟩:=QN.isInt_shape (show QN.isInt n u=QM from b);exact .cons _ _ (nW h1.2 (by simpa using h2) λj a e=>h3 (j+1) a (by simpa using e))
theorem wa(B:X.calm=QM):S3 X (.builtin "sorted") wQ:=by
 intro f s M H xs N Q I r h;obtain⟨p,kvs,g,rfl,e,F,C,q⟩:=h;obtain⟨u,rfl,n⟩:=hG r;cases n;obtain⟨z,A,vs,b,dd⟩:=qQ I.Sk e;obtain⟨S,J⟩:=dd.dictAt;have i:vs.map (·.1)=g.map Sum.inl:=by rw[<-b.keys];exact F
 have P:vs.length=g.length:=by have:=d5 Vc i;simpa using this
 refine wf (PySem.W.kdl_dict A) (I.ok.hd B) J (by ext) (λK hi=>nW i (by rw[RL];exact hi.1) λj v G=>hi.2 j v (by rw[<-W8];exact G)) λE R O d e2 o w y L hi l t=>?_;have a:=l.length_eq;have m:=I.kept (t':=s.toks) w;refine⟨.ref E.objs.size,_,m.laid L (QV _) ?_,rfl,q _ o (m.Sk.fresh (QV _)) l t⟩;refine⟨?_,d.toList,e2,i4 hi,y⟩;rw[QQ,a];have:(64:Nat)<=Q3:=by decide
 ext
end L10
namespace PySem
open Sem (wp)
namespace F
theorem lk_tuple_keys:typeLookup (.type "tuple") "keys"=pure lD:=by rw[abL,YO];kernel_rfl
theorem lk_tuple_hook:typeLookup (.type "tuple") "__getattr__"=pure lD:=by rw[abL,YO];kernel_rfl
theorem sub_ae:isSubtype (.type "AttributeError") (.type "AttributeError")=pure QM:=by rw[isSubtype_type];kernel_rfl
end F
section
variable{prog:Rb}{w:Rr}{A:Rt}{E:QN->QS->Prop}{h:Heap}{g:Array Xe}{d:Drawn}{t:Nat}{Z:OsState}{a:QT}{o:Obj}
theorem wo{α:Type}{name f:Str}{Q:α->QS->Prop}{E:QN->QS->Prop}(hm:f.length<=Q3)(l:A.handled=lD)(i:∀e h' t',(∀b o,h.get? b=cL o->h'.get? b=cL o)->(⟨h',g,d,t',Z⟩:QS).TypeIs e "AttributeError"->E e ⟨h',g,d,t',Z⟩):
  wpAny (model prog w) A (raiseAttrError (.ref a) name f:Sem α) Q E ⟨h,g,d,t,Z⟩:=by
 have j:¬f.length>Q3:=Nat.not_lt.mpr hm;unfold raiseAttrError newExc newTuple
 repeat (any_goals (first|assumption|wp_step))
 refine WJ (a:=QM) F.sub_ae ?_
 repeat (any_goals (first|assumption|wp_step))
 refine wpAny_raiseNew_none l (i _ _ _ (λb o e=>?_) ?_)
 .exact(b7 _ _ (dt (Ri (b4 (b3 _ e))))).trans (b3 _ (b3 _ e))
 .exact⟨_,cc _ (b5 _ rfl) rfl,rfl⟩
theorem mv{f:Tok}{Q:Fin->QS->Prop}{E:QN->QS->Prop}{p:Array QN}{n:Nat}{i:Array (bg QN)}(j:h.get? a=cL ⟨.type "tuple",lD,.seq p n,i⟩)(m:A.handled=lD)(l:∀e h' t',(∀b o,h.get? b=cL o->h'.get? b=cL o)->(⟨h',g,d,t',Z⟩:QS).TypeIs e "AttributeError"->E e ⟨h',g,d,t',Z⟩):
  wpAny (model prog w) A (RD.«object.__getattribute__» ⟨[.ref a,.str "keys" f],[]⟩) Q E ⟨h,g,d,t,Z⟩:=by
 have q:(⟨h,g,d,t,Z⟩:QS).TypeIs (.ref a) "tuple":=⟨_,j,rfl⟩;have r:=F.lk_tuple_keys
 repeat (any_goals (first|assumption|wp_step))
 exact wo (by left) m l
theorem qp{f:Tok}{Q:QN->QS->Prop}{E:QN->QS->Prop}{u:Array QN}{n:Nat}{l:Array (bg QN)}(i:h.get? a=cL ⟨.type "tuple",lD,.seq u n,l⟩)(q:A.handled=lD)(m:∀e h' t',(∀b o,h.get? b=cL o->h'.get? b=cL o)->(⟨h',g,d,t',Z⟩:QS).TypeIs e "AttributeError"->E e ⟨h',g,d,t',Z⟩):
  wpAny (model prog w) A (getAttrBy (.ref a) (.str "keys" f) QP) Q E ⟨h,g,d,t,Z⟩:=by
 have r:(⟨h,g,d,t,Z⟩:QS).TypeIs (.ref a) "tuple":=⟨_,i,rfl⟩;have z:=F.slot_tuple_getattribute.lookup;have y:=F.slot_tuple_getattribute.bind (.ref a);have v:=F.lk_tuple_hook
 repeat (any_goals (first|assumption|wp_step))
 refine Y1 F.slot_tuple_getattribute.plain F.entry_tuple_ga (F.slot_tuple_getattribute.check _ _ _ _ _ _ _ _ r (F.args_tuple_getattribute_2 _ _) (mv i q λe h' t' p j=>?_));have fs:=F.sub_ae;show wpAny (model prog w) A (getattributeRaised (QN.ref a) (QN.str (Str.ofString "keys") f) (QN.type "tuple") e lD QP QP) Q E _;unfold getattributeRaised;refine Ld (Wt j fs ?_)
 repeat (any_goals (first|assumption|wp_step))
 exact m e h' t' p j
theorem nw(f:h.get? a=cL ⟨.type "tuple",lD,.seq RG n,sl⟩)(l:A.handled=lD)(i:∀h' t',(∀b o,h.get? b=cL o->h'.get? b=cL o)->Q lD ⟨h',g,d,t',Z⟩):
  wpAny (model prog w) A (getAttr? (.ref a) "keys") Q E ⟨h,g,d,t,Z⟩:=by
 unfold getAttr? getAttrBy?;have fs:=F.sub_ae;refine Ld ?_
 repeat (any_goals (first|assumption|(specialize qp f l λe h' t' j m=>?_)|wp_step))
 exact i h' t' j
namespace F
theorem entry_upd_loop:entryFor table "dict.update.loop"=cL RD.«dict.update.loop»:=entryFor_of_tree (by kernel_rfl)
theorem plain_upd_loop:plainId "dict.update.loop"=QM:=by left
end F
end
section
variable{prog:Rb}{w:Rr}{A:Rt}{E:QN->QS->Prop}{s:QS}{K:Type}[DecidableEq K]{knd:KeyKind prog w K}{I dd Y:QT}{Z:Array QN}{ks:bb (K×QN)}{R:Xf->QS->Prop}
theorem wb(kvs:bb (K×QN))(k:K)(v:QN):(stored kvs k v).length<=kvs.length+1:=by
 unfold stored;split
 .rw[QQ];ext
 .rw[Q1];exact QV _
theorem mV:∀(a kvs:bb (K×QN)),(merged kvs a).length<=kvs.length+a.length
 |[],kvs=>QV _
 |p::r,kvs=>by have d:=mV r (stored kvs p.1 p.2);have b:=wb kvs p.1 p.2;show(merged (stored kvs p.1 p.2) r).length<=_;rw[QZ];ext
theorem wU(a:bb (K×QN)):(merged [] a).length<=a.length:=by have:=mV a [];simpa using this
theorem Bh{N:Heap}(hh:A.handled=lD)(U0:Y≠I)(M:I≠dd)(L:Y≠dd)(hp:∀(i:Nat) (v:QN),Z[i]?=cL v->∃q key k x,v=.ref q/\q≠dd/\q≠I/\ks[i]?=cL (k,x)/\knd.is k key=QM/\N.IsTuple q #[key,x])(hs:ks.length=Z.size)(hz:Z.size<=Q3)
  (hR:∀h' g,h'.DictOf knd dd (merged [] ks)->(∀b o,b≠dd->b≠I->N.get? b=cL o->h'.get? b=cL o)->R (.ok (.ret .none)) {s with heap:=h',toks:=g}):
  ∀(m i:Nat) (h:Heap) (g:Nat),Z.size - i=m->i<=Z.size->h.IsTupleIter I Y i->h.IsTuple Y Z->h.DictOf knd dd (merged [] (ks.take i))->(∀b o,b≠dd->b≠I->N.get? b=cL o->h.get? b=cL o)->
   codeAny (model prog w) A (.builtin "dict.update.loop" ⟨[.ref dd,.ref I,rawInt i,.none],[]⟩) R {s with heap:=h,toks:=g}:=by
 have W:=Walks.tuple (prog:=prog) (w:=w) (A:=A.in1) hh I Y U0 Z;intro m
 induction m with
 |zero=>
  intro i h g hm hi y t p n;have e:i=Z.size:=by ext
  subst e;refine TM F.entry_upd_loop ?_;rw[Rt.under_plainId F.plain_upd_loop _];refine Ld (W.done _ _ _ ⟨y,t⟩ λh' r d=>?_);rw[List.take_of_length_le (by ext)]at p;refine Ld (QW (QW ?_));refine hR h' r (p.at λo e=>d dd o (by simp;exact λz=>M z.symm) e) λb o f a e=>d b o (by simp;exact a) (n b o f a e)
 |succ m X=>
  intro i h g hm hi y t p n;have Q:i<Z.size:=by ext
  refine TM F.entry_upd_loop ?_;rw[Rt.under_plainId F.plain_upd_loop _];refine Ld (W.item i _ _ _ Q ⟨y,t⟩ λv h' r hv P d=>?_);obtain⟨q,key,k,x,rfl,C,j,G,WU,ht⟩:=hp i v hv;have B:=ht.at λo e=>d q o (by simp;exact j) (n q o C j e);have O:=p.at λo e=>d dd o (by simp;exact λz=>M z.symm) e;have u:=λb o f a e=>d b o (by simp;exact a) (n b o f a e);obtain⟨U,l,J,nq,H⟩:=B;obtain⟨cq,dq,dtq,S⟩:=U;cases J;cases H;have hT:({s with heap:=h',toks:=r}:QS).TypeIs (.ref q) "tuple":=⟨_,l,rfl⟩;refine Ld (TH (Ld ?_));refine Vv ?_;unfold RD.Dict.pairItems;refine Ld (Yf hT ?_);rw[ax (by decide)];refine Ld ?_;unfold seqItems?;refine Ld (ZD l (QW (QW ?_)));refine TH (wpAny_dictSet_pairs WU O (λa d2 T=>?_) ?_)
  .refine QW ⟨TK F.plain_upd_loop _,?_⟩;have e2:∀b o,b≠dd->h'.get? b=cL o->a.get? b=cL o:=λb o hb e=>(T.2 b hb).trans e;refine X (i+1) a (r+1) (by ext) Q (P.1.at λo e=>e2 I o M e) (P.2.at λo e=>e2 Y o L e) ?_ λb o f a e=>e2 b o f (u b o f a e);rw[merged_take_succ [] ks i (k,x) G];exact d2
  .have:(merged [] (ks.take i)).length<=(ks.take i).length:=wU _;rw[Sf]at this;ext
end
end PySem
namespace PySem
open Sem (wp)
open PyProof.Rows
section
variable{prog:Rb}{w:Rr}{A:Rt}{E:QN->QS->Prop}{s:QS}{K:Type}[DecidableEq K]{knd:KeyKind prog w K}{Y:QT}{Z:Array QN}{ks:bb (K×QN)}{R:Xf->QS->Prop}
theorem nA(y:A.handled=lD)(u:s.heap.get? Y=cL ⟨.type "tuple",lD,.seq Z n,sl⟩)(B:ks.length=Z.size)(hz:Z.size<=Q3)
  (C:∀(i:Nat) (v:QN),Z[i]?=cL v->∃q key k x,v=.ref q/\ks[i]?=cL (k,x)/\knd.is k key=QM/\s.heap.IsTuple q #[key,x])
  (h:∀h' tk,h'.DictOf knd s.heap.objs.size (merged [] ks)->(∀b o,s.heap.get? b=cL o->h'.get? b=cL o)->Q (.ref s.heap.objs.size) {s with heap:=h',toks:=tk}):
  wpAny (model prog w) A (call (.type "dict") [.ref Y]) Q E s:=by
 refine callType_codes (Q₁:=λobj a=>obj=.ref s.heap.objs.size/\a={s with heap:=s.heap.push {cls:=.type "dict",data:=.dict #[]}}) F.kt_called_dict (F.kt_typeCall_dict_1 _) F.entry_dict_init (kt_code_dict_new _ ⟨rfl,rfl⟩) ?_;rintro obj a ⟨rfl,rfl⟩;have l:(s.heap.push {cls:=.type "dict",data:=.dict #[]}).DictOf knd s.heap.objs.size []:=Heap.DictOf.new s.heap;have r:(s.heap.push {cls:=.type "dict",data:=.dict #[]}).get? Y=cL ⟨.type "tuple",lD,.seq Z n,sl⟩:=b3 _ u;have G:({s with heap:=s.heap.push {cls:=.type "dict",data:=.dict #[]}}:QS).TypeIs (.ref Y) "tuple":=⟨_,r,rfl⟩;refine⟨l.typeIs,F.args_dict_init_2 _ _,?_⟩;unfold RD.«dict.__init__»;refine Ld ?_;unfold RD.Dict.selfAndRest;refine Ld (wpAny_notOrdered_dict l.typeIs ?_);refine QW ?_;show wpAny _ _ (RD.Dict.updateFrom "dict.__init__" s.heap.objs.size (.ref Y) [] .none) _ _ _;unfold RD.Dict.updateFrom;refine Ld (Yf G ?_);rw[ax (by decide)];refine Ld (nw r y λh' z g=>?_);rw[ax (show(lD:bg QN).isNone=QM from rfl)];refine Ld (VY ?_);have f:=g _ _ r;have m:h'.IsTuple Y Z:=⟨_,f,rfl,n,rfl⟩;refine Ld (Vp m ?_);refine QW ⟨TK F.plain_upd_loop _,?_⟩;have L7:s.heap.objs.size<h'.objs.size:=by obtain⟨o,_,_,j,_⟩:=l;exact b4 (g _ _ j)
 have d:=b4 u;refine Bh (A:=A.in1) (knd:=knd) y (Ri (TR d L7)) (Se L7) (Ri d) (λi v e=>?_) B hz (λp L J k2=>?_) Z.size 0 _ z (by ext) (Rz _) ⟨_,b5 _ rfl,rfl,rfl⟩ ⟨_,b3 _ f,rfl,n,rfl⟩ ?_ λb o _ _ e=>e
 .obtain⟨q,key,k,x,rfl,I,p,o,j,H⟩:=C i v e;have t:=b4 j;exact⟨q,key,k,x,rfl,Ri t,Ri (TR t L7),I,p,o,b3 _ (g _ _ (b3 _ j)),H⟩
 .refine⟨rfl,h p L J λb o e=>?_⟩;have lb:=b4 e;exact k2 b o (Ri lb) (Ri (TR lb L7)) (b3 _ (g _ _ (b3 _ e)))
 .have:=l.at (h':=h'.push {cls:=.type "tuple_iterator",data:=.fields #[.ref Y,.int 0 0]}) λo e=>b3 _ (g _ _ e);exact this
end
end PySem
namespace L10
open PySem PySem.Spec PyProof.Rows L2 L3
inductive Wk(K:Bn)(H:Hp):bb V->bb (bK×V)->Prop
 |nil:Wk K H [] []
 |cons {q:QT} {k:bK} {v:V} {vs:bb V} {kvs:bb (bK×V)}:UG K H q [kV k,v]->Wk K H vs kvs->Wk K H (.ref q::vs) ((k,v)::kvs)
def wE(K:Bn):bb V->Hp->VK->Prop:=λxs H Q=>∃p ys kvs,xs=[.ref p]/\UG K H p ys/\Wk K H ys kvs/\∀d,H d=lD->Q (.ref d) (bf H d (.dK (iO [] kvs)))
theorem Bg(I:Inv X pins σ H s):∀{ys:bb V} {kvs:bb (bK×V)} {us:bb QN},Wk X.K H ys kvs->Vals ys us->∃ks:bb (bK×QN),KV kvs ks/\ks.length=us.length/\∀(i:Nat) (v:QN),us[i]?=cL v->∃q key k x,v=.ref q/\ks[i]?=cL (k,x)/\(bM X.prog X.w).is k key=QM/\s.heap.IsTuple q #[key,x]
 |_,_,_,.nil,.nil=>⟨[],.nil,rfl,λi v e=>by simp at e⟩
 |_,_,_,.cons (q:=q) (k:=k) (v:=v) h t,.cons r rs=>by
  obtain⟨ks,n,m,l⟩:=Bg I t rs;obtain⟨o,rv,pl,_⟩:=I.tuple h;cases r;obtain⟨f,d,rfl,j,g⟩:∃f d,o=[f,d]/\RelV (kV k) f/\RelV v d:=by
   cases rv with
   |cons a b=>cases b with
    |cons b c=>cases c;exact⟨_,_,rfl,a,b⟩
  refine⟨(k,d)::ks,.cons ⟨rfl,g⟩ n,by rw[QZ,QZ,m],λi u e=>?_⟩;cases i with
  |zero=>cases e;exact⟨q,f,k,d,rfl,rfl,n6 j,pl⟩
  |succ i=>exact l i u (by simpa using e)
theorem wK(B:X.calm=QM):S3 X (.type "dict") (wE X.K):=by
 intro d s C H xs F Q I r h;obtain⟨p,E,kvs,rfl,l,m,q⟩:=h;obtain⟨u,rfl,f⟩:=hG r;cases f;obtain⟨P,rv,⟨o,t,⟨b,n,A⟩,a⟩,j⟩:=I.ZT l;obtain⟨M,k1,k2,k3⟩:=Bg I m rv;obtain⟨L,J,g,O⟩:=o;cases b;cases A;cases a;have w:=rv.length;have y:=k1.length;refine nA (I.ok.hd B) t (by rw[Q4];exact k2) (by rw[Q4,<-w];exact j) (λi v e=>k3 i v (by simpa using e)) λN G dd z=>?_;refine⟨.ref s.heap.objs.size,_,I.laid z (QV _) ?_,rfl,q _ (I.Sk.fresh (QV _))⟩;refine rY ?_ ?_ (KV.merge k1 .nil) dd
 .have:=iL kvs [];rw[Sz]at this;ext
 .exact beq_eq_false_iff_ne.mpr (Se I.big)
end L10
namespace L10
open PySem PyProof.Rows L2 L3
theorem Jq:Ry "dict"=cL (.type "dict"):=by left
section
variable{B O O':bS}{K:Bn}{E:XK}{H H' T S:Hp}{Z α' Y U:bb QT}{ω ω' ω1 ω2:aW}{X:L2.St}{ρ:aZ}{v:V}
def nt:SV->bg bK
 |.fz (.int i)=>cL (.inl i)
 |.fz (.str x)=>cL (.inr x)
 |_=>lD
theorem lr(e:nt x=cL k)(h:To O K H Z v x):v=kV k:=by
 unfold nt at e;split at e
 .cases e;cases h;rfl
 .cases e;cases h;rfl
 .cases e
abbrev oP(O:bS)(K:Bn)(H:Hp)(Z:bb QT):bb (bK×V)->bb (bK×SV)->Prop:=Paired (λ(p:bK×V) (q:bK×SV)=>p.1=q.1/\To O K H Z p.2 q.2)
def gL(ω:aW):SV->bg (Nat×bb (bK×SV))
 |.rf i=>match ω[i]? with
  |some (.Te kvs)=>cL (i,kvs)
  |_=>lD
 |_=>lD
theorem jV(s:Rj B K H Z ω)(b:To (ow B Z ω) K H Z v x)(h:gL ω x=cL (i,kvs)):ω[i]?=cL (.Te kvs)/\∃a ws,Z[i]?=cL a/\v=.ref a/\H a=cL (.dK ws)/\oP (ow B Z ω) K H Z ws kvs:=by
 cases x with
 |fz d=>cases h
 |tp l=>cases h
 |rf j=>
  obtain⟨a,ha,rfl⟩:=b;unfold gL at h;dsimp only at h;cases q:ω[j]? with
  |none=>rw[q]at h;cases h
  |some c=>
   rw[q]at h;cases c with
   |Te m=>have e:=Ra h;cases e;obtain⟨ws,g,f⟩:=s.V4 i a _ ha q;exact⟨q,a,ws,ha,rfl,g,f⟩
   |_=>cases h
def eD(kvs:bb (bK×SV))(k:bK):bg SV:=(kvs.find? λa=>decide (a.1=k)).map (·.2)
def cH(kvs:bb (bK×SV))(k:bK)(x:SV):bb (bK×SV):=
 if(kvs.any λa=>decide (a.1=k))=QM then kvs.map (λa=>if a.1=k then(a.1,x)else a)else kvs++[(k,x)]
def iM(kvs:bb (bK×SV))(k:bK):bb (bK×SV):=kvs.filter λa=>decide (a.1≠k)
theorem rT:∀{ws:bb (bK×V)} {kvs:bb (bK×SV)},oP O K H Z ws kvs->(∀x,eD kvs k=cL x->∃v,jy ws k=cL v/\To O K H Z v x)/\(eD kvs k=lD->jy ws k=lD):=by
 intro _ _ d
 induction d with
 |nil=>exact⟨λx e=>(by cases e),λ_=>rfl⟩
 | @cons p1 p2 ws kvs p3 t ih=>
  obtain⟨a,u⟩:=p1;obtain⟨b,y⟩:=p2;obtain⟨g,f⟩:=p3;cases g;unfold eD jy;rw[Sy,Sy];by_cases e:a=k
  .simp only[a4 e];exact⟨λx h=>⟨u,rfl,by cases h;exact f⟩,λh=>by cases h⟩
  .simp only[a5 e];exact ih
theorem ON:∀{ws:bb (bK×V)} {kvs:bb (bK×SV)},oP O K H Z ws kvs->(ws.any λkv=>decide (kv.1=k))=kvs.any λkv=>decide (kv.1=k):=by
 intro _ _ d
 induction d with
 |nil=>exact rfl
 | @cons p1 p2 ws kvs p3 t ih=>obtain⟨a,u⟩:=p1;obtain⟨b,y⟩:=p2;obtain⟨e,f⟩:=p3;cases e;rw[Tt,Tt,ih]
theorem OY(f:To O K H Z v x):∀{ws:bb (bK×V)} {kvs:bb (bK×SV)},oP O K H Z ws kvs->oP O K H Z (ws.map (λkv=>if kv.1=k then(kv.1,v)else kv)) (kvs.map (λkv=>if kv.1=k then(kv.1,x)else kv)):=by
 intro _ _ d
 induction d with
 |nil=>exact .nil
 | @cons p1 p2 ws kvs p3 t ih=>
  obtain⟨a,u⟩:=p1;obtain⟨b,y⟩:=p2;obtain⟨h,g⟩:=p3;cases h;rw[Q7,Q7];by_cases e:a=k
  .rw[ax e,ax e];exact .cons ⟨rfl,f⟩ (ih)
  .rw[a3 e,a3 e];exact .cons ⟨rfl,g⟩ (ih)
theorem AU(h:oP O K H Z ws kvs)(r:p.1=q.1/\To O K H Z p.2 q.2):oP O K H Z (ws++[p]) (kvs++[q]):=by
 induction h with
 |nil=>exact .cons r .nil
 |cons a _ b=>exact .cons a b
theorem yh(a:To O K H Z v x)(h:oP O K H Z ws kvs):oP O K H Z (iT ws k v) (cH kvs k x):=by
 unfold iT cH;rw[ON h];split
 .exact OY a h
 .exact AU h ⟨rfl,a⟩
theorem BH:∀{ws:bb (bK×V)} {kvs:bb (bK×SV)},oP O K H Z ws kvs->oP O K H Z (lM ws k) (iM kvs k):=by
 intro _ _ d
 induction d with
 |nil=>exact .nil
 | @cons p1 p2 ws kvs p3 t ih=>
  obtain⟨a,u⟩:=p1;obtain⟨b,y⟩:=p2;obtain⟨g,f⟩:=p3;cases g;unfold lM iM;rw[T4,T4];by_cases e:a=k
  .have z:decide (a≠k)=QP:=a5 λn=>n e;simp only[z];exact ih
  .have z:=a4 e;simp only[z];exact .cons ⟨rfl,f⟩ (ih)
def kT(neg:Bool)(fk fd:cR):cR:=λρ ω=>(fk ρ ω).bind λx ω1=>(fd ρ ω1).bind λo ω2=>(RS.RK ω2 (nt x)).bind λk ω2=>(RS.RK ω2 (gL ω2 o)).bind λp ω2=>.ok (.fz (.bool ((eD p.2 k).isSome !=neg))) ω2
theorem DL(h:oP O K H Z ws kvs):(jy ws k).isSome=(eD kvs k).isSome:=by
 obtain⟨b,a⟩:=rT h;cases q:eD kvs k with
 |none=>rw[a q];rfl
 |some x=>obtain⟨u,e,_⟩:=b x q;rw[e];rfl
theorem Gv(n:dr K E tk fk)(hd:dr K E td fd):dr K E (Oe tk td) (kT QP fk fd):=by intro B X H Z ω ρ Q s d w;refine n B X H Z ω ρ _ s d (w.bind.imp λx Y ω1 T e1 g f v l=>?_);refine hd B X T Y ω1 ρ _ g (d.Tr e1) (f.bind.imp λo U ω2 S e2 e b u m=>?_);obtain⟨k,j,b⟩:=WS.RK b;obtain⟨⟨i,kvs⟩,h,b⟩:=WS.RK b;obtain⟨_,a,ws,ha,rfl,q,p⟩:=jV e m h;refine⟨a,jy ws k,rfl,by rw[lr j l];exact Wv.k q,?_⟩;rw[DL p];refine WS.now e b _ ?_;rw[Bool.bne_false];exact .bl _
def aX(fd fk:cR):cR:=λρ ω=>(fd ρ ω).bind λo ω1=>(fk ρ ω1).bind λx ω2=>(RS.RK ω2 (nt x)).bind λk ω2=>(RS.RK ω2 (gL ω2 o)).bind λp ω2=>RS.RK ω2 (eD p.2 k)
theorem Br(hd:dr K E td fd)(r:dr K E tk fk):dr K E (HK td tk) (aX fd fk):=by
 intro B X H Z ω ρ Q s d w;refine hd B X H Z ω ρ _ s d (w.bind.imp λo Y ω1 T e1 h f u p=>?_);refine r B X T Y ω1 ρ _ h (d.Tr e1) (f.bind.imp λx U ω2 S e2 e b v n=>?_);obtain⟨k,l,b⟩:=WS.RK b;obtain⟨⟨i,kvs⟩,j,b⟩:=WS.RK b;obtain⟨_,a,ws,ha,rfl,A,t⟩:=jV e (p.Tr e2) j;dsimp only at b;cases q:eD kvs k with
 |none=>rw[q]at b;exact b.elim
 |some y=>rw[q]at b;obtain⟨z,m,g⟩:=(rT t).1 y q;exact⟨a,z,rfl,by rw[lr l n,<-m];exact Wv.k A,WS.now e b z g⟩
def dM(fd fk fv:cR):fw:=λρ ω=>(fv ρ ω).bind λy ω1=>(fd ρ ω1).bind λo ω2=>(fk ρ ω2).bind λx a=>(RS.RK a (nt x)).bind λk a=>(RS.RK a (gL a o)).bind λp a=>if p.2.length<1000000 then .ok (.nx ρ) (a.set p.1 (.Te (cH p.2 k y)))else .bad
theorem A7(hd:dr K E td fd)(M:dr K E tk fk)(J:dr K E tv fv):ti K E (IK td tk tv) (dM fd fk fv):=by
 intro B X H Z ω ρ D s f w;refine J B X H Z ω ρ _ s f (WS.imp (WS.bind w) λy Y ω1 T e1 C t m l=>?_);refine hd B X T Y ω1 ρ _ C (f.Tr e1) (WS.imp (WS.bind t) λo U ω2 S e2 A q u L=>?_);refine M B X S U ω2 ρ _ A (f.Tr (e1.trans e2)) (WS.imp (WS.bind q) λx b d g e3 n e z I=>?_);obtain⟨k,G,e⟩:=WS.RK e;obtain⟨⟨i,kvs⟩,F,e⟩:=WS.RK e;obtain⟨j,a,ws,ha,rfl,N,p⟩:=jV n (L.Tr e3) F;dsimp only at e;by_cases hn:kvs.length<1000000
 .rw[ax hn]at e;have ev:Ev (ow B b d) g (ow B b d) (bf g a (.dK (iT ws k m))):=sA ha j (by nofun);have e4:SF b d g b (d.set i (.Te (cH kvs k y))) (bf g a (.dK (iT ws k m))):=SF.put ha j (by nofun) (by nofun);have P:=Paired.length p;refine⟨a,_,rfl,by rw[lr G I];exact Yq.k N (vj (by ext)),?_⟩;exact e b _ e4 (n.put ha j (by nofun) (by nofun) ⟨_,aE,yh ((l.Tr (e2.trans e3)).ev ev λ_ _ h=>h) (Paired.TU p λ_ _ r=>⟨r.1,r.2.ev ev λ_ _ h=>h⟩)⟩) X ((f.Tr (e1.trans (e2.trans e3))).Tr e4)
 .rw[a3 hn]at e;exact e.elim
def nZ(fd fk:cR):cR:=λρ ω=>(fd ρ ω).bind λo ω1=>(RS.RK ω1 (gL ω1 o)).bind λ_ ω1=>(fk ρ ω1).bind λx ω2=>(RS.RK ω2 (nt x)).bind λk ω2=>(RS.RK ω2 (gL ω2 o)).bind λp ω2=>(RS.RK ω2 (eD p.2 k)).bind λy ω2=>.ok y (ω2.set p.1 (.Te (iM p.2 k)))
theorem Dl(hd:dr K E td fd)(I:dr K E tk fk):dr K E (Ch td tk) (nZ fd fk):=by intro B X H Z ω ρ Q s g w;refine hd B X H Z ω ρ _ s g (w.bind.imp λo Y ω1 T e1 l e u m=>?_);obtain⟨⟨N,M⟩,C,e⟩:=WS.RK e;obtain⟨_,a,d,_,rfl,g0,_⟩:=jV l m C;refine⟨a,rfl,.inl ⟨d,.inl g0⟩,?_⟩;refine I B X T Y ω1 ρ _ l (g.Tr e1) (e.bind.imp λx U ω2 S e2 j b v G=>?_);obtain⟨k,A,b⟩:=WS.RK b;obtain⟨⟨i,kvs⟩,t,b⟩:=WS.RK b;obtain⟨f,P,ws,ha,L,J,n⟩:=jV j (m.Tr e2) t;cases L;dsimp only at b;obtain⟨y,q,b⟩:=WS.RK b;obtain⟨z,F,p⟩:=(rT n).1 y q;have ev:Ev (ow B U ω2) S (ow B U ω2) (bf S a (.dK (lM ws k))):=sA ha f (by nofun);have e4:SF U ω2 S U (ω2.set i (.Te (iM kvs k))) (bf S a (.dK (lM ws k))):=SF.put ha f (by nofun) (by nofun);refine⟨ws,k,z,J,lr A G,F,?_⟩;exact b U _ e4 (j.put ha f (by nofun) (by nofun) ⟨_,aE,BH (Paired.TU n λ_ _ r=>⟨r.1,r.2.ev ev λ_ _ h=>h⟩)⟩) z (p.Tr e4)
def DU:cR:=λ_ ω=>.ok (.rf ω.length) (ω++[.Te []])
theorem kZ(s:Rj B K H Z ω)(a:H p=lD)(w:WS K E B H Z ω (PQ B K Q) (.ok (.rf ω.length) (ω++[c])))(d:∀e:SF Z ω H (Z++[p]) (ω++[c]) (bf H p o),Ya (ow B (Z++[p]) (ω++[c])) K (bf H p o) (Z++[p]) p c):Q (.ref p) (bf H p o):=by have b:Sv H (bf H p o):=bO a _;have e:SF Z ω H (Z++[p]) (ω++[c]) (bf H p o):=SF.W6 s.len b a;exact w _ _ e (s.W6 b a (by rw[aE];simp) (d e)) _ ⟨p,by rw[<-s.len];exact aM,rfl⟩
theorem Du:dr K E Da DU:=by intro B X H Z ω ρ Q s b w;exact λp a=>kZ s a w λ_=>⟨[],aE,.nil⟩
def kF(fd:cR):cR:=λρ ω=>(fd ρ ω).bind λo ω1=>(RS.RK ω1 (gL ω1 o)).bind λp ω1=>.ok (.rf ω1.length) (ω1++[.lst (p.2.map (·.2))])
theorem ui:∀{ws:bb (bK×V)} {kvs:bb (bK×SV)},oP O K H Z ws kvs->Tv O K H Z (ws.map (·.2)) (kvs.map (·.2)):=by
 intro _ _ a
 induction a with
 |nil=>exact .nil
 | @cons _ _ _ _ h t ih=>exact .cons h.2 (ih)
theorem BO(hd:dr K E td fd):dr K E (zY Cu (iC (Fm K "dict" xC td) kx)) (kF fd):=by intro B X H Z ω ρ Q s j w;refine hd B X H Z ω ρ _ s j (w.bind.imp λo Y ω1 T e1 g d u q=>?_);obtain⟨⟨i,kvs⟩,n,d⟩:=WS.RK d;obtain⟨A,a,ws,ha,rfl,f,z⟩:=jV g q n;refine⟨.inr (.inr (.inl ⟨rfl,.inl ⟨ws,f⟩⟩)),a,ws,rfl,rfl,f,λp t=>?_⟩;have b:Sv T (bf T p (zZ p a)):=bO t _;have m:=g.grow b;have h:=WS.from (SF.same b) d;refine⟨p,a,ws,rfl,aE,b _ _ f,λl y=>?_⟩;refine kZ m y h λe=>⟨_,aE,ui (Paired.TU z λ_ _ r=>⟨r.1,(r.2.Tr (SF.same b)).Tr e⟩)⟩
def wz:bK->bg Int
 |.inl i=>cL i
 |.inr _=>lD
def kG(fd:cR):cR:=λρ ω=>(fd ρ ω).bind λo ω1=>(RS.RK ω1 (gL ω1 o)).bind λp ω1=>(RS.RK ω1 (aD wz (p.2.map (·.1)))).bind λa ω1=>if a.length<64 then .ok (.rf ω1.length) (ω1++[.lst ((jM a).map λi=>SV.fz (.int i))])else .bad
theorem pZ:∀{ks:bb bK} {ns:bb Int},aD wz ks=cL ns->ks=ns.map Sum.inl
 |[],_,e=>by cases e;rfl
 |k::r,ns,e=>by
  unfold aD at e;cases k with
  |inr x=>cases e
  |inl i=>
   dsimp only[wz]at e;cases q:aD wz r with
   |none=>rw[q]at e;cases e
   |some a=>rw[q]at e;cases e;rw[Q7,<-pZ q]
theorem Dc:∀{ws:bb (bK×V)} {kvs:bb (bK×SV)},oP O K H Z ws kvs->ws.map (·.1)=kvs.map (·.1):=by
 intro _ _ a
 induction a with
 |nil=>exact rfl
 | @cons _ _ _ _ h t ih=>rw[Q7,Q7,h.1,ih]
theorem yl(O:bS)(K:Bn)(H:Hp)(Z:bb QT):∀ns:bb Int,Tv O K H Z (ns.map V.int) (ns.map λi=>SV.fz (.int i))
 |[]=>.nil
 |n::r=>.cons (.int n) (yl O K H Z r)
theorem Aw(hd:dr K E td fd):dr K E (zY wQ (iC td kx)) (kG fd):=by
 intro B X H Z ω ρ Q s g w;refine hd B X H Z ω ρ _ s g (w.bind.imp λo Y ω1 T e1 f b u m=>?_);obtain⟨⟨i,kvs⟩,j,b⟩:=WS.RK b;obtain⟨z,a,ws,ha,rfl,t,r⟩:=jV f m j;obtain⟨d,h,b⟩:=WS.RK b;by_cases hn:d.length<64
 .rw[ax hn]at b;refine⟨a,ws,d,rfl,t,by rw[Dc r];exact pZ h,hn,λl A q p n=>?_⟩;have y:=ki (p.trans (eZ d).symm) n (d6 d);subst y;exact kZ f q b λe=>⟨_,aE,yl _ _ _ _ _⟩
 .rw[a3 hn]at b;exact b.elim
def pz:D->bg (bK×SV)
 |.tuple [.int i,d]=>cL (.inl i,.fz d)
 |.tuple [.str x,d]=>cL (.inr x,.fz d)
 |_=>lD
def sU:SV->bg (bb (bK×SV))
 |.fz (.tuple ds)=>aD pz ds
 |_=>lD
theorem zw(e:sU x=cL ps):∃ds,x=.fz (.tuple ds)/\aD pz ds=cL ps:=by
 unfold sU at e;split at e
 .exact⟨_,rfl,e⟩
 .cases e
def gH(kvs a:bb (bK×SV)):bb (bK×SV):=a.foldl (λb d=>cH b d.1 d.2) kvs
def ri(fe:cR):cR:=λρ ω=>(fe ρ ω).bind λx ω1=>(RS.RK ω1 (sU x)).bind λps ω1=>.ok (.rf ω1.length) (ω1++[.Te (gH [] ps)])
theorem uu:∀{vs:bb V} {ds:bb D} {ps:bb (bK×SV)},L3.Ss O K H vs ds->aD pz ds=cL ps->∃kvs,Wk K H vs kvs/\oP O K H Z kvs ps
 |_,_,_,.nil,e=>by cases e;exact⟨[],.nil,.nil⟩
 |_,_,_,.cons (d:=d) (ds:=ds) h t,e=>by
  unfold aD at e;cases q:pz d with
  |none=>rw[q]at e;cases e
  |some p=>
   rw[q]at e;dsimp only at e;cases q2:aD pz ds with
   |none=>rw[q2]at e;cases e
   |some ps=>
    rw[q2]at e;cases e;obtain⟨kvs,k1,k2⟩:=uu t q2;unfold pz at q;split at q
    .cases q
     cases h with
     |tup h f=>cases f with
      |cons a b=>cases b with
       |cons b c=>cases c;cases a;exact⟨(.inl _,_)::kvs,.cons h.1 k1,.cons ⟨rfl,b⟩ k2⟩
    .cases q
     cases h with
     |tup h f=>cases f with
      |cons a b=>cases b with
       |cons b c=>cases c;cases a;exact⟨(.inr _,_)::kvs,.cons h.1 k1,.cons ⟨rfl,b⟩ k2⟩
    .cases q
theorem sM:∀{d:bb (bK×V)} {e:bb (bK×SV)} {ws:bb (bK×V)} {kvs:bb (bK×SV)},oP O K H Z d e->oP O K H Z ws kvs->oP O K H Z (iO ws d) (gH kvs e)
 |_,_,_,_,.nil,h=>h
 |(a,u)::d,(b,y)::e,_,_,.cons r t,h=>by obtain⟨g,f⟩:=r;cases g;show oP O K H Z (iO (iT _ a u) d) (gH (cH _ a y) e);exact sM t (yh f h)
theorem BR(l:dr K E te fe):dr K E (zY (wE K) (iC te kx)) (ri fe):=by
 intro B X H Z ω ρ Q s f w;refine l B X H Z ω ρ _ s f (w.bind.imp λx Y ω1 T e1 g b u i=>?_);obtain⟨ps,q,a⟩:=WS.RK b;obtain⟨ds,rfl,q⟩:=zw q;have a:=a;cases i with
 |tup h j=>obtain⟨kvs,k1,k2⟩:=uu j q;exact⟨_,_,kvs,rfl,h.1,k1,λd m=>kZ g m a λe=>⟨_,aE,sM (Paired.TU k2 λ_ _ r=>⟨r.1,r.2.Tr e⟩) .nil⟩⟩
end
end L10
namespace PySem
open PyProof.Rows
def kq:bg Int->Int->bg Int
 |none,x=>cL x
 |some m,x=>cL (if x>m then x else m)
def M9:bg (Int×Tok)->Array QN
 |none=> #[]
 |some (m,t)=> #[.int m t,.int m t]
def Io(d:QN):bg (Int×Tok)->QN
 |none=>d
 |some (m,t)=>.int m t
namespace F
theorem args_maxd(a b:QN):checkBuiltinCall "max" ⟨[a],[("default",b)]⟩=pure ():=by kernel_rfl
end F
section
variable{prog:Rb}{w:Rr}{A:Rt}{E:QN->QS->Prop}{R:Xf->QS->Prop}{I l S:QT}{vs:bb QN}{d:QN}
theorem HD(hh:A.handled=lD)(U0:l≠I)(g:S≠I)(K:S≠l){s:QS}:
  ∀{Y:bb QN} {ns:bb Int},IntsAre Y ns->∀(i:Nat) (h:Heap) (H:Nat) (b:bg (Int×Tok)) (c:Nat),vs=vs.take i++Y->i<=vs.length->h.IsListIter I l i->h.IsList l vs.toArray->h.get? S=cL {cls:=.type "list",dict:=lD,data:=.seq (M9 b) c,slots:= #[]}->
  (∀h' H b',b'.map (·.1)=ns.foldl kq (b.map (·.1))->(∀a o,a≠I->a≠S->h.get? a=cL o->h'.get? a=cL o)->R (.ok (.ret (Io d b'))) {s with heap:=h',toks:=H})->
  codeAny (model prog w) A (.builtin "max.loop" ⟨[.ref I,.none,.ref S],[("default",d)]⟩) R {s with heap:=h,toks:=H}:=by
 have W:=Walks.list (prog:=prog) (w:=w) (A:=A.in1) hh I l U0 vs.toArray;intro Y ns hi
 induction hi with
 |nil=>
  intro i h H b c j hi U T L C;have e:i=vs.toArray.size:=by rw[Ru]at j;have:=d5 Vc j;rw[Sf]at this;rw[Q4];ext
  refine TM F.entry_max_loop ?_;rw[Rt.under_plainId F.plain_max_loop _];refine Ld (Sm L rfl ?_);refine Ld (Vv (W.done _ _ _ (e▸⟨U,T⟩) λh' G q=>?_));have z:=q S _ (by simpa using g) L;cases b with
  |none=>refine Ld (VY (QW ?_));exact C h' G lD rfl λa o f r e=>q a o (by simpa using f) e
  |some p=>obtain⟨m,t⟩:=p;refine Ld (WZ z rfl (Ld (Ua (QW ?_))) (hz:=by show 2<=Q3;decide));exact C _ G (cL (m,t)) rfl λa o f r e=>(b7 _ _ (dt r)).trans (q a o (by simpa using f) e)
 | @cons n t adP abC hr ih=>
  intro i h H b c j hi U T L C;have Uv:i<vs.toArray.size:=by have:=d5 Vc j;rw[Q1,Sf,QZ]at this;rw[Q4];ext
  have J:vs[i]?=cL (.int n t):=by rw[j,Rq (by rw[Sf];ext),Sf,Nat.min_eq_left hi,aaV];rfl
  have u:vs=vs.take (i+1)++adP:=by rw[Yh,J];rw[Sa];exact j
  have W4:i+1<=vs.length:=by rw[Q4]at Uv;exact Uv
  refine TM F.entry_max_loop ?_;rw[Rt.under_plainId F.plain_max_loop _];refine Ld (Sm L rfl ?_);refine Ld (Vv (W.item i _ _ _ Uv ⟨U,T⟩ λv h' G hP B q=>?_));have ev:v=.int n t:=by have M:=hP;rw[List.getElem?_toArray,J]at M;exact(Ra M).symm
  subst ev;have z:=q S _ (by simpa using g) L;have Z:(toString "max"++toString ".loop":String)= "max.loop":=by decide
  cases b with
  |none=>
   show wpAny _ A.in1 (updateSeq S (λ_=> #[QN.int n t,QN.int n t])>>=_) _ _ _;refine Ld (WZ z rfl ?_);rw[Z];refine QW ⟨TK F.plain_max_loop _,ih (i+1) _ G (cL (n,t)) _ u W4 (B.1.at λo e=>?_) (B.2.at λo e=>?_) (cc _ z rfl) λr O N e2 k2=>C r O N e2 λa o f y e=>k2 a o f y ((b7 _ _ (dt y)).trans (q a o (by simpa using f) e))⟩
   .exact(b7 _ _ g).trans e
   .exact(b7 _ _ K).trans e
  |some p=>
   obtain⟨m,t0⟩:=p;show wpAny _ A.in1 (tryCatch (holding [QN.int n t,QN.int n t] (richCompare .Gt (QN.int n t) (QN.int m t0)>>=_)) _>>=_) _ _ _;have X:=CmpOf.ints_gt (prog:=prog) (w:=w) (A:=A.in1) (P:=λ(k:Nat) v=>(k=0/\v=QN.int n t)\/(k=1/\v=QN.int m t0)) (λk=>if k=0 then n else m) λk v j=>by
    rcases j with⟨rfl,rfl⟩|⟨rfl,rfl⟩
    .exact⟨t,rfl⟩
    .exact⟨t0,rfl⟩
   refine Ld (Vv (TH (Ld (X 0 1 _ _ _ _ _ (.inl ⟨rfl,rfl⟩) (.inr ⟨rfl,rfl⟩) ?_))));refine Ld (TH (R8 ?_));refine Ld (Ua (QW ?_));show wpAny _ A.in1 (if decide (n>m)=QM then _ else _) _ _ _;by_cases Q:n>m
   .rw[ax (a4 Q)]
    refine Ld (WZ z rfl (Ld (Ua ?_)) (hz:=by show 2<=Q3;decide));rw[Z];refine QW ⟨TK F.plain_max_loop _,ih (i+1) _ G (cL (n,t)) _ u W4 (B.1.at λo e=>?_) (B.2.at λo e=>?_) (cc _ z rfl) λr O N e2 k2=>C r O N ?_ λa o f y e=>k2 a o f y ((b7 _ _ (dt y)).trans (q a o (by simpa using f) e))⟩
    .exact(b7 _ _ g).trans e
    .exact(b7 _ _ K).trans e
    .rw[e2];show _=abC.foldl kq (cL (if n>m then n else m));rw[ax Q];rfl
   .rw[a3 (by rw[a5 Q];exact Rh)];refine Ld (Ua ?_);rw[Z];refine QW ⟨TK F.plain_max_loop _,ih (i+1) _ G (cL (m,t0)) c u W4 B.1 B.2 z λr O N e2 k2=>C r O N ?_ λa o f y e=>k2 a o f y (q a o (by simpa using f) e)⟩;rw[e2];show _=abC.foldl kq (cL (if n>m then n else m));rw[a3 Q];rfl
theorem zA(m:A.handled=lD)(g:s.heap.IsList l vs.toArray)(hi:IntsAre vs ns)
  (p:∀h' tk b,b.map (·.1)=ns.foldl kq lD->(∀a o,s.heap.get? a=cL o->h'.get? a=cL o)->Q (Io d b) {s with heap:=h',toks:=tk}):
  wpAny (model prog w) A (call (.builtin "max") [.ref l] [("default",d)]) Q E s:=by
 have i:l<s.heap.objs.size:=by obtain⟨_,e,_⟩:=g;exact b4 e
 have q:(toString "max"++toString ".loop":String)= "max.loop":=by decide
 refine ZE (Y1 F.plain_max F.entry_max (WJ (F.args_maxd _ _) ?_));refine Ld (WJ (show RD.Builtins.bindParams "max" ["key","default"] 0 ⟨[],[("default",d)]⟩=pure [lD,cL d]from rfl) ?_);refine Ld (QW ?_);refine Ld (TJ g ?_);refine Ld (Sb ?_);rw[q];have f:(s.heap.push {cls:=.type "list_iterator",data:=.fields #[.ref l,.int 0 0]}).objs.size=s.heap.objs.size+1:=ck _ _;refine QW ⟨TK F.plain_max_loop _,HD m (Ri i) (by rw[f];exact Nat.succ_ne_self _) (by rw[f];exact Se (Uy i)) hi 0 _ s.toks lD 0 rfl (Rz _) ⟨_,b3 _ (b5 _ rfl),rfl,rfl⟩ ((g.push _).push _) (b5 _ rfl) λh' tk b n j=>?_⟩;refine p h' tk b n λa o e=>?_;have h:=b4 e;exact j a o (Ri h) (by rw[f];exact Ri (Uy h)) (b3 _ (b3 _ e))
end
end PySem
namespace L10
open PySem PySem.Spec PyProof.Rows L2 L3
def Ie(K:Bn)(i:Int):bb V->Hp->VK->Prop:=λxs H Q=>∃(p:QT) (a:bb Int),xs=[.ref p]/\Uq K H p (a.map V.int)/\Q (.int ((a.foldl kq lD).getD i)) H
theorem E9(B:X.calm=QM)(A:Gl X "max")(hm:X.mg "max"=lD)(ha:PA X [l] ta)(f:KI l=QP:=by rfl):
  PE X (.Call (.Name "max" p) [l] [⟨cL "default",.Constant (.int i) j p1,p2⟩] pos) (zY (Ie X.K i) ta):=by
 intro d s g H Q I h;refine TQ (my I A hm Cj (callWith_kw (cF (ha pos d s g H _ I h) λF n ⟨vs,E,e,r,v⟩=>?_) (by rw[ra _ _ _ f];rfl) (by rw[ra _ _ _ f];rfl) rfl rfl));obtain⟨a,w,rfl,y,q⟩:=v;obtain⟨u,rfl,o⟩:=hG r;cases o;obtain⟨M,rv,pl,J⟩:=e.list y;refine abM (ZA (abN ?_));have N:=e.tok (n.toks+1);refine zA (e.ok.hd B) pl.isList (ju rv) λL G b C z=>?_;refine⟨.int ((w.foldl kq lD).getD i),E,e.kept z,?_,q⟩;rw[<-C];cases b with
 |none=>exact⟨_,rfl⟩
 |some p=>obtain⟨m,t⟩:=p;exact⟨t,rfl⟩
def xm(i:Int):bb D->bg RV
 |[.list ds]=>(jB ds).map λa=>.fz (.int ((a.foldl kq lD).getD i))
 |_=>lD
theorem Fr{K:Bn}:vt K (Ie K i) (xm i):=by
 intro O H xs ds rv Q n d e q;unfold xm at e;split at e
 .rename_i es
  cases d with
  |cons j h=>
   cases h;cases qa:jB es with
   |none=>rw[qa]at e;cases e
   |some b=>rw[qa]at e;cases e;obtain⟨a,vs,rfl,g,f⟩:=vG j;obtain rfl:=lu f qa;exact⟨a,b,rfl,g.sq,q.at (.int _)⟩
 .cases e
end L10
namespace L10
open PySem L2 L3
section
variable{B O O':bS}{K:Bn}{E:XK}{H U H1 H2:Hp}{X Y T α2:bb QT}{ω Z ω1 ω2:aW}{σ:L2.St}{ρ:aZ}{v:V}
theorem g6{l r:bb A}(h:(l++r)[i]?=cL y):l[i]?=cL y\/∃j,i=l.length+j/\r[j]?=cL y:=by
 by_cases hi:i<l.length
 .rw[Ro hi]at h;exact .inl h
 .rw[Rq (by ext)]at h;exact .inr ⟨i - l.length,by ext,h⟩
theorem dL{l r:bb A}{i:Nat}(h:l[i]?=cL y):(l++r)[i]?=cL y:=by rw[Ro (QU.mp h).1];exact h
theorem Cy{l r:bb A}(h:r[i]?=cL y):(l++r)[l.length+i]?=cL y:=by rw[Rq (by ext),Nat.add_sub_cancel_left];exact h
theorem Ed(g:X.length=ω.length)(h:Lv (X++ps) (ω++cs) b):Lv X ω b\/b∈ps:=by
 obtain⟨i,d,f,e,a⟩:=h;rcases g6 f with g1|⟨j,e1,g1⟩
 .rcases g6 e with g2|⟨k,e2,g2⟩
  .exact .inl ⟨i,d,g1,g2,a⟩
  .have:=(QU.mp g1).1;ext
 .exact .inr (RO g1)
theorem SF.WB(s:Rj B K H X ω)(e:Sv H U)(d:∀p∈ps,H p=lD):SF X ω H (X++ps) (ω++cs) U:=
 ⟨λi a h=>dL h,λb u q _=>e b u q,λb z=>(Ed s.len z).imp id λz=>d b z⟩
theorem Rj.WB(s:Rj B K H X ω)(e:Sv H U)(f:∀p∈ps,H p=lD)(m:∀p∈ps,U p≠lD)(nd:∀(i j:Nat) (a:QT),ps[i]?=cL a->ps[j]?=cL a->i=j)(t:ps.length=cs.length)
  (new:∀(i:Nat) (a:QT) (c:Cell),ps[i]?=cL a->cs[i]?=cL c->Ya (ow B (X++ps) (ω++cs)) K U (X++ps) a c):Rj B K U (X++ps) (ω++cs):=by
 have ev:SF X ω H (X++ps) (ω++cs) U:=SF.WB s e f;have n:∀b,H b≠lD->U b≠lD:=λb h z=>h (e.free z);refine⟨by rw[Q1,Q1,s.len,t],λi j a g l=>?_,λa h=>n a (s.bn a h),λa h i q=>?_,λi a h=>?_,λi a d g l=>?_⟩
 .rcases g6 g with g1|⟨i',e1,g1⟩<;>rcases g6 l with g2|⟨j',e2,g2⟩
  .exact s.nd i j a g1 g2
  .exact a7 (f a (RO g2)) (s.al i a g1)
  .exact a7 (f a (RO g1)) (s.al j a g2)
  .have:=nd i' j' a g1 g2;ext
 .rcases g6 q with q|⟨j,_,q⟩
  .exact s.ba a h i q
  .exact s.bn a h (f a (RO q))
 .rcases g6 h with h|⟨j,_,h⟩
  .exact n a (s.al i a h)
  .exact m a (RO h)
 .have r:=s.len
  rcases g6 l with g2|⟨j,e2,g2⟩
  .rcases g6 g with g1|⟨k,e1,g1⟩
   .exact(s.V4 i a d g1 g2).ev ev.ev ev.pre λo q=>e _ _ q
   .have:=(QU.mp g2).1;ext
  .rcases g6 g with g1|⟨k,e1,g1⟩
   .have:=(QU.mp g1).1;ext
   .have:k=j:=by ext
    subst this;exact new k a d g1 g2
def zX(Z:aW):Nat->bb AV->bg (bb AV×bb (bb D)×bb Nat)
 |_,[]=>cL ([],[],[])
 |n,.fz d::r=>match zX Z n r with
  |some (l,cs,js)=>cL (.fz d::l,cs,js)
  |none=>lD
 |n,.rf i::r=>match sh Z (.rf i)with
  |some (.list ds)=>(match zX Z (n+1) r with
   |some (l,cs,js)=>cL (.rf n::l,ds::cs,i::js)
   |none=>lD)
  |_=>lD
def Ot(ds:bb D):Cell:=.lst (ds.map .fz)
def nG(x:SV)(Z ω:aW):RS SV:=match x with
 |.fz d=>.ok (.fz d) ω
 |.rf i=>(match sh Z (.rf i)with
  |some (.list ds)=>jD ω (.ow ds)
  |_=>.bad)
 |.tp l=>(match zX Z ω.length l with
  |some (l',cs,js)=>if js.Nodup then .ok (.tp l') (ω++cs.map Ot)else .bad
  |none=>.bad)
theorem tN(h:sh ω (.rf i)=cL (.list ds)):∃xs,ω[i]?=cL (.lst xs)/\aD rM xs=cL ds:=by
 unfold sh at h;dsimp only at h;cases q:ω[i]? with
 |none=>rw[q]at h;cases h
 |some c=>
  rw[q]at h;cases c with
  |lst xs=>
   dsimp only at h;cases q2:aD rM xs with
   |none=>rw[q2]at h;cases h
   |some es=>rw[q2]at h;cases h;exact⟨xs,rfl,q2⟩
  |_=>cases h
theorem kM(s:Rj B K H X ω)(h:sh ω (.rf i)=cL (.list ds)):∃a vs,X[i]?=cL a/\H a=cL (.lst vs)/\L3.Ss (ow B X ω) K H vs ds/\ow B X ω a:=by obtain⟨xs,b,d⟩:=tN h;obtain⟨a,ha⟩:=s.at b;obtain⟨vs,g,f⟩:=s.V4 i a _ ha b;exact⟨a,vs,ha,g,kJ (c7 (R:=To (ow B X ω) K H X) (λv x y r e=>wj r e) f d),.inr ⟨i,_,ha,b,by intro z;cases z⟩⟩
theorem NU{m:bS}(s:Rj m K U Y Z):∀{n:Nat} {l o:bb AV} {cs:bb (bb D)} {g:bb Nat} {xs:bb V},zX Z n l=cL (o,cs,g)->Paired (Yb (ow m Y Z) K U Y) xs l->
  ∃ps:bb QT,ps.length=g.length/\cs.length=g.length/\(∀(k j:Nat),g[k]?=cL j->∃a ds vs,ps[k]?=cL a/\cs[k]?=cL ds/\Y[j]?=cL a/\U a=cL (.lst vs)/\L3.Ss (ow m Y Z) K U vs ds/\ow m Y Z a)/\
   ∀(b:bb QT),b.length=n->Paired (Yb (ow m Y Z) K U (b++ps)) xs o:=by
 intro n l o cs g xs e p
 induction p generalizing n o cs g with
 |nil=>cases e;exact⟨[],rfl,rfl,λk j h=>by simp at h,λb _=>.nil⟩
 | @cons _ x _ r h t ih=>
  cases x with
  |fz d=>
   unfold zX at e;cases q:zX Z n r with
   |none=>rw[q]at e;cases e
   |some p=>obtain⟨I,C,u⟩:=p;rw[q]at e;cases e;obtain⟨ps,A,z,y,w⟩:=ih q;exact⟨ps,A,z,y,λb f=>.cons h (w b f)⟩
  |rf i=>
   unfold zX at e;cases qs:sh Z (.rf i)with
   |none=>rw[qs]at e;cases e
   |some d=>
    rw[qs]at e;cases d with
    |list ds=>
     dsimp only at e;cases q:zX Z (n+1) r with
     |none=>rw[q]at e;cases e
     |some p=>
      obtain⟨I,C,u⟩:=p;rw[q]at e;cases e;obtain⟨ps,A,z,y,w⟩:=ih q;obtain⟨a,vs,ha,J,M,L⟩:=kM s qs;refine⟨a::ps,by rw[QZ,QZ,A],by rw[QZ,QZ,z],λk j F=>?_,λb f=>?_⟩
      .cases k with
       |zero=>cases F;exact⟨a,ds,vs,rfl,rfl,ha,J,M,L⟩
       |succ k=>exact y k j (by simpa using F)
      .have e2:b++a::ps=(b++[a])++ps:=by simp
       obtain⟨N,G,rfl⟩:=h;rw[ha]at G;cases G;refine .cons ⟨a,by rw[<-f];exact Cy (l:=b) (r:=a::ps) (i:=0) rfl,rfl⟩ ?_;rw[e2];exact w (b++[a]) (by rw[Q1,f];rfl)
    |_=>cases e
theorem yR(s:Rj B K H X ω)(w:WS K E B H X ω (PQ B K Q) (nG x Z ω))(e':SF [] [] H Y Z U)(F:Rj (ow B X ω) K U Y Z)(I:To (ow (ow B X ω) Y Z) K U Y v x):Q v U:=by
 have C:=λb o h=>e'.kp b o h λ⟨i,c,q,_⟩=>by simp at q
 have sub:∀b,ow B X ω b->ow (ow B X ω) Y Z b:=λb z=>.inl z;have fr:=λi a c P h2 h3=>(e'.lv a ⟨i,c,P,h2,h3⟩).elim (λ⟨i,c,q,_⟩=>by simp at q) id;cases x with
 |fz d=>exact w X U (SF.same C) (s.grow C) v (DV.ev (Ev.sub sub) I)
 |rf i=>
  unfold nG at w;dsimp only at w;cases qs:sh Z (.rf i)with
  |none=>rw[qs]at w;exact w.elim
  |some d=>
   rw[qs]at w;cases d with
   |list ds=>obtain⟨a,vs,ha,P,hd,L⟩:=kM F qs;obtain⟨xs,e,_⟩:=tN qs;obtain⟨a',Yt,rfl⟩:=I;rw[ha]at Yt;cases Yt;exact pP s w C (fr i a _ ha e (by nofun)) P hd sub L
   |_=>exact w.elim
 |tp l=>
  unfold nG at w;dsimp only at w;cases qg:zX Z ω.length l with
  |none=>rw[qg]at w;exact w.elim
  |some p=>
   obtain⟨l',cs,G⟩:=p;rw[qg]at w;dsimp only at w;by_cases hn:G.Nodup
   .rw[ax hn]at w
    obtain⟨a,xs,rfl,ht,hl⟩:=I;obtain⟨ps,g1,g2,g3,g4⟩:=NU F qg hl;have A:∀(k:Nat) (b:QT),ps[k]?=cL b->∃j ds vs,G[k]?=cL j/\cs[k]?=cL ds/\Y[j]?=cL b/\U b=cL (.lst vs)/\L3.Ss (ow (ow B X ω) Y Z) K U vs ds/\ow (ow B X ω) Y Z b:=λk b hb=>by
     have f:k<G.length:=by rw[<-g1];exact(QU.mp hb).1
     obtain⟨b',ds,vs,e,y,u,m,t,g⟩:=g3 k _ (QY f);rw[hb]at e;cases e;exact⟨_,ds,vs,QY f,y,u,m,t,g⟩
    have nB:∀(j:Nat) (b:QT),Y[j]?=cL b->ow (ow B X ω) Y Z b->H b=lD:=λj b M L=>by
     rcases L with z|⟨i,c,z1,z2,z3⟩
     .exact a7 M (F.ba b z j)
     .exact fr i b c z1 z2 z3
    have fp:∀p∈ps,H p=lD:=λp J=>by obtain⟨k,f⟩:=T1.mp J;obtain⟨j,ds,vs,e,y,u,m,t,g⟩:=A k p f;exact nB j p u g
    have n:∀b,ow B (X++ps) (ω++cs.map Ot) b->ow (ow B X ω) Y Z b:=λb z=>by
     rcases z with z|z
     .exact .inl (.inl z)
     .rcases Ed s.len z with z|z
      .exact .inl (.inr z)
      .obtain⟨k,f⟩:=T1.mp z;obtain⟨j,ds,vs,e,y,u,m,t,g⟩:=A k b f;exact g
    have ev:=SF.WB (cs:=cs.map Ot) s C fp;refine w (X++ps) U ev (s.WB C fp (λp J=>?_) (λi j b hi M=>?_) (by rw[QQ,g1,g2]) λi b c hi S=>?_) (.ref a) ⟨a,xs,rfl,ht.ev (Ev.sub n),Paired.TU (g4 X s.len) λ_ _ r=>r.ev (Ev.sub n) λ_ _ h=>h⟩
    .obtain⟨k,f⟩:=T1.mp J;obtain⟨j,ds,vs,e,y,u,m,t,g⟩:=A k p f;rw[m];simp
    .obtain⟨j1,_,_,R,_,p3,_⟩:=A i b hi;obtain⟨j2,_,_,r1,_,r3,_⟩:=A j b M;have:=F.nd j1 j2 b p3 r3;subst this;have N:=(QU.mp R).1;exact(List.getElem?_inj N hn).mp (R.trans r1.symm)
    .obtain⟨j,ds,vs,e,y,u,m,t,g⟩:=A i b hi;rw[Q5,y]at S;cases S;exact⟨vs,m,mi _ _ (t.ev (Ev.sub n))⟩
   .rw[a3 hn]at w;exact w.elim
def rq(F:g9)(n:Nat)(xs:bb SV)(ω:aW):RS SV:=if xs.length=n then(match aD rM xs with
 |some ds=>(match F (ds.map .fz) []with
  |.ok x Z=>nG x Z ω
  |.er x _=>.er x ω
  |.bad=>.bad)
 |none=>.bad)else .bad
def qR(F:g9)(n:Nat)(fa:xp):cR:=λρ ω=>(fa ρ ω).bind λxs ω1=>iV (rq F n xs ω1)
theorem D6(h:∀a,B a->H a≠lD):Rj B K H [] []:=⟨rfl,λi j a h=>by simp at h,h,λa h i=>by simp,λi a h=>by simp at h,λi a c h=>by simp at h⟩
theorem sJ:∀{xs:bb SV} {ds:bb D},aD rM xs=cL ds->xs=ds.map .fz
 |[],_,e=>by cases e;rfl
 |x::r,ds,e=>by
  unfold aD at e;cases x with
  |fz d=>
   dsimp only[rM]at e;cases q:aD rM r with
   |none=>rw[q]at e;cases e
   |some es=>rw[q]at e;cases e;rw[Q7,<-sJ q]
  |rf i=>cases e
  |tp l=>cases e
theorem Ci(s:Rj B K H X ω)(d:Tv (ow B X ω) K H X vs xs)(w:WS K E B H X ω (PQ B K Q) (rq F n xs ω)):se K n F vs H Q E:=by
 unfold rq at w;by_cases hn:xs.length=n
 .rw[ax hn]at w
  refine⟨d.length.trans hn,?_⟩;cases q:aD rM xs with
  |none=>rw[q]at w;exact w.elim
  |some ds=>
   rw[q]at w;dsimp only at w;have j:=sJ q;refine⟨ow B X ω,[],[],ds.map .fz,D6 s.owd,?_,?_⟩
   .rw[j]at d;exact mi _ _ ((wg d).ev (Ev.sub λb z=>z.elim id λ⟨i,c,q,_⟩=>by simp at q))
   .cases qF:F (ds.map .fz) []with
    |bad=>rw[qF]at w;exact w.elim
    |ok x Z=>rw[qF]at w;exact λY U e g v a=>yR s w e g a
    |er x Z=>
     rw[qF]at w;intro c dx Y U e g k;have f:=λb o h=>e.kp b o h λ⟨i,c,q,_⟩=>by simp at q
     exact w c dx X U (SF.same f) (s.grow f) (Y7.sub (λb z=>.inl z) k)
 .rw[a3 hn]at w;exact w.elim
theorem zU(ha:zC K E ta fa):dr K E (rA (se K n F) [] E0 ta) (qR F n fa):=by intro B σ H X ω ρ Q s b w;refine ha B σ H X ω ρ _ s b (w.bind.imp λxs T ω1 H1 e1 d a vs e=>?_);rw[Ru];exact Ci d e (WS.e0 a)
def N4(F:g9):FN:=λds=>match F (ds.map .fz) []with
 |.ok (.fz d) _=>.ok (.fz d)
 |.ok (.rf i) ω=>(match sh ω (.rf i)with
  |some (.list ds)=>.ok (.ow ds)
  |_=>.bad)
 |.ok (.tp _) _=>.bad
 |.er x _=>.er x
 |.bad=>.bad
theorem KM(h:zP K n (N4 F) vs H Q E):se K n F vs H Q E:=by
 obtain⟨u,B,ds,A,G,w⟩:=h;refine⟨u,B,[],[],ds.map .fz,D6 A,mi _ _ (G.ev (Ev.sub λb z=>z.elim id λ⟨i,c,q,_⟩=>by simp at q)),?_⟩;unfold N4 at w;cases qF:F (ds.map .fz) []with
 |bad=>rw[qF]at w;exact w.elim
 |er x Z=>rw[qF]at w;intro c dx Y U e g k;exact w c dx U (λb o h=>e.kp b o h λ⟨i,c,q,_⟩=>by simp at q) (Y7.sub (λb z=>.inl z) k)
 |ok x Z=>
  rw[qF]at w;intro Y U e g v j;have f:=λb o h=>e.kp b o h λ⟨i,c,q,_⟩=>by simp at q
  cases x with
  |fz d=>exact w v U f (DV.ev (Ev.sub λb z=>.inl z) j)
  |tp l=>exact w.elim
  |rf i=>
   dsimp only at w;cases qs:sh Z (.rf i)with
   |none=>rw[qs]at w;exact w.elim
   |some d=>
    rw[qs]at w;cases d with
    |list es=>obtain⟨a,p,ha,C,y,t⟩:=kM g qs;obtain⟨xs,r,_⟩:=tN qs;obtain⟨I,m,rfl⟩:=j;rw[ha]at m;cases m;refine w a p U f ((e.lv a ⟨i,_,ha,r,by intro z;cases z⟩).elim (λ⟨i,c,q,_⟩=>by simp at q) id) C (y.ev (Ev.sub λb z=>z.elim (λz=>.inl z) λz=>by rw[z];exact t))
    |_=>exact w.elim
end
def mF(P:Rb)(w:Rr)(K:Bn)(mg:Str->bg QN)(base:Heap)(a:tS)(k:Nat)(C m:Str)(ps:bb Str)(sp:Sp):Prop:=
 ∃Ca f fd,RA K Rk C=cL (cL (.ref Ca))/\XN K Ca/\Meth K Ca m f/\FnOk P w K mg base a k f fd ps sp/\Binds K fd ps []
def xy(P:Rb)(w:Rr)(K:Bn)(mg:Str->bg QN)(base:Heap)(a:tS)(k:Nat)(C:Str)(ps:bb Str)(sp:Sp):Prop:=
 ∃Ca f fd,RA K Rk C=cL (cL (.ref Ca))/\mg C=cL (.ref Ca)/\Mk K Ca f/\FnOk P w K mg base a k f fd ps sp/\Binds K fd ps []
def oG(K:Bn)(C m:Str)(sp:Sp)(E:XK)(ta:TE)(t:TA):TE:=λa H Q=>∃Ca,RA K Rk C=cL (cL (.ref Ca))/\ye Ca m sp [] E ta t a H Q
def BD(K:Bn)(C:Str)(sp:Sp)(E:XK)(t:TA):TE:=λa H Q=>∃Ca,RA K Rk C=cL (cL (.ref Ca))/\D8 Ca sp [] E t a H Q
section
variable{X:Cx}{Y:tS}{E:XK}{k j:Nat}{C m:Str}{T:bb Str}{sp:Sp}{o e:Q9}{es:bb Q9}{U:TE}{t:TA}{Z pos p:Pos}
theorem MV(M:mF X.prog X.w X.K X.mg X.base Y k C m T sp)(g:eY Y X E)(l:SY j X.A)(n:PE X o U)(ha:PA X (e::es) t)(z:k<=j:=by decide)
  (dW:Rg (e::es) X.env=(QP,eval e X.env)::Rg es X.env:=by rfl) (B:(backTo pos (Rg es X.env)).any (·.1)=QP:=by rfl)
  (i:eval (.Call (.Attribute o m Z) (e::es) [] pos) X.env=(do
   let ov<-eval o X.env
   standAt Z.atName
   let(f,first)<-holding [ov] (getMethod ov m pl)
   callWith pos f first (backTo pos (Rg (e::es) X.env)) (backToKw pos (keywordEach [] X.env))):=by rfl):PE X (.Call (.Attribute o m Z) (e::es) [] pos) (oG X.K C m sp E U t):=by
 obtain⟨J,f,F,y,v,u,r,q⟩:=M;intro a s d H Q I ⟨G,b,h⟩;rw[y]at b;cases b;exact F5 n v u r (l.mono z) q .nil g ha dW B i a s d H Q I h
theorem Lh(M:mF X.prog X.w X.K X.mg X.base Y k C m T sp)(g:eY Y X E)(l:SY j X.A)(n:PE X o U)(z:k<=j:=by decide)
  (i:eval (.Call (.Attribute o m Z) [] [] pos) X.env=(do
   let ov<-eval o X.env
   standAt Z.atName
   let(f,first)<-holding [ov] (getMethod ov m pl)
   callWith pos f first (backTo pos (Rg [] X.env)) (backToKw pos (keywordEach [] X.env))):=by rfl):PE X (.Call (.Attribute o m Z) [] [] pos) (oG X.K C m sp E U kx):=by
 obtain⟨G,f,B,y,v,u,r,q⟩:=M;intro a s d H Q I ⟨F,b,h⟩;rw[y]at b;cases b;exact Ef n v u r (l.mono z) q .nil g i a s d H Q I h
theorem MO(M:xy X.prog X.w X.K X.mg X.base Y k C T sp)(g:eY Y X E)(i:SY j X.A)(ha:PA X (e::es) t)(z:k+1<=j:=by decide)(l:Gl X C:=by rfl)
  (B:(C==("__debug__":Str))=QP:=by decide) (n:Rg (e::es) X.env=(QP,eval e X.env)::Rg es X.env:=by rfl) (F:(backTo pos (Rg es X.env)).any (·.1)=QP:=by rfl):
  PE X (.Call (.Name C p) (e::es) [] pos) (BD X.K C sp E t):=by
 obtain⟨L,f,G,y,v,u,r,q⟩:=M;intro a s d H Q I ⟨J,b,h⟩;rw[y]at b;cases b;exact Ey u r (i.mono z) l v q .nil g ha B n F a s d H Q I h
end
section
variable{K:Bn}{E:XK}{C m:Str}{F:g9}{n:Nat}{to:TE}{Z:TA}{fo:cR}{fa:xp}{L:bb Str}
theorem xF(a:lX K C L)(e:dr K E to fo)(ha:zC K E Z fa):dr K E (oG K C m (se K n F) E0 to Z) (aP C m F n fo fa):=by obtain⟨f,a,_⟩:=a;exact λB b H α ω ρ Q s d w=>⟨f,a,zp a e ha B b H α ω ρ Q s d w⟩
theorem Ht(a:lX K C L)(ha:zC K E Z fa):dr K E (BD K C (se K n F) E0 Z) (ph C F n fa):=by obtain⟨e,a,_⟩:=a;exact λB b H α ω ρ Q s d w=>⟨e,a,D9 a ha B b H α ω ρ Q s d w⟩
end
section
variable{ρ ρ1 ρ2:aZ}{ω ω1 ω2 Z ω4:aW}{x y z:SV}{i n:Nat}{d dx dy:D}{ds:bb D}{b:Bool}
theorem aU(h:ρ[i]?=cL (cL x)):aq i ρ ω=.ok x ω:=by unfold aq;rw[h]
theorem ag(h:f (bV ρ)=.ok (.fz d,ρ')):af f ρ ω=.ok (.fz d) ω:=by unfold af;rw[h]
theorem eE(h:f (bV ρ)=.ok (.ow ds,ρ')):af f ρ ω=.ok (.rf ω.length) (ω++[.lst (ds.map .fz)]):=by unfold af;rw[h];rfl
theorem aK(h:f (bV ρ)=.ok (b,ρ')):aH f ρ ω=.ok b ω:=by unfold aH;rw[h]
theorem oJ(h:f (bV ρ)=.ok (ds,ρ')):lh f ρ ω=.ok ds ω:=by unfold lh;rw[h]
theorem oy(g:e ρ ω=.ok (.rf i) ω1)(h:ω1[i]?=cL (.obj C fs))(a:fs.lookup f=cL x):bE C f e ρ ω=.ok x ω1:=by unfold bE;rw[g,ee];dsimp only;rw[h];dsimp only;rw[ax rfl,a];rfl
theorem bz(ha:fa ρ ω=.ok x ω1)(e:fb ρ ω1=.ok y ω2)(a:kX f x y ω2=.ok z Z):g7 f fa fb ρ ω=.ok z Z:=by unfold g7;rw[ha,ee,e,ee,a]
theorem bi(h:f dx dy=cL (.fz d)):kX f (.fz dx) (.fz dy) ω=.ok (.fz d) ω:=by unfold kX;show((RS.RK ω (f dx dy)).bind λrv ω1=>jD ω1 rv)=_;rw[h];rfl
theorem p7(e:sh ω x=cL dx)(a:sh ω y=cL dy)(h:f dx dy=cL (.fz d)):kX f x y ω=.ok (.fz d) ω:=by unfold kX;rw[e,a];show((RS.RK ω (f dx dy)).bind λrv ω1=>jD ω1 rv)=_;rw[h];rfl
theorem LH(a:sh ω x=lD\/sh ω y=lD)(j:mK 6 ω x=cL dx)(g:mK 6 ω y=cL dy)(h:f dx dy=cL (.fz d))(hd:t8 d=QM):kX f x y ω=.ok (.fz d) ω:=by
 have e:((RS.RK ω (mK 6 ω x)).bind λdx ω1=>(RS.RK ω1 (mK 6 ω1 y)).bind λdy ω2=>(RS.RK ω2 (f dx dy)).bind λrv Z=>lg Z rv)=.ok (.fz d) ω:=by rw[j];show((RS.RK ω (mK 6 ω y)).bind λdy ω2=>(RS.RK ω2 (f dx dy)).bind λrv Z=>lg Z rv)=_;rw[g];show((RS.RK ω (f dx dy)).bind λrv Z=>lg Z rv)=_;rw[h];show(if t8 d=QM then RS.ok (SV.fz d) ω else RS.bad)=_;rw[ax hd]
 unfold kX;rcases a with a|a
 .rw[a];exact e
 .rw[a];cases sh ω x<;>exact e
theorem jY:∀ds:bb D,aD rM (ds.map .fz)=cL ds
 |[]=>rfl
 |d::r=>by rw[Q7];unfold aD;rw[jY r];rfl
theorem fG(h:ω[i]?=cL (.lst (ds.map .fz))):sh ω (.rf i)=cL (.list ds):=by unfold sh;dsimp only;rw[h];dsimp only;rw[jY];rfl
theorem aA(h:fa ρ ω=.ok (.fz (.bool b)) ω1):aO fa ρ ω=.ok b ω1:=by unfold aO;rw[h];rfl
theorem cJ(h:fa ρ ω=.ok QM ω1)(k:fb ρ ω1=r):gq fa fb ρ ω=r:=by unfold gq;rw[h,ee,ax rfl,k]
theorem bQ(h:fa ρ ω=.ok QP ω1):gq fa fb ρ ω=.ok QP ω1:=by unfold gq;rw[h,ee,a3 Rh]
theorem jJ(h:fa ρ ω=.ok QM ω1):uU fa fb ρ ω=.ok QM ω1:=by unfold uU;rw[h,ee,ax rfl]
theorem dE(h:fa ρ ω=.ok QP ω1)(k:fb ρ ω1=r):uU fa fb ρ ω=r:=by unfold uU;rw[h,ee,a3 Rh,k]
theorem j4(h:fa ρ ω=.ok b ω1):mC fa ρ ω=.ok (!b) ω1:=by unfold mC;rw[h];rfl
theorem rF(h:aO fa ρ ω=.ok QM ω1)(k:fb ρ ω1=r):u8 fa fb ρ ω=r:=by unfold u8;rw[h,ee,ax rfl,k]
theorem rh(h:aO fa ρ ω=.ok QP ω1):u8 fa fb ρ ω=.ok (.fz (.bool QP)) ω1:=by unfold u8;rw[h,ee,a3 Rh]
theorem Ft(h:c ρ ω=.ok QM ω1)(k:fa ρ ω1=r):IM c fa fb ρ ω=r:=by unfold IM;rw[h,ee,ax rfl,k]
theorem Ha(h:c ρ ω=.ok QP ω1)(k:fb ρ ω1=r):IM c fa fb ρ ω=r:=by unfold IM;rw[h,ee,a3 Rh,k]
theorem az:aF ρ ω=.ok [] ω:=rfl
theorem ai(ha:fa ρ ω=.ok x ω1)(a:fr ρ ω1=.ok xs ω2):aj fa fr ρ ω=.ok (x::xs) ω2:=by unfold aj;rw[ha,ee,a,ee]
theorem mO(ha:fa ρ ω=.ok (ds.map .fz) ω1)(a:ds.length<=1000):jk fa ρ ω=.ok (.fz (.tuple ds)) ω1:=by unfold jk;rw[ha,ee,QQ,ax a];unfold Os;rw[jY];rfl
theorem Ib(ha:fa ρ ω=.ok xs ω1)(a:xs.length<=1000)(f:aD rM xs=lD)(e:aD Ou xs=cL l):jk fa ρ ω=.ok (.tp l) ω1:=by unfold jk;rw[ha,ee,ax a];unfold Os;rw[f];dsimp only;rw[e];rfl
theorem Bf(ha:fa ρ ω=.ok xs ω1)(a:aD (sh ω1) xs=cL ds)(h:f ds=cL (.fz d)):z7 f fa ρ ω=.ok (.fz d) ω1:=by unfold z7;rw[ha,ee];unfold FX;rw[a];show((RS.RK ω1 (f ds)).bind λrv ω1=>jD ω1 rv)=_;rw[h];rfl
theorem sY(ha:fa ρ ω=.ok (ds.map .fz) ω1)(hn:ds.length=n)(a:F ds=.ok (.fz d)):ie F n fa ρ ω=.ok (.fz d) ω1:=by unfold ie;rw[ha,ee];unfold uG;rw[QQ,ax hn,jY];dsimp only;rw[a];rfl
theorem sT(ha:fa ρ ω=.ok (ds.map .fz) ω1)(hn:ds.length=n)(a:F ds=.ok (.ow es)):ie F n fa ρ ω=.ok (.rf ω1.length) (ω1++[.lst (es.map .fz)]):=by unfold ie;rw[ha,ee];unfold uG;rw[QQ,ax hn,jY];dsimp only;rw[a];rfl
theorem nY:iV (RS.ok a ω)=.ok a ω:=rfl
theorem G1(e:fo ρ ω=.ok (.rf i) ω1)(f:ω1[i]?=cL (.obj C fs))(hm:fs.lookup m=lD)(ha:fa ρ ω1=.ok xs ω2)(hn:(SV.rf i::xs).length=n)(g:F (.rf i::xs) ω2=.ok x Z):aP C m F n fo fa ρ ω=.ok x Z:=by
 have a:rd ω1 C m (.rf i)=QM:=by unfold rd;dsimp only;rw[f];dsimp only;rw[hm,a4 rfl];rfl
 unfold aP;rw[e,ee,ax a,ha,ee,ax hn,g];rfl
theorem LI(ha:fa ρ ω=.ok xs ω1)(hn:(SV.rf ω1.length::xs).length=n)(a:F (.rf ω1.length::xs) (ω1++[.obj C []])=.ok (.fz .none) ω2):ph C F n fa ρ ω=.ok (.rf ω1.length) ω2:=by unfold ph;rw[ha,ee];unfold xw;rw[ax hn,a,ee,ax (show DR (.fz .none)=QM from rfl)];rfl
theorem cA(ha:fa ρ ω=.ok (.fz dx) ω1)(a:fb ρ ω1=.ok (.fz dy) ω2)(h:aC dx dy=cL (.fz d)):iK fa fb ρ ω=.ok (.fz d) ω2:=by unfold iK;rw[ha,ee,a,ee];exact bi h
theorem tJ(a:fo ρ ω=.ok (.rf i) ω1)(h:ω1[i]?=cL (.lst xs))(f:fe ρ ω1=.ok x ω2)(g:ω2[i]?=cL (.lst ys))(e:ys.length<1000000):oK fo fe ρ ω=.ok (.fz .none) (ω2.set i (.lst (ys++[x]))):=by
 have e1:jL ω1 (.rf i)=cL (i,xs):=by unfold jL;dsimp only;rw[h]
 have e2:jL ω2 (.rf i)=cL (i,ys):=by unfold jL;dsimp only;rw[g]
 unfold oK;rw[a,ee,e1];show((fe ρ ω1).bind _)=_;rw[f,ee,e2];show(if ys.length<1000000 then _ else _)=_;rw[ax e]
theorem jP(h:ω[i]?=cL (.Te kvs)):gL ω (.rf i)=cL (i,kvs):=by unfold gL;dsimp only;rw[h]
theorem pM(a:fk ρ ω=.ok x ω1)(hd:fd ρ ω1=.ok (.rf i) ω2)(f:nt x=cL k)(e:ω2[i]?=cL (.Te kvs)):kT neg fk fd ρ ω=.ok (.fz (.bool ((eD kvs k).isSome !=neg))) ω2:=by unfold kT;rw[a,ee,hd,ee,f];show((RS.RK ω2 (gL ω2 (.rf i))).bind _)=_;rw[jP e];rfl
theorem km(hd:fd ρ ω=.ok (.rf i) ω1)(a:fk ρ ω1=.ok x ω2)(g:nt x=cL k)(f:ω2[i]?=cL (.Te kvs))(e:eD kvs k=cL y):aX fd fk ρ ω=.ok y ω2:=by unfold aX;rw[hd,ee,a,ee,g];show((RS.RK ω2 (gL ω2 (.rf i))).bind _)=_;rw[jP f];show RS.RK ω2 (eD kvs k)=_;rw[e];rfl
theorem l4(a:fv ρ ω=.ok y ω1)(hd:fd ρ ω1=.ok (.rf i) ω2)(f:fk ρ ω2=.ok x Z)(h:nt x=cL k)(g:Z[i]?=cL (.Te kvs))(e:kvs.length<1000000):dM fd fk fv ρ ω=.ok (.nx ρ) (Z.set i (.Te (cH kvs k y))):=by unfold dM;rw[a,ee,hd,ee,f,ee,h];show((RS.RK Z (gL Z (.rf i))).bind _)=_;rw[jP g];show(if kvs.length<1000000 then _ else _)=_;rw[ax e]
theorem yK(hd:fd ρ ω=.ok (.rf i) ω1)(h:ω1[i]?=cL (.Te adu))(a:fk ρ ω1=.ok x ω2)(g:nt x=cL k)(f:ω2[i]?=cL (.Te kvs))(e:eD kvs k=cL y):nZ fd fk ρ ω=.ok y (ω2.set i (.Te (iM kvs k))):=by unfold nZ;rw[hd,ee,jP h];show((fk ρ ω1).bind _)=_;rw[a,ee,g];show((RS.RK ω2 (gL ω2 (.rf i))).bind _)=_;rw[jP f];show((RS.RK ω2 (eD kvs k)).bind _)=_;rw[e];rfl
theorem xc(hd:fd ρ ω=.ok (.rf i) ω1)(h:ω1[i]?=cL (.Te kvs)):kF fd ρ ω=.ok (.rf ω1.length) (ω1++[.lst (kvs.map (·.2))]):=by unfold kF;rw[hd,ee,jP h];rfl
theorem xq(hd:fd ρ ω=.ok (.rf i) ω1)(h:ω1[i]?=cL (.Te kvs))(e:aD wz (kvs.map (·.1))=cL ns)(a:ns.length<64):kG fd ρ ω=.ok (.rf ω1.length) (ω1++[.lst ((jM ns).map λi=>SV.fz (.int i))]):=by unfold kG;rw[hd,ee,jP h];show((RS.RK ω1 (aD wz (kvs.map (·.1)))).bind _)=_;rw[e];show(if ns.length<64 then _ else _)=_;rw[ax a]
theorem G5(a:fe ρ ω=.ok x ω1)(h:sU x=cL ps):ri fe ρ ω=.ok (.rf ω1.length) (ω1++[.Te (gH [] ps)]):=by unfold ri;rw[a,ee,h];rfl
variable{fl:FlS}{r:RS FlS}
theorem fM(h:f ρ ω=.ok (.nx ρ1) ω1)(k:g ρ1 ω1=r):aG f g ρ ω=r:=by unfold aG;rw[h,ee];exact k
theorem mj(h:f ρ ω=.ok (.rt x) ω1):aG f g ρ ω=.ok (.rt x) ω1:=by unfold aG;rw[h];rfl
theorem jT(h:c ρ ω=.ok QM ω1)(k:f ρ ω1=r):bq c f g ρ ω=r:=by unfold bq;rw[h,ee,ax rfl,k]
theorem lU(h:c ρ ω=.ok QP ω1)(k:g ρ ω1=r):bq c f g ρ ω=r:=by unfold bq;rw[h,ee,a3 Rh,k]
theorem jj(h:f ρ ω=.ok x ω1):gF f ρ ω=.ok (.rt x) ω1:=by unfold gF;rw[h];rfl
theorem lj(h:f ρ ω=.ok x ω1):aY f ρ ω=.ok (.nx ρ) ω1:=by unfold aY;rw[h];rfl
theorem vB(h:f ρ ω=.ok x ω1)(e:ρ.set i (cL x)=ρ1):cX f (eI i) ρ ω=.ok (.nx ρ1) ω1:=by subst e;unfold cX;rw[h];rfl
theorem ko:bA ρ ω=.ok (.nx ρ) ω:=rfl
theorem vR(h:fe ρ ω=.ok x ω1)(a:fo ρ ω1=.ok (.rf i) ω2)(j:ω2[i]?=cL (.obj C fs))(g:fs.length<100):T3 C f fo fe ρ ω=.ok (.nx ρ) (ω2.set i (.obj C (hU f x fs))):=by
 have e:AY ω2 C (.rf i)=cL (i,fs):=by unfold AY;dsimp only;rw[j];dsimp only;rw[ax rfl]
 unfold T3;rw[h,ee,a,ee,e];show(if fs.length<100 then _ else _)=_;rw[ax g]
theorem pH(h:f ρ ω=.ok x ω1)(k:frz 4 ω1 x=cL (d,ω2)):qA f ρ ω=.ok (.fz d) ω2:=by unfold qA;rw[h,ee];unfold Jo;rw[k]
theorem jS(e:xs.map cL++QX (N - xs.length) lD=ρ)(h:g ρ ω=.ok (.rt x) ω1):dQ N g xs ω=.ok x ω1:=by subst e;unfold dQ;rw[h];rfl
theorem lx(e:xs.map cL++QX (N - xs.length) lD=ρ)(h:g ρ ω=.ok (.nx ρ1) ω1):dQ N g xs ω=.ok (.fz .none) ω1:=by subst e;unfold dQ;rw[h];rfl
end
section
variable{ρ ρ1 ρ2:aZ}{ω ω1 ω2 ω3 ω4:aW}{x y z:SV}{i n:Nat}{d dx dy:D}{ds:bb D}{b:Bool}
theorem ka(e:α->D)(f:α->SV)(ω:aW)(I:aZ->Prop):∀(xs:bb α) (ρ:aZ) (acc:bb SV),I ρ->acc.length+xs.length<=1000000->(∀x∈xs,∀ρ,I ρ->∃ρ',gt (.fz (e x)) ρ ω=.ok ρ' ω/\ft ρ' ω=.ok QM ω/\fe ρ' ω=.ok (f x) ω/\I ρ')->ce gt ft fe (xs.map e) ρ ω acc=.ok (acc++xs.map f) ω
 |[],ρ,acc,_,_,_=>by show RS.ok acc ω=_;rw[S7,Ru]
 |x::r,ρ,acc,h0,hl,hs=>by obtain⟨ρ',l,j,h,g⟩:=hs x Q2 ρ h0;rw[QZ]at hl;show((gt (.fz (e x)) ρ ω).bind _)=_;rw[l,ee,j,ee,ax rfl,h,ee,ax (by ext),ka e f ω I r ρ' _ g (by rw[Q1,TZ];ext) λy a=>hs y (Q0 _ a),Sa];rfl
theorem tF(hi:fi ρ ω=.ok ds ω1)(a:ce gt ft fe ds (ib n fj ρ) ω1 []=.ok xs ω2):kB n fj fi gt ft fe ρ ω=.ok (.rf ω2.length) (ω2++[.lst xs]):=by unfold kB;rw[hi,ee,a,nY,ee]
theorem yc(m:Nat):∀(ds:bb D),p9 (frz m) ω (ds.map .fz)=cL (ds,ω)
 |[]=>rfl
 |d::r=>by rw[Q7];unfold p9;rw[show frz m ω (.fz d)=cL (d,ω) by cases m<;>rfl];dsimp only;rw[yc m r]
theorem j8(h:ω[i]?=cL (.lst (ds.map .fz))):frz 4 ω (.rf i)=cL (.list ds,ω.set i .dead):=by unfold frz;rw[h];dsimp only;rw[yc]
theorem vU(h:fe ρ ω=.ok (.rf i) ω1)(a:ω1[i]?=cL (.lst (ds.map .fz))):iR fe ρ ω=.ok ds (ω1.set i .dead):=by unfold iR;rw[h,ee,j8 a];rfl
def N0(N C:aZ->aW->Prop)(T:SV->aW->Prop):RS FlS->Prop
 |.ok (.nx ρ) ω=>N ρ ω
 |.ok (.ct ρ) ω=>C ρ ω
 |.ok (.rt v) ω=>T v ω
 |_=>False
structure Tu(r:RS FlS)(N C:aZ->aW->Prop)(T:SV->aW->Prop):Prop where
 out:N0 N C T r
variable{f g:fw}{fe:cR}{N C:aZ->aW->Prop}{T:SV->aW->Prop}
theorem Tu.eq(e:r=r')(h:Tu r' N C T):Tu r N C T:=by rw[e];exact h
theorem Tu.imp(h:Tu r N C T)(e:∀ρ ω,N ρ ω->N' ρ ω)(j:∀ρ ω,C ρ ω->C' ρ ω)(a:∀v ω,T v ω->T' v ω):Tu r N' C' T':=by
 refine⟨?_⟩;have h:=h.out;cases r with
 |bad=>exact h
 |er x ω=>exact h
 |ok l ω=>
  cases l with
  |nx r=>exact e _ _ h
  |ct r=>exact j _ _ h
  |rt v=>exact a _ _ h
  |bk r=>exact h
theorem kW(h:Tu (f ρ ω) (λr o=>Tu (g r o) N C T) C T):Tu (aG f g ρ ω) N C T:=by
 refine⟨?_⟩;have h:=h.out;unfold aG;cases q:f ρ ω with
 |bad=>rw[q]at h;exact h.elim
 |er x o=>rw[q]at h;exact h.elim
 |ok a o=>
  rw[q]at h;cases a with
  |nx r=>exact(show Tu (g r o) N C T from h).out
  |ct r=>exact h
  |rt v=>exact h
  |bk r=>exact h.elim
theorem rp(h:c ρ ω=.ok b ω1)(a:b=QM->Tu (f ρ ω1) N C T)(e:b=QP->Tu (g ρ ω1) N C T):Tu (bq c f g ρ ω) N C T:=by
 unfold bq;rw[h,ee];cases b with
 |true=>exact a rfl
 |false=>exact e rfl
theorem fP(e:c ρ ω=.ok QM ω1)(a:Tu (f ρ ω1) N C T):Tu (bq c f g ρ ω) N C T:=rp e (λ_=>a) λh=>by cases h
theorem aV(e:c ρ ω=.ok QP ω1)(a:Tu (g ρ ω1) N C T):Tu (bq c f g ρ ω) N C T:=rp e (λh=>by cases h) λ_=>a
theorem Ar(e:fe ρ ω=.ok x ω1)(a:gt x ρ ω1=.ok ρ1 ω2)(h:N ρ1 ω2):Tu (cX fe gt ρ ω) N C T:=by refine⟨?_⟩;unfold cX;rw[e,ee,a,ee];exact h
theorem i6(a:f ρ ω=.ok (.nx ρ1) ω1)(h:N ρ1 ω1):Tu (f ρ ω) N C T:=⟨by rw[a];exact h⟩
theorem Ny(a:f ρ ω=.ok (.rt x) ω1)(h:T x ω1):Tu (f ρ ω) N C T:=⟨by rw[a];exact h⟩
theorem cg(a:fe ρ ω=.ok x ω1)(h:N ρ ω1):Tu (aY fe ρ ω) N C T:=i6 (lj a) h
theorem mJ(a:fe ρ ω=.ok x ω1)(h:T x ω1):Tu (gF fe ρ ω) N C T:=Ny (jj a) h
theorem Hf(h:T (.fz .none) ω):Tu (lR ρ ω) N C T:=⟨h⟩
theorem eS(h:N ρ ω):Tu (bA ρ ω) N C T:=⟨h⟩
theorem bU{gt:tG}(e:fe ρ ω=.ok x ω1)(a:gt x ρ ω1=.ok ρ1 ω2)(h:Tu (g ρ1 ω2) N C T):Tu (aG (cX fe gt) g ρ ω) N C T:=kW (Ar e a h)
theorem jw(a:f ρ ω=.ok (.nx ρ1) ω1)(h:Tu (g ρ1 ω1) N C T):Tu (aG f g ρ ω) N C T:=kW (i6 a h)
theorem dj(a:fe ρ ω=.ok x ω1)(h:Tu (g ρ ω1) N C T):Tu (aG (aY fe) g ρ ω) N C T:=kW (cg a h)
theorem pS{h a:fw}(m:c ρ ω=.ok b ω1)(j:b=QM->Tu (aG h g ρ ω1) N C T)(l:b=QP->Tu (aG a g ρ ω1) N C T):Tu (aG (bq c h a) g ρ ω) N C T:=by
 have e:aG (bq c h a) g ρ ω=if b=QM then aG h g ρ ω1 else aG a g ρ ω1:=by unfold aG bq;rw[m,ee];cases b<;>rfl
 refine .eq e ?_;cases b with
 |true=>exact j rfl
 |false=>exact l rfl
theorem eV{a l:fw}(j:c ρ ω=.ok QM ω1)(e:Tu (aG a g ρ ω1) N C T):Tu (aG (bq c a l) g ρ ω) N C T:=pS j (λ_=>e) λh=>by cases h
theorem dg{l a:fw}(j:c ρ ω=.ok QP ω1)(e:Tu (aG a g ρ ω1) N C T):Tu (aG (bq c l a) g ρ ω) N C T:=pS j (λh=>by cases h) λ_=>e
theorem C2(a:fe ρ ω=.ok x ω1)(h:T x ω1):Tu (aG (gF fe) g ρ ω) N C T:=kW (mJ a h)
theorem lP(h:T (.fz .none) ω):Tu (aG lR g ρ ω) N C T:=kW (Hf h)
theorem cb(h:Tu (g ρ ω) N C T):Tu (aG bA g ρ ω) N C T:=kW (eS h)
theorem wv{a e:fw}(h:Tu (aG a (aG e g) ρ ω) N C T):Tu (aG (aG a e) g ρ ω) N C T:=by
 refine .eq ?_ h;unfold aG;cases a ρ ω with
 |bad=>rfl
 |er x o=>rfl
 |ok j o=>cases j<;>rfl
theorem yf{b:fw}(I:Nat->aZ->aW->Prop):∀(ds:bb D) (k:Nat) (ρ:aZ) (ω:aW),I k ρ ω->(∀i d ρ ω,ds[i]?=cL d->I (k+i) ρ ω->∃ρ1 ω1,gt (.fz d) ρ ω=.ok ρ1 ω1/\Tu (b ρ1 ω1) (I (k+i+1)) (I (k+i+1)) T)->Tu (nk gt b ds ρ ω) (I (k+ds.length)) C T
 |[],k,ρ,ω,h0,_=>⟨h0⟩
 |d::r,k,ρ,ω,h0,hs=>by
  obtain⟨ρ1,ω1,w,a⟩:=hs 0 d ρ ω rfl h0;have a:=a.out;have m:∀l j,I (k+1) l j->Tu (nk gt b r l j) (I (k+(r.length+1))) C T:=λl j h=>by
   have e:k+(r.length+1)=k+1+r.length:=by ext
   rw[e];refine yf I r (k+1) l j h λi B t p hi u=>?_;have e:k+1+i=k+(i+1):=by ext
   rw[e]at u⊢;exact hs (i+1) B t p (by simpa using hi) u
  refine⟨?_⟩;show N0 _ _ _ ((gt (.fz d) ρ ω).bind _);rw[w,ee];cases q:b ρ1 ω1 with
  |bad=>rw[q]at a;exact a.elim
  |er x o=>rw[q]at a;exact a.elim
  |ok A o=>
   rw[q]at a;cases A with
   |nx r=>exact(m _ _ a).out
   |ct r=>exact(m _ _ a).out
   |rt v=>exact a
   |bk r=>exact a.elim
theorem Bm{b:fw}(I:Nat->aZ->aW->Prop)(hi:fi ρ ω=.ok ds ω1)(j:I 0 ρ ω1)(a:∀i d ρ ω,ds[i]?=cL d->I i ρ ω->∃ρ1 ω1,gt (.fz d) ρ ω=.ok ρ1 ω1/\Tu (b ρ1 ω1) (I (i+1)) (I (i+1)) T)(e:∀ρ' ω',I ds.length ρ' ω'->N ρ' ω'):Tu (rV fi gt b ρ ω) N C T:=by have:=yf (C:=C) I ds 0 ρ ω1 j (by simpa using a);rw[Xi]at this;refine .eq ?_ (this.imp e (λ_ _ h=>h) λ_ _ h=>h);unfold rV;rw[hi,ee]
theorem BE(a:xs.map cL++QX (n - xs.length) lD=ρ)(h:Tu (g ρ ω) (λ_ ω'=>T (.fz .none) ω') (λ_ _=>False) T):∃x ω',dQ n g xs ω=.ok x ω'/\T x ω':=by
 have h:=h.out;unfold dQ;rw[a];cases q:g ρ ω with
 |bad=>rw[q]at h;exact h.elim
 |er x o=>rw[q]at h;exact h.elim
 |ok e o=>
  rw[q]at h;cases e with
  |nx r=>exact⟨_,_,rfl,h⟩
  |ct r=>exact h.elim
  |rt v=>exact⟨_,_,rfl,h⟩
  |bk r=>exact h.elim
theorem dI{W:aW->Prop}(a:xs.map cL++QX (n - xs.length) lD=ρ)(h:Tu (g ρ ω) (λ_ ω'=>SV.fz .none=v/\W ω') (λ_ _=>False) (λr ω'=>r=v/\W ω')):∃ω',dQ n g xs ω=.ok v ω'/\W ω':=by obtain⟨x,ω',l,j,e⟩:=BE (T:=λr ω'=>r=v/\W ω') a h;exact⟨ω',by rw[l,j],e⟩
end
end L10
namespace L10
open PySem PySem.Spec PyProof.Rows L2 L3
def ku(P:Rb)(w:Rr)(d:QT)(a:Obj)(kvs:bb (bK×V)):HO:=.ext λh=>h.get? d=cL a/\kvs.length<=Q3/\(d==S4)=QP/\∃vs,KV kvs vs/\h.DictOf (bM P w) d vs
theorem Kd{P:Rb}{w:Rr}{H:Hp}{h:Heap}{d:QT}{b:Obj}{kvs:bb (bK×V)}(f:h.get? d=cL b)(g:ObjOk P w H' h d (.dK kvs)):ObjOk P w H h d (ku P w d b kvs):=by obtain⟨z,y,vs,r,dd⟩:=g;refine⟨⟨f,z,y,vs,r,dd⟩,⟨b,f⟩,?_⟩;rintro l j ⟨a,z,y,vs,r,o,es,i,e,c⟩ k;exact⟨k _ a,z,y,vs,r,o,es,i,k _ e,c⟩
def OH(P:Rb)(w:Rr)(d:QT)(a:Obj)(kvs:bb (bK×V)):It:=
 ⟨λi H=>H d=cL (ku P w d a kvs)/\i<kvs.length,λi H x b=>b=H/\∃k,kvs[i]?=cL (k,x),λi H=>H d=cL (ku P w d a kvs)/\kvs.length<=i⟩
theorem AD{d:Type}:∀{kvs:bb (d×V)} {vs:bb (d×QN)} {i:Nat} {k:d} {x:V},KV kvs vs->kvs[i]?=cL (k,x)->∃u,vs[i]?=cL (k,u)/\RelV x u
 |_,_,_,_,_,.nil,e=>by simp at e
 |_,(k',u')::_,0,k,x,.cons h _,e=>by simp at e;subst e;obtain⟨b,a⟩:=h;dsimp only at b a;subst b;exact⟨_,rfl,a⟩
 |_,_,i+1,k,x,.cons _ t,e=>by obtain⟨u,b,a⟩:=AD (i:=i) t (by simpa using e);exact⟨u,by simpa using b,a⟩
theorem zR{P:Rb}{w:Rr}{K:Bn}{tg:Q9}(d g:QT)(r:Obj)(es:Array U9)(C:Nat)(t:r.data=.dict es C)(kvs:bb (bK×V)):Turn P w K tg (OH P w d r kvs) [g] g (λi h=>h.IsValIter g d i kvs.length C) where
 mem:=by simp
 obj:=λi h a b m=>by
  have e:b=g:=by simpa using m
  subst e;obtain⟨o,e,c,d⟩:=a;exact⟨o,e,λv z=>by rw[d]at z;cases z⟩
 keep:=λi h A a k=>a.at λo e=>k g (by simp) o e
 item:=by
  intro X M G N hc i j s σ H E I B a J;subst M G N;obtain⟨L,hi⟩:=J;obtain⟨⟨O,z,y,vs,f,o,n,l,e,c⟩,_,_⟩:=(show ObjOk X.prog X.w H s.heap d (ku X.prog X.w d r kvs)from I.Sk d _ L);have eo:o=r:=by rw[O]at e;cases e;rfl
  subst eo;obtain⟨c1,q,c3⟩:=c;have Y:l=C:=by rw[t]at q;cases q;rfl
  subst Y;have Z:s.heap.DictAt (bM X.prog X.w) d vs l:=⟨o,n,e,c1,q,c3⟩;obtain⟨⟨k,x⟩,hx⟩:∃p,kvs[i]?=cL p:=⟨kvs[i],QY hi⟩;obtain⟨u,hu,ru⟩:=AD f hx;obtain⟨U,T,f2,S,R,Q⟩:=B g (by simp);have a:s.heap.IsValIter g d i vs.length l:=by rw[<-f.length];exact a
  refine wpAny_pyNext_values_item a Z hu λA F sb=>?_;have I1:Inv X j σ H {s with heap:=A}:=I.turned (t':=s.toks) (λb o m e=>(sb.2 b m).trans e) U T S R Q;have F:A.IsValIter g d (i+1) kvs.length l:=by rw[f.length];exact F
  obtain⟨o',e',c',d'⟩:=id F;exact⟨u,rfl,xl (s:={s with heap:=A}) e' c' d' (by decide) ⟨x,H,I1,ru,⟨rfl,k,hx⟩,F,λb m=>(B b m).1⟩⟩
 done:=by
  intro X M G N hc i j s σ H E I B a J;subst M G N;obtain⟨L,hi⟩:=J;obtain⟨⟨O,z,y,vs,f,o,n,l,e,c⟩,_,_⟩:=(show ObjOk X.prog X.w H s.heap d (ku X.prog X.w d r kvs)from I.Sk d _ L);have eo:o=r:=by rw[O]at e;cases e;rfl
  subst eo;obtain⟨c1,q,c3⟩:=c;have Y:l=C:=by rw[t]at q;cases q;rfl
  subst Y;have Z:s.heap.DictAt (bM X.prog X.w) d vs l:=⟨o,n,e,c1,q,c3⟩;obtain⟨U,T,f2,S,R,Q⟩:=B g (by simp);have hl:=f.length;have a:s.heap.IsValIter g d i vs.length l:=by rw[<-f.length];exact a
  exact wpAny_pyNext_values_end (I.ok.hd hc) a Z (List.getElem?_eq_none (by ext)) λA eb=>⟨rfl,I.turned (t':=s.toks) (λb o m e=>eb b o m e) U T S R Q⟩
 self:=λ_ _ _ _ _ a h=>wpAny_pyIter_valiter a h
def Df(P:Rb)(w:Rr)(e:TE):TI:=λb H R=>e b H λx a=>∃p d kvs,x=.ref p/\a p=cL (zZ p d)/\a d=cL (.dK kvs)/\∀ob,R (OH P w d ob kvs) (bf a d (ku P w d ob kvs))
section
variable{X:Cx}{tg:Q9}
theorem Fb{l:Q9}{A:TE}(M:PE X l A):PI X tg l (Df X.prog X.w A):=by
 intro i s E H R I h;refine cF (M i s E H _ I h) λv a ⟨x,t,m,G,J⟩=>?_;obtain⟨p,d,kvs,e,L,n,q⟩:=J;subst e;cases G;obtain⟨F,_,_⟩:ObjOk X.prog X.w t a.heap p (zZ p d):=m.Sk p _ L;have K:ObjOk X.prog X.w t a.heap d (.dK kvs):=m.Sk d _ n;obtain⟨z,y,vs,g,f,es,j,e,C,r,B⟩:=id K;have O:a.heap.DictAt (bM X.prog X.w) d vs j:=⟨f,es,e,C,r,B⟩;refine wpAny_pyIter_values F O ?_;have k:∀b o,a.heap.get? b=cL o->(a.heap.push {cls:=.type "dict_valueiterator",data:=.fields #[.ref d,.int 0 0,.int vs.length 0,.int j 0]}).get? b=cL o:=λb o e=>b3 _ e;have Q:=m.kept (t':=a.toks) k;have P:=Q.write (x:=d) (e:=d) (o:=ku X.prog X.w d f kvs) (t':=a.toks) (h':=a.heap.push {cls:=.type "dict_valueiterator",data:=.fields #[.ref d,.int 0 0,.int vs.length 0,.int j 0]}) (by rw[n];trivial) (.inl rfl) (λb u _ e=>e) ⟨f,k _ _ e⟩ (Kd (k _ _ e) (show ObjOk X.prog X.w t _ d (.dK kvs)from⟨z,y,vs,g,f,es,j,k _ _ e,C,r,B⟩));refine⟨a.heap.objs.size,[a.heap.objs.size],_,_,_,rfl,P,zR d _ f es j r kvs,⟨_,b5 _ rfl,rfl,by rw[g.length];rfl⟩,λb N=>?_,q f⟩;have e:b=a.heap.objs.size:=by simpa using N
 subst e;have hn:=m.Sk.fresh (QV a.heap.objs.size);refine m.Xq (QV _) ?_;rw[aJ (λz=>by rw[z,n]at hn;cases hn)];exact hn
def Ml(P:Rb)(w:Rr)(t:TE):TE:=λb H Q=>t b H λx a=>∃d ob kvs,a d=cL (ku P w d ob kvs)/\Q x (bf a d (.dK kvs))
theorem K2{l:Q9}{i:TE}(t:PE X l i):PE X l (Ml X.prog X.w i):=by intro a s p H Q I h;refine cF (t a s p H _ I h) λv f ⟨x,B,n,r,d,j,kvs,m,q⟩=>?_;obtain⟨⟨A,z,y,vs,g,dd⟩,_,_⟩:=(show ObjOk X.prog X.w B f.heap d (ku X.prog X.w d j kvs)from n.Sk d _ m);exact⟨x,_,n.write (x:=d) (e:=d) (o:=.dK kvs) (t':=f.toks) (h':=f.heap) (by rw[m];trivial) (.inl rfl) (λb u _ e=>e) ⟨j,A⟩ ⟨z,y,vs,g,dd⟩,r,q⟩
end
end L10
namespace L10
open PySem PyProof.Rows L2 L3
section
variable{O Y:bS}{K:Bn}{H Z:Hp}{a b:QT}{xs:bb V}{X:Heap->Prop}
def Hd(a:QT)(O:bS)(H:Hp)(Y:bS)(Z:Hp):Prop:=∀b o,b≠a->H b=cL o->¬O b->Z b=cL o/\¬Y b
theorem VP.V3(g:H a=cL (.ext X))(h:VP O K H b xs)(e:Hd a O H Y Z):VP Y K Z b xs:=by
 obtain⟨h,k⟩:=h;by_cases z:O b
 .exact⟨Ue.same (j3 Z) (k z),λ_=>k z⟩
 .rcases h with(h|⟨o,h⟩)|h
  .obtain⟨f,d⟩:=e b _ (λy=>by rw[y,g]at h;cases h) h z;exact⟨.inl (.inl f),λy=>a7 y d⟩
  .obtain⟨f,d⟩:=e b _ (λy=>by rw[y,g]at h;cases h) h z;exact⟨.inl (.inr ⟨o,f⟩),λy=>a7 y d⟩
  .exact⟨.inr h,λ_=>.inr h⟩
theorem UN.V3(g:H a=cL (.ext X))(h:UN O K H b xs)(e:Hd a O H Y Z):UN Y K Z b xs:=by
 obtain⟨h,k⟩:=h;by_cases z:O b
 .exact⟨(j3 Z).tup (k z),λ_=>k z⟩
 .rcases h with(h|⟨o,h⟩)|h
  .obtain⟨f,d⟩:=e b _ (λy=>by rw[y,g]at h;cases h) h z;exact⟨.inl (.inl f),λy=>a7 y d⟩
  .obtain⟨f,d⟩:=e b _ (λy=>by rw[y,g]at h;cases h) h z;exact⟨.inl (.inr ⟨o,f⟩),λy=>a7 y d⟩
  .exact⟨.inr h,λ_=>.inr h⟩
mutual
theorem DV.V3(f:H a=cL (.ext X))(e:Hd a O H Y Z):∀{v:V} {d:D},L3.DV O K H v d->L3.DV Y K Z v d
 |_,_,.TF=>.TF
 |_,_,.bl b=>.bl b
 |_,_,.int i=>.int i
 |_,_,.str x=>.str x
 |_,_,.tup h hs=>.tup (UN.V3 f h e) (Ss.V3 f e hs)
 |_,_,.lst h hs=>.lst (VP.V3 f h e) (Ss.V3 f e hs)
theorem Ss.V3(d:H a=cL (.ext X))(e:Hd a O H Y Z):∀{vs:bb V} {ds:bb D},L3.Ss O K H vs ds->L3.Ss Y K Z vs ds
 |_,_,.nil=>.nil
 |_,_,.cons h hs=>.cons (DV.V3 d e h) (Ss.V3 d e hs)
end
end
section
variable{B O S:bS}{K:Bn}{E:XK}{H U X H2:Hp}{Y T Z α2:bb QT}{ω ω' ω1 ω2:aW}{N:L2.St}{ρ:aZ}{v:V}{R:Heap->Prop}{a b:QT}
theorem Yb.V3{x:AV}(f:H a=cL (.ext R))(e:Hd a O H S U)(h:Yb O K H Y v x):Yb S K U Y v x:=by
 cases x with
 |fz d=>exact DV.V3 f e h
 |rf i=>exact h
theorem To.V3{x:SV}(f:H a=cL (.ext R))(e:Hd a O H S U)(h:To O K H Y v x):To S K U Y v x:=by
 cases x with
 |fz d=>exact DV.V3 f e h
 |rf i=>exact h
 |tp l=>obtain⟨a,xs,m,j,g⟩:=h;exact⟨a,xs,m,UN.V3 f j e,Paired.TU g λ_ _ q=>Yb.V3 f e q⟩
theorem Ya.V3{c:Cell}(g:H a=cL (.ext R))(e:Hd a O H S U)(ha:∀o,H b=cL o->U b=cL o)(h:Ya O K H Y b c):Ya S K U Y b c:=by
 cases c with
 |lst xs=>obtain⟨vs,f,d⟩:=h;exact⟨vs,ha _ f,Paired.TU d λ_ _ q=>To.V3 g e q⟩
 |Te kvs=>obtain⟨ws,f,d⟩:=h;exact⟨ws,ha _ f,Paired.TU d λ_ _ q=>⟨q.1,To.V3 g e q.2⟩⟩
 |obj C fs=>obtain⟨j,dx,ws,i,f,d⟩:=h;exact⟨j,dx,ws,i,ha _ f,Paired.TU d λ_ _ q=>⟨q.1,To.V3 g e q.2⟩⟩
 |dd kvs=>obtain⟨xs,f,d⟩:=h;exact⟨xs,ha _ f,Paired.TU d λ_ _ q=>⟨q.1,DV.V3 g e q.2.1,DV.V3 g e q.2.2⟩⟩
 |dead=>trivial
theorem SF.pin{i:Nat}{c:Cell}{o:HO}(ha:Y[i]?=cL a)(h:ω[i]?=cL c)(d:c≠.dead):SF Y ω H Y (ω.set i .dead) (bf H a o):=
 ⟨λ_ _ h=>h,λb f q n=>by have z:b≠a:=λe=>n ⟨i,c,by rw[e];exact ha,h,d⟩;rw[aJ z];exact q,λb z=>.inl (nH z)⟩
theorem lY{o:HO}(h:H b≠lD):bf H a o b≠lD:=by
 by_cases z:b=a
 .subst z;rw[aE];simp
 .rw[aJ z];exact h
theorem Rj.pin(s:Rj B K H Y ω){i:Nat}{c:Cell}{o:HO}(ha:Y[i]?=cL a)(h:ω[i]?=cL c)(l:c≠.dead):Rj B K (bf H a o) Y (ω.set i .dead):=by
 have e:SF Y ω H Y (ω.set i .dead) (bf H a o):=SF.pin ha h l;refine⟨by rw[RU];exact s.len,s.nd,λb h=>lY (s.bn b h),s.ba,λj b h=>lY (s.al j b h),λj b d g f=>?_⟩;rcases bL f with⟨rfl,rfl⟩|⟨m,f⟩
 .exact trivial
 .exact(s.V4 j b d g f).ev e.ev e.pre λu q=>by rw[aJ (λz=>m (s.nd j i a (by rw[<-z];exact g) ha))];exact q
theorem AX{i:Nat}{c:Cell}(s:Rj B K H Y ω)(ha:Y[i]?=cL a)(h:Lv Y (ω.set i c) b):b=a\/Lv Y ω b:=by
 obtain⟨j,d,f,e,g⟩:=h;rcases bL e with⟨rfl,rfl⟩|⟨_,e⟩
 .rw[ha]at f;cases f;exact .inl rfl
 .exact .inr ⟨j,d,f,e,g⟩
theorem Gn{i:Nat}{c:Cell}{o:HO}(s:Rj B K H Y ω)(ha:Y[i]?=cL a):Hd a (ow B Y ω) H (ow B Y (ω.set i c)) (bf H a o):=λb u d h n=>by
 refine⟨by rw[aJ d];exact h,λz=>?_⟩;rcases z with z|z
 .exact n (.inl z)
 .rcases AX s ha z with z|z
  .exact d z
  .exact n (.inr z)
theorem Rj.ZJ(s:Rj B K H Y ω){i:Nat}{ws:bb (bK×V)}{kvs:bb (bK×SV)}(ha:Y[i]?=cL a)(l:H a=cL (.ext R))(m:oP (ow B Y ω) K H Y ws kvs):Rj B K (bf H a (.dK ws)) Y (ω.set i (.Te kvs)):=by
 have e:Hd a (ow B Y ω) H (ow B Y (ω.set i (.Te kvs))) (bf H a (.dK ws)):=Gn s ha;refine⟨by rw[RU];exact s.len,s.nd,λb h=>lY (s.bn b h),s.ba,λj b h=>lY (s.al j b h),λj b d f g=>?_⟩;rcases bL g with⟨rfl,rfl⟩|⟨n,g⟩
 .rw[ha]at f;cases f;exact⟨ws,aE,Paired.TU m λ_ _ q=>⟨q.1,To.V3 l e q.2⟩⟩
 .exact(s.V4 j b d f g).V3 l e λu q=>by rw[aJ (λz=>n (s.nd j i a (by rw[<-z];exact f) ha))];exact q
theorem za{own:bb Str}{fv:bb (Str×Nat)}{g:TG}{e:TT}{d:TE}{gt:tG}{ft:oa}{fe:cR}{n:Nat}{f:bb Nat}{J:It}{Q:VK}{ds:bb D}(hn:own.length=n)(o:fv.map (·.2)=f)
  (m:Ei K E0 g gt) (l:tK K E0 e ft) (p:dr K E0 d fe) (i:Rj B K X Z ω1) (q:Tq (ow B Z ω1) K X Z N ρ) (j:sH K J (ow B Z ω1) X ds) (h:WS K E B X Z ω1 (PQ B K Q) ((iV (ce gt ft fe ds (ib n f ρ) ω1 [])).bind λxs ω2=>.ok (.rf ω2.length) (ω2++[.lst xs]))):
  ∀D,X D=lD->xW J D (hJ own fv N) g e d X λU=>Q (.ref D) U:=pE hn o m l p i q j (Ao h)
def mh(n:Nat)(d:bb Nat)(fd:cR)(gt:tG)(ft:oa)(fe:cR):cR:=λρ ω=>(fd ρ ω).bind λo ω1=>(RS.RK ω1 (gL ω1 o)).bind λp ω1=>(RS.RK ω1 (aD rM (p.2.map (·.2)))).bind λds ω1=>(iV (ce gt ft fe ds (ib n d ρ) (ω1.set p.1 .dead) [])).bind λxs ω2=>.ok (.rf ω2.length) (Xz (ω2++[Cell.lst xs]) p.1 (Cell.Te p.2))
theorem zO{P:Rb}{l:Rr}{own:bb Str}{fv:bb (Str×Nat)}{td:TE}{g:TG}{tc:TT}{te:TE}{fd:cR}{gt:tG}{ft:oa}{fe:cR}{n:Nat}{fj:bb Nat}(hn:own.length=n)(hf:fv.map (·.2)=fj)
  (hd:dr K E td fd) (hg:Ei K E0 g gt) (ht:tK K E0 tc ft) (he:dr K E0 te fe):dr K E (Ml P l (oB own fv (Df P l (Fm K "dict" xC td)) g tc te)) (mh n fj fd gt ft fe):=by
 intro B N H Y ω ρ Q s sl w;refine hd B N H Y ω ρ _ s sl (w.bind.imp λo Z ω1 X e1 s1 f u hu=>?_);obtain⟨⟨i,kvs⟩,J,f⟩:=WS.RK f;obtain⟨ds,qd,f⟩:=WS.RK f;obtain⟨I,a,ws,ha,rfl,g1,g2⟩:=jV s1 hu J;refine⟨.inr (.inr (.inl ⟨rfl,.inl ⟨ws,g1⟩⟩)),a,ws,rfl,rfl,g1,λp hp=>?_⟩;have F:Sv X (bf X p (zZ p a)):=bO hp _;have s2:=s1.grow F;refine⟨p,a,ws,rfl,aE,F _ _ g1,λm=>?_⟩;have nd:(Cell.Te kvs)≠.dead:=by intro z;cases z
 have s3:Rj B K (bf (bf X p (zZ p a)) a (ku P l a m ws)) Z (ω1.set i .dead):=s2.pin ha I nd;have e3:SF Z ω1 X Z (ω1.set i .dead) (bf (bf X p (zZ p a)) a (ku P l a m ws)):=(SF.same F).trans (SF.pin ha I nd);have na:¬ow B Z (ω1.set i .dead) a:=s2.Yx ha;have Vw:L3.Ss (ow B Z (ω1.set i .dead)) K (bf (bf X p (zZ p a)) a (ku P l a m ws)) (ws.map (·.2)) ds:=by have:=Tv.Tr e3 (ui g2);rw[sJ qd]at this;exact wg this
 have C:(bf (bf X p (zZ p a)) a (ku P l a m ws)) a=cL (ku P l a m ws):=aE;have it:sH K (OH P l a m ws) (ow B Z (ω1.set i .dead)) (bf (bf X p (zZ p a)) a (ku P l a m ws)) ds:=by
  intro S U e nn;have h1:=(e a _ C na).1;have XO:=Vw.ev e;have hl:ws.length=ds.length:=by have:=Vw.length;rwa [QQ]at this
  refine⟨λj hj=>⟨⟨h1,by ext⟩,?_⟩,h1,by ext⟩;rintro y XY ⟨rfl,k,hy⟩;obtain⟨d,q1,J⟩:=XO.Yk (v:=y) (i:=j) (by rw[Q5,hy];rfl);exact⟨Sv.refl _,d,q1,J⟩
 refine za (E:=E) (Q:=λx U=>∃d m kvs,U d=cL (ku P l d m kvs)/\Q x (bf U d (.dK kvs))) hn hf hg ht he s3 ((sl.Tr e1).Tr e3) it ?_;dsimp only at f;cases qr:ce gt ft fe ds (ib n fj ρ) (ω1.set i .dead) []with
 |er x r=>rw[qr]at f;exact f.elim
 |bad=>rw[qr]at f;exact f.elim
 |ok xs r=>
  rw[qr]at f;have f:WS K E B X Z ω1 (PQ B K Q) (.ok (.rf r.length) (Xz (r++[Cell.lst xs]) i (Cell.Te kvs))):=f;intro T U e s' v hv;have M:¬Lv Z (ω1.set i .dead) a:=λz=>na (.inr z);have A:=e.kp a _ C M;refine⟨a,m,ws,A,?_⟩;have Yt:=e.pre i a ha;have pr:oP (ow B T (r++[.lst xs])) K U T ws kvs:=Paired.TU g2 λ_ _ q=>⟨q.1,(q.2.Tr e3).Tr e⟩;have t:Lv Z ω1 a:=⟨i,_,ha,I,nd⟩;refine f T (bf U a (.dK ws)) ⟨e.pre,λb o h L=>?_,λb z=>?_⟩ (s'.ZJ Yt A pr) v hv
  .have G:b≠a:=λz=>L (by rw[z];exact t);rw[aJ G];exact e.kp b o (e3.kp b o h L) λz=>L (nH z)
  .rcases AX s' Yt z with rfl|z
   .exact .inl t
   .rcases e.lv b z with z|z
    .exact .inl (nH z)
    .refine .inr ?_
     cases q:X b with
     |none=>rfl
     |some o=>
      have:=F b o q;by_cases G:b=a
      .rw[G,aE]at z;cases z
      .rw[aJ G,this]at z;cases z
theorem Au{n i:Nat}{d:bb Nat}{fd:cR}{gt:tG}{ft:oa}{fe:cR}{xs:bb SV}{kvs:bb (bK×SV)}{ds:bb D}(h:fd ρ ω=.ok (.rf i) ω1)(e:ω1[i]?=cL (.Te kvs))(hd:kvs.map (·.2)=ds.map .fz)(f:ce gt ft fe ds (ib n d ρ) (ω1.set i .dead) []=.ok xs ω2):mh n d fd gt ft fe ρ ω=.ok (.rf ω2.length) (Xz (ω2++[Cell.lst xs]) i (Cell.Te kvs)):=by unfold mh;rw[h,ee,jP e];show((RS.RK ω1 (aD rM (kvs.map (·.2)))).bind _)=_;rw[hd,jY];show((iV (ce gt ft fe ds (ib n d ρ) (ω1.set i .dead) [])).bind _)=_;rw[f,nY,ee]
end
end L10
namespace PySem
open Sem (wp)
open PyProof.Rows
section
variable{prog:Rb}{w:Rr}{A:Rt}{E:QN->QS->Prop}{s:QS}{t:QT}{xs:Array (Int×Tok)}
theorem A2{vs:bb QN}{ns:bb Int}{Q:QN->QS->Prop}(p:A.handled=lD)(g:s.heap.IsList t vs.toArray)(hi:IntsAre vs ns)(r:0<ns.length)
  (h:∀h' M (u:Tok) tk,(∀b o,s.heap.get? b=cL o->h'.get? b=cL o)->M∈ns->(∀a,a∈ns->a<=M)->Q (.int M u) {s with heap:=h',toks:=tk}):
  wpAny (model prog w) A (call (.builtin "max") [.ref t]) Q E s:=by
 obtain⟨xs,e⟩:=hi.allInts.items;have f:ns=xs.toList.map (·.1):=by rw[<-hi.numsOf,<-nums_intItems,<-e]
 have d:0<xs.size:=by have i:=r;rw[f,QQ,RL]at i;exact i
 rw[e]at g;refine max_intList p g d λv h' tk l m=>?_;obtain⟨t,rfl⟩:=intItems_at l;obtain⟨y,q⟩:=argBest_gt (numAt xs) (xs.size - 1);refine h _ _ t tk m ?_ λa ha=>?_
 .rw[f,numAt_eq];exact getD_mem (by rw[QQ,RL];ext)
 .rw[f]at ha;obtain⟨j,n,rfl⟩:=mem_getD ha;rw[QQ,RL]at n;rw[<-numAt_eq];exact q j (by ext)
end
end PySem
namespace L10
open PySem PySem.Spec PyProof.Rows L2 L3
def HQ(K:Bn):bb V->Hp->VK->Prop:=λxs H Q=>∃(a:QT) (b:bb Int),xs=[.ref a]/\Uq K H a (b.map V.int)/\0<b.length/\∀M,M∈b->(∀i,i∈b->i<=M)->Q (.int M) H
theorem zI{X:Cx}(j:X.calm=QM):S3 X (.builtin "max") (HQ X.K):=by intro b s n H xs o Q I r h;obtain⟨a,t,rfl,f,hn,q⟩:=h;obtain⟨u,rfl,e⟩:=hG r;cases e;obtain⟨w,d,g,_⟩:=I.list f;exact A2 (I.ok.hd j) g.isList (ju d) hn λv M u p i m l=>⟨.int M,H,I.kept i,⟨_,rfl⟩,q M m l⟩
def uv:bb D->bg RV
 |[.list ds]=>(match jB ds with
  |some a=>if 0<a.length then cL (.fz (.int (vq a)))else lD
  |none=>lD)
 |_=>lD
theorem F0{K:Bn}:vt K (HQ K) uv:=by
 intro O H xs ds rv Q n i e q;unfold uv at e;split at e
 .split at e
  .rename_i b h
   split at e
   .rename_i hn
    cases e;cases i with
    |cons l j=>cases j;obtain⟨a,vs,rfl,d,m⟩:=vG l;rw[lu m h]at d;refine⟨a,b,rfl,d.sq,hn,λM g f=>?_⟩;obtain⟨k1,k2⟩:=wS hn;have:M=vq b:=Zn (k2 M g) (f _ k1);subst this;exact q.at (.int _)
   .cases e
  .cases e
 .cases e
end L10
namespace L10
open PySem PyProof.Rows L2 L3
section
variable{B O O':bS}{K:Bn}{E:XK}{H T P H2:Hp}{Z Y U R:bb QT}{ω S ω1 ω2:aW}{X:L2.St}{ρ:aZ}{v:V}
def zn(n:String)(fa:cR):cR:=λρ ω=>(fa ρ ω).bind λx ω1=>(RS.RK ω1 (mK 6 ω1 x)).bind λd ω1=>(RS.RK ω1 (zt d)).bind λt ω1=>.ok (.fz (.bool (Gz n t))) ω1
theorem G4(hn:n= "int"\/n= "bool"\/n= "str"\/n= "list"\/n= "tuple")(ha:dr K E ta fa):dr K E (zY (IA K) (iC ta (iC (tC (.ty n)) kx))) (zn n fa):=by intro B X H Z ω ρ Q s f w;refine ha B X H Z ω ρ _ s f (w.bind.imp λx U ω1 P e1 b a v g=>?_);obtain⟨d,q,a⟩:=WS.RK a;obtain⟨t,e,a⟩:=WS.RK a;exact⟨v,n,t,Gz n t,rfl,NT (DV.x (jf b 6 g q)) e,Gk hn e,WS.now b a (.bl _) (.bl _)⟩
theorem AN(h:fa ρ ω=.ok x ω1)(hd:mK 6 ω1 x=cL d)(a:zt d=cL t):zn n fa ρ ω=.ok (.fz (.bool (Gz n t))) ω1:=by unfold zn;rw[h,ee,hd];show((RS.RK ω1 (zt d)).bind _)=_;rw[a];rfl
def lI:bb (cR×cR)->aZ->aW->RS (bb (bK×SV))
 |[],_,ω=>.ok [] ω
 |(fk,fv)::r,ρ,ω=>(fk ρ ω).bind λx ω1=>(RS.RK ω1 (nt x)).bind λk ω1=>(fv ρ ω1).bind λy ω2=>(lI r ρ ω2).bind λps a=>.ok ((k,y)::ps) a
def oj(K:Bn)(E:XK)(a:bb (TE×TE))(fs:bb (cR×cR)):Prop:=
 ∀(B:bS) (X:L2.St) (H:Hp) (Z:bb QT) (ω:aW) (ρ:aZ) (Q:bb (V×V)->Hp->Prop),Rj B K H Z ω->Tq (ow B Z ω) K H Z X ρ->WS K E B H Z ω (λps Y S T=>∀vs,Paired (λ(p:V×V) (q:bK×SV)=>p.1=kV q.1/\To (ow B Y S) K T Y p.2 q.2) vs ps->Q vs T) (lI fs ρ ω)->sI a X H Q
theorem FR:oj K E [] []:=λB X H Z ω ρ Q s a w=>WS.now s w [] .nil
theorem B6(p:dr K E tk fk)(m:dr K E tv fv)(o:oj K E XR fs):oj K E ((tk,tv)::XR) ((fk,fv)::fs):=by intro B X H Z ω ρ Q s b w;refine p B X H Z ω ρ _ s b (w.bind.imp λx U ω1 P e1 l a v d=>?_);obtain⟨k,q,a⟩:=WS.RK a;have ev:=lr q d;refine m B X P U ω1 ρ _ l (b.Tr e1) (a.bind.imp λy R ω2 H2 e2 j h u n=>?_);refine o B X H2 R ω2 ρ _ j ((b.Tr e1).Tr e2) (h.bind.imp λps f e t e3 i g vs r=>?_);exact WS.now i g _ (.cons ⟨ev,n.Tr e3⟩ r)
def qG(fs:bb (cR×cR)):cR:=λρ ω=>(iV (lI fs ρ ω)).bind λps ω1=>if ps.length<=15 then .ok (.rf ω1.length) (ω1++[.Te (gH [] ps)])else .bad
theorem BV:∀{vs:bb (V×V)} {ps:bb (bK×SV)},Paired (λ(p:V×V) (q:bK×SV)=>p.1=kV q.1/\To O K H Z p.2 q.2) vs ps->∃kvs:bb (bK×V),vs=kvs.map (λkv=>(kV kv.1,kv.2))/\oP O K H Z kvs ps:=by
 intro _ _ b
 induction b with
 |nil=>exact⟨[],rfl,.nil⟩
 | @cons p1 p2 _ _ h t ih=>obtain⟨x,y⟩:=p1;obtain⟨k,z⟩:=p2;obtain⟨kvs,rfl,e⟩:=ih;obtain⟨a,d⟩:=h;dsimp only at a;subst a;exact⟨(k,y)::kvs,rfl,.cons ⟨rfl,d⟩ e⟩
theorem Rj.ZG(s:Rj (bZ B p) K H Z ω)(l:c≠.dead)(g:H p≠lD)(f:Ya (ow (bZ B p) Z ω) K H Z p c)(m:¬B p):Rj B K H (Z++[p]) (ω++[c]):=by
 have eo:ow (bZ B p) Z ω=ow B (Z++[p]) (ω++[c]):=uN s.len l;have hn:=s.ba p (.inr rfl);have ev:Ev (ow (bZ B p) Z ω) H (ow B (Z++[p]) (ω++[c])) H:=by rw[eo];exact λb o h n=>⟨h,n⟩
 refine⟨by rw[Q1,Q1,s.len];rfl,λi j a d e=>?_,λa h=>s.bn a (.inl h),λa h i z=>?_,λi a h=>?_,λi a r d e=>?_⟩
 .rcases bc d with g1|⟨e1,e2⟩<;>rcases bc e with g2|⟨e3,e4⟩
  .exact s.nd i j a g1 g2
  .rw[e4]at g1;exact a7 g1 (hn i)
  .rw[e2]at g2;exact a7 g2 (hn j)
  .omega
 .rcases bc z with z|⟨_,rfl⟩
  .exact s.ba a (.inl h) i z
  .exact m h
 .rcases bc h with h|⟨_,rfl⟩
  .exact s.al i a h
  .exact g
 .rcases bc e with e|⟨e2,rfl⟩
  .rcases bc d with d|⟨e1,rfl⟩
   .exact(s.V4 i a r d e).ev ev (λ_ _ h=>eC h) λ_ q=>q
   .have:=(QU.mp e).1;rw[<-s.len]at this;ext
  .rcases bc d with d|⟨e1,rfl⟩
   .have:=(QU.mp d).1;rw[s.len]at this;ext
   .exact f.ev ev (λ_ _ h=>eC h) λ_ q=>q
theorem Eb(h:oP O K H Z kvs ps):kvs.length=ps.length:=h.length
theorem AI(h:oj K E XR fs):dr K E (II XR) (qG fs):=by
 intro B X H Z ω ρ Q s r w p e;have G:=λz=>s.bn p z e;have t:Rj (bZ B p) K (bf H p (.dK [])) Z ω:=s.hide e;have J:Tq (ow (bZ B p) Z ω) K (bf H p (.dK [])) Z X ρ:=by
  have ev:Ev (ow B Z ω) H (ow (bZ B p) Z ω) (bf H p (.dK [])):=λb o h n=>by
   have y:b≠p:=λz=>by rw[z,e]at h;cases h
   refine⟨by rw[aJ y];exact h,λz=>?_⟩;rcases z with(z|z)|z
   .exact n (.inl z)
   .exact y z
   .exact n (.inr z)
  exact⟨r.1,λj x F=>let⟨v,h1,h2⟩:=r.2 j x F;⟨v,h1,h2.ev ev λ_ _ h=>h⟩⟩
 unfold qG at w;cases qr:lI fs ρ ω with
 |er x d=>rw[qr]at w;exact w.elim
 |bad=>rw[qr]at w;exact w.elim
 |ok ps d=>
  rw[qr]at w;have w:WS K E B H Z ω (PQ B K Q) (if ps.length<=15 then .ok (.rf d.length) (d++[.Te (gH [] ps)])else .bad):=w;refine h (bZ B p) X _ Z ω ρ _ t J ?_;rw[qr];intro Y T A g vs L;have f:=A.kp p _ aE λ⟨i,c,q,_⟩=>t.ba p (.inr rfl) i q;obtain⟨kvs,rfl,u⟩:=BV L;by_cases m:ps.length<=15
  .rw[ax m]at w;refine⟨f,kvs,rfl,by rw[Eb u];exact m,?_⟩;have I:Ev (ow (bZ B p) Y d) T (ow (bZ B p) Y d) (bf T p (.dK (iO [] kvs))):=Ev.mut (.inl (.inr rfl)) _;have l:=sM (Paired.TU u λ_ _ q=>⟨q.1,q.2.ev I λ_ _ h=>h⟩) .nil;have C:=(g.abj f).ZG (c:=.Te (gH [] ps)) (by nofun) (by rw[aE];simp) ⟨_,aE,l⟩ G;have e2:SF Z ω H Y d (bf T p (.dK (iO [] kvs))):=((SF.same (bO e _)).trans A).dd e;exact w (Y++[p]) _ ⟨λi a h=>eC (e2.pre i a h),e2.kp,λb z=>(ou g.len z).elim (e2.lv b) λz=>.inr (by rw[z];exact e)⟩ C (.ref p) ⟨p,by rw[<-g.len];exact aM,rfl⟩
  .rw[a3 m]at w;exact w.elim
theorem Gr:lI [] ρ ω=.ok [] ω:=rfl
theorem lA(d:fk ρ ω=.ok x ω1)(q:nt x=cL k)(a:fv ρ ω1=.ok y ω2)(b:lI fs ρ ω2=.ok ps ω3):lI ((fk,fv)::fs) ρ ω=.ok ((k,y)::ps) ω3:=by unfold lI;rw[d,ee,q];show((fv ρ ω1).bind _)=_;rw[a,ee,b,ee]
theorem Fj(h:lI fs ρ ω=.ok ps ω1)(a:ps.length<=15):qG fs ρ ω=.ok (.rf ω1.length) (ω1++[.Te (gH [] ps)]):=by unfold qG;rw[h,nY,ee,ax a]
end
end L10
namespace L3
open PySem PySem.Spec PyProof.Rows L2
def Oi:bb V->Hp->VK->Prop:=λxs H Q=>∃i:Int,xs=[.int i]/\Q (.int (if i<0 then -i else i)) H
theorem yZ{X:Cx}:S3 X (.builtin "abs") Oi:=by intro a s e H xs f Q I r h;obtain⟨i,rfl,q⟩:=h;obtain⟨u,rfl,d⟩:=hG r;obtain⟨t,rfl⟩:=(show∃t,u=QN.int i t from d);exact call_abs_int λu b=>⟨.int _,H,I.tok b,⟨_,rfl⟩,q⟩
def ud:bb D->bg RV
 |[.int i]=>cL (.fz (.int (if i<0 then -i else i)))
 |_=>lD
theorem KK{K:Bn}:vt K Oi ud:=by
 intro O H xs ds rv Q n a e q;unfold ud at e;split at e
 .cases e
  cases a with
  |cons d b=>cases b;cases d;exact⟨_,rfl,q.at (.int _)⟩
 .cases e
theorem Nj:Ry "abs"=cL (.builtin "abs"):=boot_abs
end L3
namespace L3
open PySem L2
structure NI(K:Bn)(f:QT)(n:Str)(t:Tb):Prop where
 a:RA K Rk n=cL (cL (.ref f))
 F:∃fd,Wf K n n t f fd
structure MI(K:Bn)(C f:QT)(m q:Str)(t:Tb):Prop where
 a:RN K (.ref C) m=cL (cL (.ref f))
 i:Vn K (.ref f)=QM
 F:∃fd,Wf K m q t f fd
structure CI(K:Bn)(C:QT)(n:Str)(fs:bb Str):Prop where
 a:RA K Rk n=cL (cL (.ref C))
 pg:TN K C Str.empty=QM
 hd:Ug K C=QM
 po:Vo K C=QM
 sa:RN K (.ref C) "__setattr__"=cL (cL (.builtin "object.__setattr__"))
 mm:VI K C=QM
 kc:SU K (.ref C)=QM
 fl:∀x∈fs,U4 K C x
def BA(n q:Str)(t:Tb)(ps:bb Str):Prop:=∀(kV b d:QN) (e:bg QT) (f ct:QN) (a:bb QN),a.length=ps.length->bindArgs (Tf n q (kh t) (d8 t) (aI t) .none kV b d e f ct) ⟨a,[]⟩=pure (ps.zip a)
section
variable{P:Rb}{w:Rr}{K:Bn}{mg:Str->bg QN}{base h:Heap}{f C:QT}{n m q:Str}{t:Tb}{Z fs:bb Str}{Y k:Nat}{sp sp':Sp}
theorem CI.cls(c:CI K C n fs):XN K C:=⟨c.pg,c.hd,c.po,c.sa⟩
theorem CI.cf(c:CI K C n fs):L10.lX K n fs:=⟨C,c.a,c.cls,c.fl⟩
theorem NI.cal(i:NI K f n t)(X:K.In h)(G:h.Ns Rk mg)(b:BA n n t Z)(ok:∀fd,Wf K n n t f fd->FnOk P w K mg base l9 Y f fd Z sp):tY P w K mg base Y n Z sp:=
 let⟨fd,z⟩:=i.F;⟨f,fd,ok fd z,z.binds b,z.kp,Um X G i.a⟩
theorem NI.law(i:NI K f "law" t)(X:K.In h)(G:h.Ns Rk mg)(b:mg "law"=cL (.ref fa))(j:BA "law" "law" t [x])(ok:∀base fd,Wf K "law" "law" t f fd->FnOk P w K mg base l9 Y f fd [x] sp):∃fd:Sl,(∀(s:QS) (v:QN),Vz s fd ⟨[v],[]⟩ [(x,v)])/\∀base:Heap,K.In base->base.Ns Rk mg->FnOk P w K mg base l9 Y fa fd [x] sp:=by have e:=b.symm.trans (Um X G i.a);cases e;obtain⟨fd,z⟩:=i.F;obtain⟨r,p,kV,d,g,l,o,ct,y,rfl,u,A⟩:=z.ex;exact⟨_,λs v=>.of_eq (j kV d g l o ct [v] rfl),λbase _ _=>ok base _ z⟩
theorem ro(a:SY k A):A.units+65<cLine:=by have:=a.un;ext
theorem Ni{W:QT}{a:Array QN}{g:Nat}{e:Array (bg QN)}{xs:bb V}{ds:bb D}(l:K.lookup W=cL ⟨.type "tuple",lD,.seq a g,e⟩)(d:a.size<=Q3)(b:Vals xs a.toList)(hd:∀O H,Ss O K H xs ds):∀O H,DV O K H (.ref W) (.tuple ds):=λO H=>
 .tup (xs:=xs) ⟨.inr ⟨_,_,_,l,⟨rfl,rfl⟩,rfl,d,b⟩,λ_=>.inr ⟨_,_,_,l,⟨rfl,rfl⟩,rfl,d,b⟩⟩ (hd O H)
end
end L3
namespace LD
open PySem PyProof.Rows L2 L3
mutual
def L7:QO->QO->bg Bool
 |.int i,.int j=>cL (decide (i<j))
 |.str x,.str y=>cL (decide (x.cps.toList<y.cps.toList))
 |.tuple xs,.tuple ys=>Mx xs ys
 |_,_=>lD
def Mx:bb QO->bb QO->bg Bool
 |[],[]=>cL QP
 |[],_::_=>cL QM
 |_::_,[]=>cL QP
 |x::xs,y::ys=>if QO.eqv x y=QM then Mx xs ys else L7 x y
end
end LD
namespace LD
open PySem PyProof.Rows
structure VE(es:bb U9)(kvs:bb (Unit×QN)):Prop where
 vals:es.map (·.val)=kvs.map (·.2)
end LD
namespace L3
open PySem PyProof.Rows L2
structure ad1(K:Bn)(x qual:Str)(st:Tb)(f:QT)(fd:Sl)(T:QT)(RG:Array QN):Prop where
 ex:∃(oc:QN) (od:bg QT) (kV doc pm:QN) (an:bg QT) (Ti ct:QN) (Ym:Array (bg QN)),
  fd=Tf x qual (kh st) (d8 st) (aI st) (.ref T) kV doc pm an Ti ct/\K.lookup f=cL ⟨oc,od,.func fd,Ym⟩/\UU K Ti qual=QM
 kp:SU K (.ref f)=QM
 tp:∃o n,K.lookup T=cL o/\o.data=.seq RG n
end L3
namespace L3
open PySem L2
section
variable{P:Rb}{w:Rr}{K:Bn}{mg:Str->bg QN}{base h:Heap}{f C:QT}{n m q:Str}{t:Tb}{Z fs:bb Str}{Y k:Nat}{sp sp':Sp}{U:tS}
theorem MI.aa3(i:MI K C f m q t)(c:CI K C n fs)(b:BA m q t Z)(ok:∀fd,Wf K m q t f fd->FnOk P w K mg base U Y f fd Z sp):L10.mF P w K mg base U Y n m Z sp:=
 let⟨fd,z⟩:=i.F;⟨C,f,fd,c.a,c.cls,⟨i.a,i.i,z.kp⟩,ok fd z,z.binds b⟩
theorem MI.aeo(i:MI K C f "__init__" q t)(c:CI K C n fs)(X:K.In h)(G:h.Ns Rk mg)(b:BA "__init__" q t Z)(ok:∀fd,Wf K "__init__" q t f fd->FnOk P w K mg base U Y f fd Z sp):L10.xy P w K mg base U Y n Z sp:=
 let⟨fd,z⟩:=i.F;⟨C,f,fd,c.a,Um X G c.a,⟨c.mm,i.a,i.i,c.kc⟩,ok fd z,z.binds b⟩
end
end L3
namespace L3
open PySem L2
theorem J8{X:Cx}{P:Rb}{w:Rr}:eY (L4.Cr P w) X E0:=λ_ _ _ _ _ _ _ h=>by obtain⟨_,_,_,_,_,_,_,_,_,_,_,_,_,_,_,_,h⟩:=h;exact h.elim
end L3
namespace L10
open PySem L2 L3
def Pj(T:A->aW->Prop)(X:Xc->Prop):RS A->Prop
 |.ok a ω=>T a ω
 |.er x _=>X x
 |.bad=>False
structure Out{A:Type}(r:RS A)(T:A->aW->Prop)(X:Xc->Prop):Prop where
 out:Pj T X r
end L10
namespace L3
open PySem PyProof.Rows L2
section
variable{P:Rb}{w:Rr}{K:Bn}{mg:Str->bg QN}{base h:Heap}{f T:QT}{n:Str}{t:Tb}{ps:bb Str}{lv:Nat}{sp:Sp}{CX:tS}{RG:Array QN}
structure DI(K:Bn)(f T:QT)(n:Str)(t:Tb)(RG:Array QN):Prop where
 a:RA K Rk n=cL (cL (.ref f))
 F:∃fd,ad1 K n n t f fd T RG
end
structure Tp(P:Rb)(w:Rr)(K:Bn)(mg:Str->bg QN)(base h:Heap):Prop where
 X:K.In h
 G:h.Ns Rk mg
section
variable{P:Rb}{w:Rr}{K:Bn}{mg:Str->bg QN}{base h:Heap}{f C T:QT}{n m q:Str}{t:Tb}{Z fs:bb Str}{Y:Nat}{sp:Sp}{U:tS}{RG:Array QN}
theorem NI.c(i:NI K f n t)(W:Tp P w K mg base h)(ok:∀fd,Wf K n n t f fd->FnOk P w K mg base l9 Y f fd Z sp)(a:BA n n t Z:=by fail "ba"):tY P w K mg base Y n Z sp:=i.cal W.X W.G a ok
theorem MI.mt(i:MI K C f m q t)(c:CI K C n fs)(W:Tp P w K mg base h)(ok:∀fd,Wf K m q t f fd->FnOk P w K mg base U Y f fd Z sp)(a:BA m q t Z:=by fail "ba"):L10.mF P w K mg base U Y n m Z sp:=i.aa3 c a ok
theorem MI.k(i:MI K C f "__init__" q t)(c:CI K C n fs)(W:Tp P w K mg base h)(ok:∀fd,Wf K "__init__" q t f fd->FnOk P w K mg base U Y f fd Z sp)(a:BA "__init__" q t Z:=by fail "ba"):L10.xy P w K mg base U Y n Z sp:=i.aeo c W.X W.G a ok
end
end L3
namespace PySem
namespace SetTable
def PY(xs:Array Nat):Prop:=xs.toList.Pairwise (·<·)
structure TI(b:Bool)(t:SetTable):Prop where
 led:t.led=b
 dm:t.dummies= #[]
 ris:PY t.place
end SetTable
end PySem
namespace PySem
open SetTable
section
variable{prog:Rb}{w:Rr}{K:Type}[DecidableEq K]{knd:KeyKind prog w K}{A:Rt}{E:QN->QS->Prop}{s:QS}{b:Bool}{a:QT}{es:Array (Int×QN)}
structure SetX(knd:KeyKind prog w K)(b:Bool)(h:Heap)(a:QT)(es:Array (Int×QN)):Prop where
 x:∃o ep t,h.get? a=cL o/\o.ExactSet/\o.data=.set es ep t/\t.fits es.size=QM/\TI b t
 el:ElemsOf knd es.toList
 sz:es.size<scanBound
end
end PySem
namespace PySem
namespace SetTable
structure TT(t:SetTable)(n:Nat):Prop where
 k:∃k,t.mask+1=2^k
 dm:t.dummies= #[]
 ris:PY t.place
 le:∀v∈t.place.toList,v<=t.mask
 sz:t.place.size=n
 few:n*5<t.mask*3
section
variable{t:SetTable}{n:Nat}{p:Probe}
structure PI(t:SetTable)(p:Probe):Prop where
 nine:p.more<=9
 jm:p.j+p.more<=t.mask
 pt:p.perturb<2^64
 dm:p.dummy=lD
end
end SetTable
end PySem
namespace LD
open PySem PySem.SetTable PyProof.Rows L2 L3
section
variable{prog:Rb}{w:Rr}{E:QN->QS->Prop}
variable{A:Rt}{s:QS}
structure SetH(prog:Rb)(w:Rr)(b:Bool)(h:Heap)(a:QT)(es:Array (Int×QN))(ks:bb (KD×QT)):Prop where
 x:∃o ep t,h.get? a=cL o/\o.ExactSet/\o.data=.set es ep t/\TT t es.size/\t.led=b/\t.mask<=8*es.size+8
 el:∀e∈es.toList,∃k c,(k,c)∈ks/\e.2=.ref c/\(Cw prog w).is h k c
mutual
theorem zN{h h':Heap}{x:QT}{b:Obj}(e:h.get? x=cL b)(g:∀vs n,b.data≠.seq vs n)(f:Heap.SameBut x h h'):∀(d:QO) (v:QN) (as:bb QT),kd d=QM->Xg h v d as->Xg h' v d as
 |.none,_,_,_,r=>by cases r;exact .none
 |.int _,_,_,_,r=>by cases r;exact .int _ _
 |.str _,_,_,_,r=>by cases r;exact .str _ _
 |.tuple xs,_,_,k,r=>by
  cases r with
  | @tuple a o vs n _ _ h1 h2 h3 h4=>
   have i:a≠x:=by rintro rfl;rw[e]at h1;cases h1;exact g _ _ h3
   unfold kd at k;exact .tuple ((f.2 a i).trans h1) h2 h3 (og e g f xs _ _ k h4)
 |.bool _,_,_,h,_|.list _,_,_,h,_|.dict _,_,_,h,_=>by simp[kd]at h
theorem og{h h':Heap}{x:QT}{a:Obj}(b:h.get? x=cL a)(f:∀vs n,a.data≠.seq vs n)(e:Heap.SameBut x h h'):∀(ds:bb QO) (vs:bb QN) (as:bb QT),vx ds=QM->Vt h vs ds as->Vt h' vs ds as
 |[],_,_,_,r=>by cases r;exact .nil
 |d::ds,_,_,k,r=>by
  cases r with
  |cons i g=>unfold vx at k;rw[CL]at k;exact .cons (zN b f e d _ _ k.1 i) (og b f e ds _ _ k.2 g)
end
end
end LD
namespace L2
open PySem PySem.Spec PyProof.Rows
variable{X:Cx}{a b:Q9}{rest:bb Q9}{pos:Pos}{ta tb:TE}
end L2
namespace CC
open PySem L2 L3 L10
def jp:Q9->Bool
 |.BinOp .. |.UnaryOp .. |.IfExp .. |.ListComp .. |.Compare .. |.Call .. |.Constant .. |.Attribute .. |.Subscript .. |.Name .. |.List .. |.Tuple .. |.BoolOp .. |.JoinedStr .. |.Dict .. =>QM
 |_=>QP
def No:Q9->Bool
 |.BinOp .. |.Call .. |.Attribute .. |.Subscript .. |.Name .. =>QM
 |_=>QP
def J6:Q9->Bool
 |.ListComp .. =>QM
 |_=>QP
def MF:Q9->Bool
 |.Constant .. |.Attribute .. |.Subscript .. |.Name .. =>QM
 |_=>QP
def xE:Q9->Bool
 |.Tuple .. =>QM
 |_=>QP
section
variable{e o a b:Q9}{es:bb Q9}{env:Env}{pos p:Pos}{n k:Nat}
theorem jd(h:jp e=QM):Rg (e::es) env=(QP,eval e env)::Rg es env:=by cases e<;>first|rfl|cases h
theorem wI(h:jp e=QM):xj e:=by cases e<;>first|(intro _ _;rfl)|cases h
theorem yy(h:jp e=QM):∀x,foldedSetIterable e env x=pure x:=by cases e<;>first|(intro _;rfl)|cases h
theorem FP(h:No e=QM):∀whole:Sem QN,isTrue e env whole=(do let v<-whole;standAt e.pos;holding [v] (truthy v)):=by cases e<;>first|(intro _;rfl)|cases h
theorem x8{t}(h:(jp e&& !J6 e)=QM):TV e t n env=pure QP:=by cases e<;>first|rfl|cases h
theorem NR{f p}(h:jp e=QM):TV e (cL (.Attribute o f p)) n env=pure QP:=by cases e<;>first|rfl|cases h
theorem Mg(h:jp e=QM):TV e (cL (.Subscript o a p)) n env=pure QP:=by cases e<;>first|rfl|cases h
theorem gY{f:Str}(h:MF e=QM):attributeBase e f env (eval e env)=eval e env:=by cases e<;>first|rfl|cases h
theorem EE(h:jp e=QM):KI e=QP:=by cases e<;>first|rfl|cases h
theorem GP(h:No e=QM):swapsWithSole [.Tuple es k p] e n env=pure QP:=by cases e<;>first|rfl|cases h
theorem yU(h:No e=QM):swappedStores [.Tuple es k p] e env=pure lD:=by cases e<;>first|rfl|cases h
theorem uQ(h:xE e=QM):∃l k p,e=.Tuple l k p:=by cases e<;>first|exact⟨_,_,_,rfl⟩|cases h
theorem Kp(h:es.all jp=QM):((backTo pos (Rg es env)).any λx=>x.1)=QP:=by
 induction es with
 |nil=>rfl
 |cons e es d=>rw[SE,CL]at h;rw[jd h.1];exact d h.2
theorem Lj(h:es.all jp=QM):((backTo pos (Rg es env)).all λx=> !x.1)=QM:=by
 induction es with
 |nil=>rfl
 |cons e es d=>rw[SE,CL]at h;rw[jd h.1];exact d h.2
theorem iu(h:(e::es).all jp=QM):Rg (e::es) env=(QP,eval e env)::Rg es env:=by rw[SE,CL]at h;exact jd h.1
theorem lz(h:(e::es).all jp=QM):((backTo pos (Rg es env)).any λx=>x.1)=QP:=by rw[SE,CL]at h;exact Kp h.2
theorem tH(h:es.all jp=QM)(d:es.length<20):methodCallForm (es.length+([]:bb UO).length) (backTo pos (Rg es env)) (backToKw pos (keywordEach [] env))=QM:=by unfold methodCallForm;rw[Lj h,UA];refine(CL _ _).mpr ⟨rfl,a4 ?_⟩;show es.length+0+0<30;ext
theorem NA{q}{m:Str}(h:MF o=QM)(d:es.all jp=QM)(g:es.length<20)(i:(p.endLine==q.line)=QM):∃pl,eval (.Call (.Attribute o m p) es [] q) env=(do
   let ov<-eval o env
   standAt p.atName
   let(f,first)<-holding [ov] (getMethod ov m pl)
   callWith q f first (backTo q (Rg es env)) (backToKw q (keywordEach [] env))):=by
 refine⟨do return(<-importBound o env).getD QM,?_⟩;show(do
  let ov<-attributeBase o m env (eval o env)
  standAt p.atName
  methodCall o m p q env ov (es.length+([]:bb UO).length) (backTo q (Rg es env)) (backToKw q (keywordEach [] env)))=_
 rw[gY h];unfold methodCall calleeOf methodCallPos;rw[tH d g,i];rfl
theorem ME{elt cp sc x}(h1:env.scope.kind=.function)(h2:env.kindOf x=cL .local)(h3:(p.line==pos.line)=QM)(h4:(sc.names.any λy=>y.1==x&&(y.2==.local||y.2==.cell))=QP):TV (.ListComp elt [cp] sc pos) (cL (.Name x p)) n env=pure QM:=by show(pure _:Sem Bool)=_;rw[show env.blockKind=.function by unfold Env.blockKind;rw[h1];rfl,h2];show(pure (_&&(p.line==pos.line)&& !(sc.names.any λy=>y.1==x&&(y.2==.local||y.2==.cell))):Sem Bool)=_;rw[h3,h4];rfl
end
theorem bN{α:Type}{o:bg α}{p:α->Bool}(h:o.any p=QM):∃x,o=cL x/\p x=QM:=by
 cases o with
 |none=>cases h
 |some x=>exact⟨x,rfl,h⟩
def vN:Q9->bg (Str×Pos)
 |.Name x p=>cL (x,p)
 |_=>lD
def vC:Q9->bg Const
 |.Constant c _ _=>cL c
 |_=>lD
def M3:Q9->bg (Q9×Operator×Q9)
 |.BinOp a o b _=>cL (a,o,b)
 |_=>lD
def Kh:Q9->bg (Q9×bb X0×bb Q9)
 |.Compare a o b _=>cL (a,o,b)
 |_=>lD
def zB:Q9->bg (Q9×Q9×Pos)
 |.Subscript a b p=>cL (a,b,p)
 |_=>lD
def PX:Q9->bg (bg Q9×bg Q9×bg Q9)
 |.Slice a b c _=>cL (a,b,c)
 |_=>lD
def Hq:Q9->bg (bb Q9)
 |.Tuple es _ _=>cL es
 |_=>lD
def MH:Q9->bg (bb Q9)
 |.List es _=>cL es
 |_=>lD
def yD:Q9->bg (Q9×bb Q9×bb UO×Pos)
 |.Call f es ks p=>cL (f,es,ks,p)
 |_=>lD
def Ow:Q9->bg (Q9×Str×Pos)
 |.Attribute o x p=>cL (o,x,p)
 |_=>lD
def PH:Q9->bg (Q9×Q9×Q9)
 |.IfExp c a b _=>cL (c,a,b)
 |_=>lD
def Pm:Q9->bg (BoolOp×bb Q9×Pos)
 |.BoolOp o es p=>cL (o,es,p)
 |_=>lD
def Pw:Q9->bg (UnaryOp×Q9)
 |.UnaryOp o a _=>cL (o,a)
 |_=>lD
def Pu:Q9->bg (Q9×bb T8×SR×Pos)
 |.ListComp e g s p=>cL (e,g,s,p)
 |_=>lD
def OX:Q9->bg (bb (bg Q9)×bb Q9)
 |.Dict k v _=>cL (k,v)
 |_=>lD
section
variable{e:Q9}
theorem pX(h:vN e=cL x):e=.Name x.1 x.2:=by cases e<;>cases h<;>rfl
theorem HI(h:vC e=cL x):∃k p,e=.Constant x k p:=by cases e<;>cases h<;>exact⟨_,_,rfl⟩
theorem EH(h:M3 e=cL x):∃p,e=.BinOp x.1 x.2.1 x.2.2 p:=by cases e<;>cases h<;>exact⟨_,rfl⟩
theorem xB(h:Kh e=cL x):∃p,e=.Compare x.1 x.2.1 x.2.2 p:=by cases e<;>cases h<;>exact⟨_,rfl⟩
theorem lQ(h:zB e=cL x):e=.Subscript x.1 x.2.1 x.2.2:=by cases e<;>cases h<;>rfl
theorem JS(h:PX e=cL x):∃p,e=.Slice x.1 x.2.1 x.2.2 p:=by cases e<;>cases h<;>exact⟨_,rfl⟩
theorem yo(h:Hq e=cL x):∃k p,e=.Tuple x k p:=by cases e<;>cases h<;>exact⟨_,_,rfl⟩
theorem F1(h:MH e=cL x):∃p,e=.List x p:=by cases e<;>cases h<;>exact⟨_,rfl⟩
theorem om(h:yD e=cL x):e=.Call x.1 x.2.1 x.2.2.1 x.2.2.2:=by cases e<;>cases h<;>rfl
theorem vM(h:Ow e=cL x):e=.Attribute x.1 x.2.1 x.2.2:=by cases e<;>cases h<;>rfl
theorem KW(h:PH e=cL x):∃p,e=.IfExp x.1 x.2.1 x.2.2 p:=by cases e<;>cases h<;>exact⟨_,rfl⟩
theorem Cc(h:Pm e=cL x):e=.BoolOp x.1 x.2.1 x.2.2:=by cases e<;>cases h<;>rfl
theorem Km(h:Pw e=cL x):∃p,e=.UnaryOp x.1 x.2 p:=by cases e<;>cases h<;>exact⟨_,rfl⟩
theorem Jn(h:Pu e=cL x):e=.ListComp x.1 x.2.1 x.2.2.1 x.2.2.2:=by cases e<;>cases h<;>rfl
theorem Ah(h:OX e=cL x):∃p,e=.Dict x.1 x.2 p:=by cases e<;>cases h<;>exact⟨_,rfl⟩
end
abbrev Fd:=Rb->Rr->Bn->(Str->bg QN)->Heap->Prop
abbrev kC(lv:Nat)(x:Str)(ps:bb Str)(n:Nat)(F:FN):Fd:=λP w K b a=>OQ P w K b a lv x ps n F
abbrev nQ(lv:Nat)(x:Str)(ps:bb Str)(n:Nat)(F:g9):Fd:=λP w K b a=>tY P w K b a lv x ps (se K n F)
abbrev yL(rz:Bool)(lv:Nat)(C x:Str)(ps:bb Str)(n:Nat)(F:g9):Fd:=λP w K b a=>mF P w K b a (if rz then L4.Cr P w else l9) lv C x ps (se K n F)
abbrev PJ(lv:Nat)(C:Str)(ps:bb Str)(n:Nat)(F:g9):Fd:=λP w K b a=>xy P w K b a l9 lv C ps (se K n F)
structure Md where
 bl:bb Str
 ex:bb Str
 cs:bb (Str×D)
 cl:bb (Str×bb Str)
structure Gm where
 M:Md
 N:bb Str
 sc:bb (Str×Q8)
 lv:Nat
 rz:Bool
 fa:Bool
 fc:bb Str
 top:Nat
abbrev M7:bb QN:=[.type "ValueError",.type "Exception",.type "BaseException",.type "object"]
structure Yo(K:Bn)(mg:Str->bg QN)(M:Md):Prop where
 bl:∀x∈M.bl,mg x=lD
 ex:∀x∈M.ex,∃C,RA K Rk x=cL (cL (.ref C))/\mg x=cL (.ref C)/\V9 K C M7 "ValueError.__new__"=QM
 cs:∀x d,M.cs.lookup x=cL d->∃v u,mg x=cL u/\RelV v u/\∀O H,DV O K H v d
 cl:∀C L,M.cl.lookup C=cL L->lX K C L
structure Ct(T:bb Fd)(Γ:Gm)(X:Cx)(E:XK):Prop where
 n:X.N=Γ.N
 nd:X.N.Nodup
 sc:X.env.scope.names=Γ.sc
 kd:X.env.scope.kind=.function
 cm:X.calm=QM
 rm:SY Γ.lv X.A
 po:Γ.fa=QM->aaN (model X.prog X.w) X.A X.env X.xe
 px:Γ.rz=QM->∃(N:bb Str) (qual:Str) (scope:SR) (f:QT) (cd:QN) (A:Rt) (outer:bb Env) (s0:QS) (H0:Hp),X=kr (L4.Cr X.prog X.w) X.prog X.w X.K X.mg X.base N qual scope f cd A outer s0 H0 E
 fc:∀x∈Γ.fc,X.fn x=QM
 md:Yo X.K X.mg Γ.M
 fs:∀i fd,i<Γ.top->T[i]?=cL fd->fd X.prog X.w X.K X.mg X.base
def M4(s:bb (Str×Q8))(x:Str):Bool:=s.lookup x==cL .local||s.lookup x==cL .cell||s.lookup x==cL .free
def OC(x:Str):Bool:= !(x==("__debug__":Str))&& !(x==("__classdict__":Str))&& !(x==("__name__":Str))
def L8(Γ:Gm)(x:Str):Bool:=Γ.sc.lookup x==cL .globalImplicit&&OC x
def blt(Γ:Gm)(x:Str):Bool:=L8 Γ x&&Γ.M.bl.contains x
theorem eX{a:bg Q8}{b:Q8}(h:(a==cL b)=QM):a=cL b:=by
 cases a with
 |none=>cases h
 |some a=>cases a<;>cases b<;>first|rfl|cases h
section
variable{T:bb Fd}{Z:Gm}{X:Cx}{E:XK}{x:Str}{i:Nat}
theorem sj(h:OC x=QM):(x==("__debug__":Str))=QP/\(x==("__classdict__":Str))=QP/\x≠("__name__":Str):=by unfold OC at h;simp only[CL,Td]at h;exact⟨h.1.1,h.1.2,λe=>by rw[e,d7]at h;cases h.2⟩
theorem sK(c:Ct T Z X E)(h:L8 Z x=QM):Gl X x/\(x==("__debug__":Str))=QP/\x≠("__name__":Str):=by unfold L8 at h;rw[CL]at h;refine⟨?_,(sj h.2).1,(sj h.2).2.2⟩;show X.env.scope.names.lookup x=_;rw[c.sc];exact eX h.1
theorem oI(c:Ct T Z X E)(h:blt Z x=QM):Gl X x/\X.mg x=lD/\(x==("__debug__":Str))=QP/\x≠("__name__":Str):=by unfold blt at h;rw[CL]at h;obtain⟨b,a⟩:=sK c h.1;exact⟨b,c.md.bl x (U6.mp h.2),a⟩
theorem Im(c:Ct T Z X E)(h:Z.rz=QM):eY (L4.Cr X.prog X.w) X E:=by obtain⟨N,d,a,f,j,A,b,g,l,e⟩:=c.px h;rw[e];exact L4.BS
end
abbrev Jd(τ:Type):=Bn->XK->τ->Prop
def eo(g:FE):Jd TE:=λK E t=>EO K E t g
def es(g:cR):Jd TE:=λK E t=>dr K E t g
def ao(g:FA):Jd TA:=λK E t=>AO K E t g
def as(g:xp):Jd TA:=λK E t=>zC K E t g
def ma(g:FT):Jd TT:=λK E t=>Xs K E t g
def lW(g:oa):Jd TT:=λK E t=>tK K E t g
def oo(g:FO):Jd TO:=λK E t=>Oq K E t g
def go(g:FG):Jd TG:=λK E t=>GO K E t g
def Ba(g:tG):Jd TG:=λK E t=>Ei K E t g
def gs(g:Mb):Jd vQ:=λK E t=>MX K E t g
def Lb(g:ze):Jd vQ:=λK E t=>C5 K E t g
def io(g:FI):Jd TI:=λK E t=>L3.IO K E t g
def IY(g:FI):Jd TI:=λK E t=>Ox K E t g
def Mc(g:Jv):Jd TI:=λK E t=>Oa K E t g
def so(g:FS):Jd TS:=λK E t=>SO K E t g
def dB(g:fw):Jd TS:=λK E t=>ti K E t g
class CK (T:bb Fd) {α τ:Type} (P:Cx->α->τ->Prop) (J:Jd τ) where
 chk:Gm->α->Bool
 ok:∀{Γ X E a},Ct T Γ X E->chk Γ a=QM->∃t,P X a t/\J X.K E t
def QG(X:Cx)(e:Q9)(t:TG):Prop:=PG X e t/\∀r,assignEach (e::r) X.env=(QP,assign e X.env)::assignEach r X.env
def Qv(X:Cx)(r:bb Q9)(t:vQ):Prop:=Mr X r t/\(assignEach r X.env).length=r.length/\List.findIdx? (λx=>x.1) (assignEach r X.env)=lD
def P9(X:Cx)(p:Q9×Q9)(t:TI):Prop:=PI X p.1 p.2 t/\jp p.2=QM
abbrev CE(T:bb Fd)(J:Jd TE):=CK T PE J
abbrev CA(T:bb Fd)(J:Jd TA):=CK T PA J
abbrev CT(T:bb Fd)(J:Jd TT):=CK T PT J
abbrev CQ(T:bb Fd)(J:Jd TT):=CK T vW J
abbrev CO(T:bb Fd)(J:Jd TO):=CK T PO J
abbrev CG(T:bb Fd)(J:Jd TG):=CK T QG J
abbrev CH(T:bb Fd)(J:Jd vQ):=CK T Qv J
abbrev CI(T:bb Fd)(J:Jd TI):=CK T P9 J
abbrev CU(T:bb Fd)(J:Jd TS):=CK T PS J
abbrev CS(T:bb Fd)(J:Jd TS):=CK T WO J
def u6{T:bb Fd}{α τ:Type}{P:Cx->α->τ->Prop}{A J:Jd τ}[x:CK T P A](k:∀{K E t},A K E t->J K E t):CK T P J:=⟨x.chk,λc h=>let⟨t,p,q⟩:=x.ok c h;⟨t,p,k q⟩⟩
end CC
set_option warn.classDefReducibility false
namespace CC
open PySem L2 L3 L10
variable{T:bb Fd}
def Fa(i:Nat)(Γ:Gm)(e:Q9):Bool:=(vN e).any λx=>Γ.N[i]? ==cL x.1&&M4 Γ.sc x.1&&OC x.1
theorem wq{Γ:Gm}{X:Cx}{E:XK}{i:Nat}{e:Q9}(c:Ct T Γ X E)(h:Fa i Γ e=QM):PE X e (u7 i):=by
 obtain⟨x,q,h⟩:=bN h;rw[pX q];unfold M4 at h;simp only[CL,Sd]at h;refine Ku (by rw[c.n];exact beq_iff_eq.mp h.1.1) ?_ (sj h.2).1 (sj h.2).2.1;unfold OL;rw[c.sc];rcases h.1.2 with(z|z)|z
 .exact .inl (eX z)
 .exact .inr (.inl (eX z))
 .exact .inr (.inr (eX z))
def Ip{J:Jd TE}(i:Nat)(k:∀{K E},J K E (u7 i)):CE T J:=⟨Fa i,λc h=>⟨_,wq c h,k⟩⟩
noncomputable instance:CE T (eo (aa i)):=Ip i Lf
noncomputable instance:CE T (es (aq i)):=Ip i Fp
def dq:Nat->D->D->Bool
 |0,_,_=>QP
 |_+1,.int a,.int b=>a==b
 |_+1,.str a,.str b=>a==b
 |_+1,.none,.none=>QM
 |_+1,.bool a,.bool b=>a==b
 |n+1,.tuple a,.tuple b=>a.length==b.length&&(a.zip b).all λp=>dq n p.1 p.2
 |n+1,.list a,.list b=>a.length==b.length&&(a.zip b).all λp=>dq n p.1 p.2
 |_,_,_=>QP
theorem CY{f:D->D->Bool}(i:∀a b,f a b=QM->a=b):∀{a b:bb D},(a.length==b.length&&(a.zip b).all λp=>f p.1 p.2)=QM->a=b:=by
 intro a
 induction a with
 |nil=>
  intro b h;cases b with
  |nil=>rfl
  |cons y s=>cases h
 |cons x r g=>
  intro b h;cases b with
  |nil=>cases h
  |cons y s=>rw[CL]at h;obtain⟨e,d⟩:=h;rw[List.zip_cons_cons,SE,CL]at d;have e:=eq_of_beq e;rw[i x y d.1,g (b:=s) (by rw[CL];exact⟨beq_iff_eq.mpr (by simpa using e),d.2⟩)]
theorem Bw:∀(n:Nat) (a b:D),dq n a b=QM->a=b:=by
 intro n
 induction n with
 |zero=>intro a b h;cases h
 |succ n d=>
  intro a b h;unfold dq at h;split at h
  .cases h
  .rw[eq_of_beq h]
  .rw[eq_of_beq h]
  .rfl
  .rw[eq_of_beq h]
  .rename_i e;cases e;rw[CY d h]
  .rename_i e;cases e;rw[CY d h]
  .cases h
def cD:Const->bg D
 |.int i=>cL (.int i)
 |.str x=>cL (.str x)
 |.bool b=>cL (.bool b)
 |.none=>cL .none
 |_=>lD
noncomputable instance{d:D}:CE T (eo (pC d)) where
 chk Γ e:=(((vC e).bind cD).any λa=>dq 9 a d)||((vN e).any λx=>L8 Γ x.1&&((Γ.M.cs.lookup x.1).any λa=>dq 9 a d))
 ok c h:=by
  rcases(Sd _ _).mp h with h|h
  .obtain⟨a,q,h⟩:=bN h
   obtain rfl:=Bw _ _ _ h;obtain⟨k,f,b⟩:=RB.mp q;obtain⟨_,_,rfl⟩:=HI f;cases k<;>cases b
   .exact⟨_,KL,J4⟩
   .exact⟨_,NS,Ol⟩
   .exact⟨_,LL,JA⟩
   .exact⟨_,Ln,Jy⟩
  .obtain⟨x,q,h⟩:=bN h;rw[CL]at h;obtain⟨a,b,g⟩:=bN h.2;obtain rfl:=Bw _ _ _ g;obtain⟨j,i,_⟩:=sK c h.1;obtain⟨v,u,e1,e2,e3⟩:=c.md.cs _ _ b;rw[pX q];exact⟨_,EX j e1 e2 i,AF e3⟩
class Xa (f:D->D->bg RV) where
 sp:Q9->bg (Q9×Q9)
 ok:∀{X:Cx} {e p ta tb},sp e=cL p->X.A.units+65<cLine->jp p.2=QM->PE X p.1 ta->PE X p.2 tb->∃r,PE X e (Eh r ta tb)/\jR X.K r f
def HU{f:D->D->bg RV}(op:Operator)(d:∀{X:Cx},∃r,OpR X (SG op) r/\jR X.K r f):Xa f where
 sp e:=(M3 e).bind λx=>if x.2.1=op then cL (x.1,x.2.2)else lD
 ok h hu _ ha hb:=by
  obtain⟨x,q,a⟩:=RB.mp h;obtain⟨_,rfl⟩:=EH q;split at a
  .rename_i z;cases a;obtain⟨r,b,g⟩:=d;rw[<-z]at b;exact⟨r,MK b ha hb,g⟩
  .cases a
def PK{f:D->D->bg RV}(k:∀{K},jR K (MQ K) f):Xa f where
 sp e:=(zB e).map λx=>(x.1,x.2.1)
 ok h _ hp ha hb:=by obtain⟨x,q,a⟩:=WK.mp h;cases a;rw[lQ q];exact⟨_,HL A0 ha hb (wI hp),k⟩
class Wl (f:D->D->bg RV) where
 op:X0
 ok:∀{X:Cx},X.A.units+65<cLine->∃r,OpR X (Si op) r/\jR X.K r f
def On(op:X0)(e:Q9):bg (Q9×Q9):=(Kh e).bind λx=>match x.2.2 with
 |[b]=>if x.2.1=[op]&& !behindInMarks op b then cL (x.1,b)else lD
 |_=>lD
theorem wJ{op:X0}{e:Q9}{p:Q9×Q9}(h:On op e=cL p):∃pos,e=.Compare p.1 [op] [p.2] pos/\behindInMarks op p.2=QP:=by
 obtain⟨⟨a,o,b⟩,q,d⟩:=RB.mp h;obtain⟨_,rfl⟩:=xB q;dsimp only at d;split at d
 .split at d
  .rename_i z;cases d;rw[CL,decide_eq_true_eq,Td]at z;exact⟨_,by rw[z.1],z.2⟩
  .cases d
 .cases d
noncomputable instance[o:Wl f]:Xa f where
 sp:=On o.op
 ok h hu _ ha hb:=by obtain⟨p,rfl,q⟩:=wJ h;obtain⟨r,b,a⟩:=o.ok hu;exact⟨r,E2 b ha hb q,a⟩
noncomputable instance:Xa aC:=PK B4
noncomputable instance:Xa L3.iK:=PK Hs
noncomputable instance:Wl br:=⟨.Eq,λh=>⟨_,JL (by ext),JZ⟩⟩
noncomputable instance:Wl mY:=⟨.NotEq,λh=>⟨_,J9 (by ext),Kk⟩⟩
noncomputable instance:Wl LY:=⟨.LtE,λ_=>⟨_,MM,JN⟩⟩
noncomputable instance:Wl Eg:=⟨.Lt,λ_=>⟨_,NO,JR⟩⟩
noncomputable instance:Wl pG:=⟨.Gt,λ_=>⟨_,NJ,K4⟩⟩
noncomputable instance:Wl N6:=⟨.GtE,λ_=>⟨_,NC,Kf⟩⟩
noncomputable instance:Wl nN:=⟨.In,λh=>⟨_,Ky h,Ki⟩⟩
noncomputable instance:Wl jX:=⟨.NotIn,λh=>⟨_,Gq h,GS⟩⟩
noncomputable instance:Wl lG:=⟨.Is,λ_=>⟨_,Lr,Hg⟩⟩
noncomputable instance:Wl gS:=⟨.IsNot,λ_=>⟨_,Eu,Fv⟩⟩
noncomputable instance:Xa ci:=HU .Add ⟨_,F2,GU⟩
noncomputable instance:Xa mG:=HU .Sub ⟨_,Kv,Gy⟩
noncomputable instance:Xa dC:=HU .Mod ⟨_,Kr,Hk⟩
noncomputable instance:Xa dZ:=HU .FloorDiv ⟨_,AA,EB⟩
noncomputable instance:Xa dS:=HU .Mult ⟨_,Hw,Bp⟩
noncomputable instance:Xa qO:=HU .BitAnd ⟨_,IZ,Hu⟩
noncomputable instance:Xa yS:=HU .RShift ⟨_,JQ,E5⟩
section
variable{A B C J:Jd TE}{U Z:Jd TA}{Q R S:Jd TT}
def NY(A B:Jd TE){f:D->D->bg RV}[o:Xa f][x:CE T A][y:CE T B](k:∀{K E r ta tb},jR K r f->A K E ta->B K E tb->J K E (Eh r ta tb)):CE T J where
 chk Γ e:=(o.sp e).any λp=>jp p.2&&x.chk Γ p.1&&y.chk Γ p.2
 ok c h:=by obtain⟨p,q,h⟩:=bN h;simp only[CL]at h;obtain⟨ta,j,i⟩:=x.ok c h.1.2;obtain⟨tb,g,d⟩:=y.ok c h.2;obtain⟨r,b,a⟩:=o.ok q (ro c.rm) h.1.1 j g;exact⟨_,b,k a i d⟩
noncomputable instance[Xa f][CE T (eo a)][CE T (eo b)]:CE T (eo (au f a b)):=NY (eo a) (eo b) Iz
noncomputable instance[Xa f][CE T (es a)][CE T (es b)]:CE T (es (g7 f a b)):=NY (es a) (es b) AL
noncomputable instance[CE T (es a)][CE T (es b)]:CE T (es (L10.iK a b)) where
 chk Γ e:=(zB e).any λp=>jp p.2.1&&CK.chk T PE (es a) Γ p.1&&CK.chk T PE (es b) Γ p.2.1
 ok c h:=by obtain⟨p,q,h⟩:=bN h;simp only[CL]at h;obtain⟨ta,i,g⟩:=CK.ok c h.1.2;obtain⟨tb,f,d⟩:=CK.ok c h.2;rw[lQ q];exact⟨_,HL A0 i f (wI h.1.1),K6 g d⟩
def IB(k:∀{K E},Z K E kx):CA T Z:=⟨λ_ l=>l.isEmpty,λ_ h=>by rw[RF.mp h];exact⟨_,pU,k⟩⟩
def BW(A:Jd TE)(U:Jd TA)[x:CE T A][y:CA T U](k:∀{K E ta tb},A K E ta->U K E tb->Z K E (iC ta tb)):CA T Z where
 chk Γ l:=match l with
  |e::r=>jp e&&x.chk Γ e&&y.chk Γ r
  |[]=>QP
 ok c h:=by
  split at h
  .simp only[CL]at h;obtain⟨ta,f,d⟩:=x.ok c h.1.2;obtain⟨tb,b,a⟩:=y.ok c h.2;exact⟨_,kj f b (jd h.1.1),k d a⟩
  .cases h
noncomputable instance:CA T (ao ap):=IB Jc
noncomputable instance:CA T (as aF):=IB wX
noncomputable instance[CE T (eo a)][CA T (ao b)]:CA T (ao (ae a b)):=BW (eo a) (ao b) EI
noncomputable instance[CE T (es a)][CA T (as b)]:CA T (as (aj a b)):=BW (es a) (as b) Ak
def Iw(U:Jd TA)[x:CA T U](k:∀{K E t},U K E t->J K E (E8 t)):CE T J where
 chk Γ e:=(Hq e).any (x.chk Γ)
 ok c h:=by obtain⟨l,q,h⟩:=bN h;obtain⟨_,_,rfl⟩:=yo q;obtain⟨t,b,a⟩:=x.ok c h;exact⟨_,J0 b,k a⟩
def Nx(U:Jd TA)[x:CA T U](k:∀{K E t},U K E t->J K E (LO t)):CE T J where
 chk Γ e:=(MH e).any (x.chk Γ)
 ok c h:=by obtain⟨l,q,h⟩:=bN h;obtain⟨_,rfl⟩:=F1 q;obtain⟨t,b,a⟩:=x.ok c h;exact⟨_,Lp b,k a⟩
noncomputable instance[CA T (ao a)]:CE T (eo (aN a)):=Iw (ao a) Kn
noncomputable instance[CA T (as a)]:CE T (es (jk a)):=Iw (as a) FZ
noncomputable instance[CA T (ao a)]:CE T (eo (cz a)):=Nx (ao a) K1
noncomputable instance[CE T (eo a)]:CE T (es (af a)):=u6 (A:=eo a) ug
noncomputable instance[CE T (es a)]:CE T (es (qA a)):=u6 (A:=es a) yu
class Fn (T:bb Fd) {φ:Type} (k:Nat->Str->bb Str->Nat->φ->Fd) (F:φ) (n:Nat) where
 i:Nat
 lv:Nat
 x:Str
 ps:bb Str
 h:T[i]?=cL (k lv x ps n F)
def kO(Γ:Gm)(i lv:Nat)(x:Str)(e:Q9):bg (Q9×bb Q9×Pos×Pos):=(yD e).bind λy=>match y.2.1 with
 |a::r=>(vN y.1).bind λz=>if z.1==x&&L8 Γ x&&decide (i<Γ.top)&&decide (lv<=Γ.lv)&&(a::r).all jp&&y.2.2.1.isEmpty then cL (a,r,z.2,y.2.2.2)else lD
 |[]=>lD
theorem wD{Γ:Gm}{i lv:Nat}{x:Str}{e:Q9}{y:Q9×bb Q9×Pos×Pos}(h:kO Γ i lv x e=cL y):e=.Call (.Name x y.2.2.1) (y.1::y.2.1) [] y.2.2.2/\L8 Γ x=QM/\i<Γ.top/\lv<=Γ.lv/\(y.1::y.2.1).all jp=QM:=by
 obtain⟨⟨f,l,n,p⟩,q,a⟩:=RB.mp h;rw[om q];dsimp only at a;split at a
 .obtain⟨z,b,d⟩:=RB.mp a
  obtain rfl:=pX b;split at d
  .rename_i z;cases d;simp only[CL,decide_eq_true_eq,beq_iff_eq,RF]at z;obtain⟨⟨⟨⟨⟨rfl,b⟩,m⟩,j⟩,g⟩,rfl⟩:=z;exact⟨rfl,b,m,j,g⟩
  .cases d
 .cases a
def yJ(U:Jd TA){φ:Type}(k0:Nat->Str->bb Str->Nat->φ->Fd)(F:φ)(n:Nat)[o:Fn T k0 F n][u:CA T U](rz:Bool)(k:∀{X:Cx} {E lv x ps t e r p q},k0 lv x ps n F X.prog X.w X.K X.mg X.base->(rz=QM->eY (L4.Cr X.prog X.w) X E)->SY lv X.A->Gl X x->(x==("__debug__":Str))=QP->(e::r).all jp=QM->PA X (e::r) t->U X.K E t->∃t',PE X (.Call (.Name x p) (e::r) [] q) t'/\J X.K E t'):CE T J where
 chk Γ e:=(!rz||Γ.rz)&&(kO Γ o.i o.lv o.x e).any λy=>u.chk Γ (y.1::y.2.1)
 ok c h:=by rw[CL]at h;obtain⟨y,q,f⟩:=bN h.2;obtain⟨rfl,g,hi,b,a⟩:=wD q;obtain⟨m,l,_⟩:=sK c g;obtain⟨t,j,d⟩:=u.ok c f;exact k (c.fs _ _ hi o.h) (λz=>Im c (by have:=h.1;rw[z]at this;exact this)) (c.rm.mono b) m l a j d
noncomputable instance[Fn T kC F n][CA T (ao a)]:CE T (eo (dF F n a)):=yJ (ao a) kC F n QP λf _ r g d p e b=>⟨_,rH f r e (QV _) g d (iu p) (lz p),KR b⟩
noncomputable instance[Fn T kC F n][CA T (as a)]:CE T (es (ie F n a)):=yJ (as a) kC F n QP λf _ r g d p e b=>⟨_,rH f r e (QV _) g d (iu p) (lz p),Es b⟩
noncomputable instance[Fn T nQ F n][CA T (as a)]:CE T (es (cw F n a)):=yJ (as a) nQ F n QP λf _ r g d p e b=>⟨_,rH f r e (QV _) g d (iu p) (lz p),zF b⟩
noncomputable instance[Fn T nQ F n][CA T (as a)]:CE T (es (qR F n a)):=yJ (as a) nQ F n QP λf _ r g d p e b=>⟨_,rH f r e (QV _) g d (iu p) (lz p),zU b⟩
class CB (f:bb D->bg RV) where
 x:Str
 v:QN
 b:Ry x=cL v
 y:(∃id,v=.builtin id)\/∃ty,v=.type ty
 ok:∀{X:Cx},X.calm=QM->∃r,S3 X v r/\vt X.K r f
def HR(Γ:Gm)(x:Str)(e:Q9):bg (Q9×bb Q9×Pos×Pos):=if blt Γ x then kO {Γ with top:=1} 0 0 x e else lD
theorem mw{Γ:Gm}{x:Str}{e:Q9}{y:Q9×bb Q9×Pos×Pos}(h:HR Γ x e=cL y):e=.Call (.Name x y.2.2.1) (y.1::y.2.1) [] y.2.2.2/\blt Γ x=QM/\(y.1::y.2.1).all jp=QM:=by
 unfold HR at h;split at h
 .rename_i z;obtain⟨b,_,_,_,a⟩:=wD h;exact⟨b,z,a⟩
 .cases h
theorem sr{Γ:Gm}{X:Cx}{E:XK}{x:Str}{v:QN}{r:bb V->Hp->VK->Prop}{e:Q9}{l:bb Q9}{p q:Pos}{t:TA}(c:Ct T Γ X E)(j:blt Γ x=QM)(b:Ry x=cL v)(y:(∃id,v=.builtin id)\/∃ty,v=.type ty)(k:S3 X v r)(a:(e::l).all jp=QM)(h:PA X (e::l) t):PE X (.Call (.Name x p) (e::l) [] q) (zY r t):=by
 obtain⟨i,f,g,d⟩:=oI c j;rcases y with⟨id,rfl⟩|⟨id,rfl⟩
 .exact C1 k i f b h d g (iu a) (lz a)
 .exact y6 k i f b h d g (iu a) (lz a)
def NW(U:Jd TA)(f:bb D->bg RV)[o:CB f][u:CA T U](k:∀{K E r t},vt K r f->U K E t->J K E (zY r t)):CE T J where
 chk Γ e:=(HR Γ o.x e).any λy=>u.chk Γ (y.1::y.2.1)
 ok c h:=by obtain⟨y,q,i⟩:=bN h;obtain⟨rfl,g,a⟩:=mw q;obtain⟨t,j,d⟩:=u.ok c i;obtain⟨r,k1,k2⟩:=o.ok c.cm;exact⟨_,sr c g o.b o.y k1 a j,k k2 d⟩
noncomputable instance[CB f][CA T (ao a)]:CE T (eo (dR f a)):=NW (ao a) f IR
noncomputable instance[CB f][CA T (as a)]:CE T (es (z7 f a)):=NW (as a) f K7
noncomputable instance:CB de:=⟨"len",_,Nt,.inl ⟨_,rfl⟩,λ_=>⟨_,Bc,Lz⟩⟩
noncomputable instance:CB hV:=⟨"tuple",_,Ep,.inr ⟨_,rfl⟩,λ_=>⟨_,qv,CN⟩⟩
noncomputable instance:CB zh:=⟨"all",_,Nv,.inl ⟨_,rfl⟩,λh=>⟨_,DC h,LA⟩⟩
noncomputable instance:CB D5:=⟨"int",_,MJ,.inr ⟨_,rfl⟩,λ_=>⟨_,zM,Jh⟩⟩
noncomputable instance:CB mU:=⟨"list",_,DK,.inr ⟨_,rfl⟩,λ_=>⟨_,sD,Gu⟩⟩
noncomputable instance:CB L9.eP:=⟨"sorted",_,ur,.inl ⟨_,rfl⟩,λ_=>⟨_,L9.tm,L9.wc⟩⟩
noncomputable instance:CB rE:=⟨"max",_,Cj,.inl ⟨_,rfl⟩,λh=>⟨_,zx h,Fy⟩⟩
def PM(Γ:Gm)(x y:Str)(i:Int)(e:Q9):bg Q9:=(yD e).bind λc=>match c.2.1,c.2.2.1 with
 |[l],[⟨cL w,v,_⟩]=>if(vN c.1).any (λz=>z.1==x)&&blt Γ x&&w==y&&((vC v).bind cD).any (λz=>dq 2 z (.int i))&&jp l then cL l else lD
 |_,_=>lD
theorem JK{Γ:Gm}{x y:Str}{i:Int}{e l:Q9}(h:PM Γ x y i e=cL l):(∃p p1 p2 p3 j,e=.Call (.Name x p) [l] [⟨cL y,.Constant (.int i) j p1,p2⟩] p3)/\blt Γ x=QM/\jp l=QM:=by
 obtain⟨⟨f,a,G,p⟩,q,b⟩:=RB.mp h;rw[om q];dsimp only at b;split at b
 .split at b
  .rename_i z;cases b;simp only[CL,beq_iff_eq]at z;obtain⟨⟨⟨⟨r,o⟩,rfl⟩,m⟩,g⟩:=z;obtain⟨n,F,E⟩:=bN r;obtain⟨d,w,v⟩:=bN m;obtain⟨c,u,t⟩:=RB.mp w;obtain rfl:=Bw _ _ _ v;obtain⟨j,p1,rfl⟩:=HI u;cases c<;>cases t;rw[pX F,beq_iff_eq.mp E];exact⟨⟨_,_,_,_,_,rfl⟩,o,g⟩
  .cases b
 .cases b
noncomputable instance[u:CA T (ao a)]:CE T (eo (dR (L10.xm i) a)) where
 chk Γ e:=(PM Γ "max" "default" i e).any λl=>u.chk Γ [l]
 ok c h:=by obtain⟨l,q,j⟩:=bN h;obtain⟨⟨_,_,_,_,_,rfl⟩,g,b⟩:=JK q;obtain⟨n,m,_⟩:=oI c g;obtain⟨t,f,d⟩:=u.ok c j;exact⟨_,L10.E9 c.cm n m f (EE b),IR L10.Fr d⟩
noncomputable instance[x:CE T (eo a)]:CO T (oo (oN a)) where
 chk Γ e:=e.any (x.chk Γ)
 ok c h:=by obtain⟨e,q,f⟩:=bN h;subst q;obtain⟨t,d,b⟩:=x.ok c f;exact⟨_,GG d,Dk b⟩
class SOp (f:D->bg Int->bg Int->bg RV) where
 ok:∀{X:Cx},∃r,Ob X r/\OE X.K r f
noncomputable instance:SOp Na:=⟨⟨_,Kg,Hn⟩⟩
noncomputable instance[o:SOp f][x:CE T (eo a)][m:CO T (oo l)][n:CO T (oo u)]:CE T (eo (L5 f a l u)) where
 chk Γ e:=(zB e).any λy=>(PX y.2.1).any λz=>z.2.2.isNone&&x.chk Γ y.1&&m.chk Γ z.1&&n.chk Γ z.2.1
 ok c h:=by obtain⟨⟨e,s,p⟩,q,w⟩:=bN h;rw[lQ q];obtain⟨⟨G,F,E⟩,g,d⟩:=bN w;obtain⟨_,b⟩:=JS g;have b:s=_:=b;subst b;simp only[CL,Ui]at d;obtain⟨⟨⟨rfl,v⟩,j⟩,i⟩:=d;obtain⟨t,k1,k2⟩:=x.ok c v;obtain⟨I,k3,k4⟩:=m.ok c j;obtain⟨H,k5,k6⟩:=n.ok c i;obtain⟨r,k7,k8⟩:=o.ok;exact⟨_,B3 k7 k1 k3 k5,Mu k8 k2 k4 k6⟩
def MB(op:BoolOp)(A B:Jd TE)[x:CE T A][y:CE T B]{f:TE->TE->TE}(p:∀{X:Cx} {a b pos ta tb},PE X a ta->PE X (.BoolOp op [b] pos) tb->PE X (.BoolOp op [a,b] pos) (f ta tb))(k:∀{K E ta tb},A K E ta->B K E tb->J K E (f ta tb)):CE T J where
 chk Γ e:=(Pm e).any λz=>decide (z.1=op)&&match z.2.1 with
  |[l,r]=>x.chk Γ l&&y.chk Γ r
  |_=>QP
 ok c h:=by
  obtain⟨⟨o,l,p⟩,q,g⟩:=bN h;rw[Cc q];simp only[CL,decide_eq_true_eq]at g;obtain⟨rfl,d⟩:=g;split at d
  .rw[CL]at d;obtain⟨ta,n,m⟩:=x.ok c d.1;obtain⟨tb,j,i⟩:=y.ok c d.2;exact⟨_,p n (Kw j),k m i⟩
  .cases d
noncomputable instance[CE T (es a)][CE T (es b)]:CE T (es (u8 a b)):=MB .And (es a) (es b) Jf Fk
def Mf(Q:Jd TT)(A B:Jd TE)[z:CT T Q][x:CE T A][y:CE T B](k:∀{K E t ta tb},Q K E t->A K E ta->B K E tb->J K E (Oo t ta tb)):CE T J where
 chk Γ e:=(PH e).any λw=>z.chk Γ w.1&&x.chk Γ w.2.1&&y.chk Γ w.2.2
 ok c h:=by obtain⟨w,q,a⟩:=bN h;obtain⟨_,rfl⟩:=KW q;simp only[CL]at a;obtain⟨l,d,b⟩:=z.ok c a.1.1;obtain⟨ta,j,i⟩:=x.ok c a.1.2;obtain⟨tb,g,f⟩:=y.ok c a.2;exact⟨_,AG d j g,k b i f⟩
noncomputable instance[CT T (ma q)][CE T (eo a)][CE T (eo b)]:CE T (eo (Ih q a b)):=Mf (ma q) (eo a) (eo b) Oc
noncomputable instance[CT T (lW q)][CE T (es a)][CE T (es b)]:CE T (es (IM q a b)):=Mf (lW q) (es a) (es b) Kz
def Px(o p:X0)(e:Q9):bg (Q9×Q9×Q9):=(Kh e).bind λx=>match x.2.2 with
 |[b,c]=>if x.2.1=[o,p]&& !lastMarks [o,p] [b,c]then cL (x.1,b,c)else lD
 |_=>lD
theorem Jg{o p:X0}{e:Q9}{y:Q9×Q9×Q9}(h:Px o p e=cL y):∃pos,e=.Compare y.1 [o,p] [y.2.1,y.2.2] pos/\lastMarks [o,p] [y.2.1,y.2.2]=QP:=by
 obtain⟨⟨a,u,b⟩,q,d⟩:=RB.mp h;obtain⟨_,rfl⟩:=xB q;dsimp only at d;split at d
 .split at d
  .rename_i z;cases d;rw[CL,decide_eq_true_eq,Td]at z;exact⟨_,by rw[z.1],z.2⟩
  .cases d
 .cases d
section
variable{f g:D->D->bg RV}{a b d:FE}[o:Wl f][p:Wl g][x:CE T (eo a)][y:CE T (eo b)][v:CE T (eo d)]
def MC(x:CE T (eo a))(y:CE T (eo b))(v:CE T (eo d))(o:Wl f)(p:Wl g)(Γ:Gm)(e:Q9):Bool:=(Px o.op p.op e).any λw=>x.chk Γ w.1&&y.chk Γ w.2.1&&v.chk Γ w.2.2
theorem EZ{Γ X E e}(c:Ct T Γ X E)(h:MC x y v o p Γ e=QM):∃t,PE X e t/\PT X e (qV t)/\EO X.K E t (jO f g a b d):=by obtain⟨w,q,i⟩:=bN h;obtain⟨pos,rfl,j⟩:=Jg q;simp only[CL]at i;obtain⟨ta,n,F⟩:=x.ok c i.1.1;obtain⟨tb,m,z⟩:=y.ok c i.1.2;obtain⟨G,l,u⟩:=v.ok c i.2;obtain⟨r,k1,k2⟩:=o.ok (ro c.rm);obtain⟨s,k3,k4⟩:=p.ok (ro c.rm);exact⟨_,Dv k1 k3 n m l j,CV k1 k3 n m l j,DH k2 k4 F z u⟩
end
def P1(A:Jd TE)[x:CE T A](k:∀{K E t},A K E t->Q K E (tB t)):CT T Q where
 chk Γ e:=No e&&x.chk Γ e
 ok c h:=by rw[CL]at h;obtain⟨t,b,a⟩:=x.ok c h.2;exact⟨_,Je b (FP h.1),k a⟩
def HJ(A B:Jd TE){f:D->D->bg RV}[o:Wl f][x:CE T A][y:CE T B](k:∀{K E r ta tb},jR K r f->A K E ta->B K E tb->Q K E (qV (Eh r ta tb))):CT T Q where
 chk Γ e:=(On o.op e).any λp=>x.chk Γ p.1&&y.chk Γ p.2
 ok c h:=by obtain⟨p,q,a⟩:=bN h;rw[CL]at a;obtain⟨ta,m,l⟩:=x.ok c a.1;obtain⟨tb,j,i⟩:=y.ok c a.2;obtain⟨_,rfl,b⟩:=wJ q;obtain⟨r,g,d⟩:=o.ok (ro c.rm);exact⟨_,Ek g m j b,k d l i⟩
noncomputable instance[CE T (eo a)]:CT T (ma (ar a)):=P1 (eo a) NZ
noncomputable instance[CE T (es a)]:CT T (lW (aO a)):=P1 (es a) Ic
noncomputable instance[Wl f][CE T (eo a)][CE T (eo b)]:CT T (ma (ar (au f a b))):=HJ (eo a) (eo b) λg e d=>oO (Iz g e d)
noncomputable instance[Wl f][CE T (es a)][CE T (es b)]:CT T (lW (aO (g7 f a b))):=HJ (es a) (es b) λg e d=>lL (AL g e d)
noncomputable instance[o:Wl f][p:Wl g][x:CE T (eo a)][y:CE T (eo b)][v:CE T (eo d)]:CT T (ma (ar (jO f g a b d))):=⟨MC x y v o p,λc h=>let⟨_,_,h1,h2⟩:=EZ c h;⟨_,h1,oO h2⟩⟩
def Ix(R:Jd TT)[z:CT T R](k:∀{K E t},R K E t->Q K E (Ho t)):CT T Q where
 chk Γ e:=(Pw e).any λy=>(match y.1 with|.Not=>QM|_=>QP)&&z.chk Γ y.2
 ok c h:=by obtain⟨⟨o,e⟩,q,a⟩:=bN h;obtain⟨_,rfl⟩:=Km q;rw[CL]at a;obtain⟨t,d,b⟩:=z.ok c a.2;cases o<;>first|exact⟨_,Jj d,k b⟩|cases a.1
theorem MA{X:Cx}{op:BoolOp}{vs:bb Q9}{pos:Pos}{t:TT}(h:PT X (.BoolOp op vs pos) t):PW X (.BoolOp op vs pos) t:=λ_=>h
def LU(op:BoolOp)(R S:Jd TT)[z:CT T R][v:CT T S]{f:TT->TT->TT}(G:∀{X:Cx} {a pos t},PT X a t->PW X (.BoolOp op [a] pos) t)(p:∀{X:Cx} {a b r pos ta tb},PT X a ta->PW X (.BoolOp op (b::r) pos) tb->PW X (.BoolOp op (a::b::r) pos) (f ta tb))(k:∀{K E ta tb},R K E ta->S K E tb->Q K E (f ta tb)):CT T Q where
 chk Γ e:=(Pm e).any λy=>decide (y.1=op)&&match y.2.1 with
  |[l,m]=>z.chk Γ l&&v.chk Γ m
  |l::m::n::s=>z.chk Γ l&&v.chk Γ (.BoolOp op (m::n::s) y.2.2)
  |_=>QP
 ok c h:=by
  obtain⟨⟨o,l,w⟩,q,F⟩:=bN h;rw[Cc q];simp only[CL,decide_eq_true_eq]at F;obtain⟨rfl,d⟩:=F;split at d
  .rw[CL]at d;obtain⟨ta,u,j⟩:=z.ok c d.1;obtain⟨tb,i,g⟩:=v.ok c d.2;exact⟨_,(p u (G i)).pt,k j g⟩
  .rw[CL]at d;obtain⟨ta,u,j⟩:=z.ok c d.1;obtain⟨tb,i,g⟩:=v.ok c d.2;exact⟨_,(p u (MA i)).pt,k j g⟩
  .cases d
noncomputable instance[CT T (ma q)]:CT T (ma (uV q)):=Ix (ma q) E3
noncomputable instance[CT T (lW q)]:CT T (lW (L10.mC q)):=Ix (lW q) G9
noncomputable instance[CT T (ma q)][CT T (ma r)]:CT T (ma (gI q r)):=LU .And (ma q) (ma r) xi Bz EF
noncomputable instance[CT T (lW q)][CT T (lW r)]:CT T (lW (gq q r)):=LU .And (lW q) (lW r) xi Bz FQ
noncomputable instance[CT T (lW q)][CT T (lW r)]:CT T (lW (uU q r)):=LU .Or (lW q) (lW r) KG Mq Lg
noncomputable instance[CT T (ma q)]:CT T (lW (aH q)):=u6 (A:=ma q) B9
end
end CC
set_option warn.classDefReducibility false
namespace CC
open PySem L2 L3 L10
variable{T:bb Fd}{A B C J:Jd TE}{U Z:Jd TA}
def Me(x:Str)(e:Q9):bg (Q9×bb Q9×Pos×Pos):=(yD e).bind λy=>(Ow y.1).bind λz=>if z.2.1==x&&MF z.1&&z.2.2.endLine==y.2.2.2.line&&y.2.1.all jp&&decide (y.2.1.length<20)&&y.2.2.1.isEmpty then cL (z.1,y.2.1,z.2.2,y.2.2.2)else lD
theorem oC{x:Str}{e:Q9}{y:Q9×bb Q9×Pos×Pos}(h:Me x e=cL y):e=.Call (.Attribute y.1 x y.2.2.1) y.2.1 [] y.2.2.2/\MF y.1=QM/\(y.2.2.1.endLine==y.2.2.2.line)=QM/\y.2.1.all jp=QM/\y.2.1.length<20:=by
 obtain⟨⟨f,l,u,p⟩,q,v⟩:=RB.mp h;obtain⟨⟨o,n,r⟩,t,a⟩:=RB.mp v;rw[om q,show f=_ from vM t];split at a
 .rename_i z;cases a;simp only[CL,decide_eq_true_eq,RF]at z;obtain⟨⟨⟨⟨⟨m,j⟩,i⟩,g⟩,d⟩,b⟩:=z;refine⟨?_,j,i,g,d⟩;rw[show n=x from beq_iff_eq.mp m,show u=[]from b]
 .cases a
class MS (f:Str->bb D->bg RV) where
 x:Str
 ok:∀{X:Cx},∃id r,Slot "str" x id/\typeOf (.builtin id)=pure (.type "method_descriptor")/\Nr X id r/\Qr X.K r f
def Od(m:Str){id:String}{r:V->bb V->Hp->VK->Prop}(s:Slot "list" m id)(ty:typeOf (.builtin id)=pure (.type "method_descriptor"))(mt:∀{X:Cx},Nr X id r)(g:Gm->Q9->Bool)(G:Jd TE)(A:Jd TE)[x:CE T A](i:∀{Γ X E e},Ct T Γ X E->g Γ e=QM->∃t,PE X e t/\G X.K E t)(k:∀{K E to t},G K E to->A K E t->J K E (M8 K "list" r to (iC t kx))):CE T J where
 chk Γ e:=(Me m e).any λy=>g Γ y.1&&match y.2.1 with
  |[e]=>x.chk Γ e
  |_=>QP
 ok c h:=by
  obtain⟨⟨b,l,p,q⟩,z,f⟩:=bN h;obtain⟨rfl,H,w,a,I⟩:=oC z;rw[CL]at f;obtain⟨v,d⟩:=f;obtain⟨to,u,o⟩:=i c v
  match l,a,d with
  |[e],a,d=>have a:[e].all jp=QM:=a;obtain⟨t,n,j⟩:=x.ok c d;refine⟨M8 _ "list" r to (iC t kx),?_,k o j⟩;exact NH PySem.F.plainAttrs_list s ty mt u (kj n pU (iu a)) (gY H) (tH a (by show 1<20;decide)) w (iu a) rfl
def vJ(i:Nat):Jd TE:=λ_ _ t=>t=u7 i
noncomputable instance[CE T (eo a)]:CE T (eo (ky i a)):=Od "append" Wb Wc mM (Fa i) (vJ i) (eo a) (λc h=>⟨_,wq c h,rfl⟩) λh k=>by cases h;exact Ja k
noncomputable instance[x:CE T (es o)][CE T (es a)]:CE T (es (oK o a)):=Od "append" Wb Wc mM x.chk (es o) (es a) x.ok GR
def J3(Γ:Gm)(C f:Str):Bool:=(Γ.M.cl.lookup C).any λL=>L.contains f
theorem xX{Γ:Gm}{X:Cx}{E:XK}{C f:Str}(c:Ct T Γ X E)(h:J3 Γ C f=QM):∃L,lX X.K C L/\f∈L:=by obtain⟨L,q,a⟩:=bN h;exact⟨L,c.md.cl _ _ q,U6.mp a⟩
noncomputable instance{C f:Str}[x:CE T (es a)]:CE T (es (bE C f a)) where
 chk Γ e:=(Ow e).any λy=>y.2.1==f&&J3 Γ C f&&MF y.1&&x.chk Γ y.1
 ok c h:=by obtain⟨⟨o,n,p⟩,q,b⟩:=bN h;rw[vM q];simp only[CL,beq_iff_eq]at b;obtain⟨⟨⟨rfl,r⟩,m⟩,l⟩:=b;obtain⟨L,g,d⟩:=xX c r;obtain⟨t,j,i⟩:=x.ok c l;exact⟨_,Ji j (gY m),Fq g d i⟩
class FM (T:bb Fd) (rz:Bool) (C m:Str) (F:g9) (n:Nat) where
 i:Nat
 lv:Nat
 ps:bb Str
 h:T[i]?=cL (yL rz lv C m ps n F)
section
variable{C m:Str}{F:g9}{n:Nat}
def EK(T:bb Fd)(rz hd:Bool)(C m:Str)(F:g9)(n:Nat)[o:FM T rz C m F n](x:Gm->Q9->Bool)(u:Gm->bb Q9->Bool)(Γ:Gm)(e:Q9):Bool:=(!hd||Γ.rz&&rz)&&decide (o.i<Γ.top)&&decide (o.lv<=Γ.lv)&&(Γ.M.cl.lookup C).isSome&&(Me m e).any λy=>x Γ y.1&&u Γ y.2.1
theorem xS{rz hd:Bool}[o:FM T rz C m F n]{x:Gm->Q9->Bool}{u:Gm->bb Q9->Bool}{Γ:Gm}{X:Cx}{E:XK}{e:Q9}(c:Ct T Γ X E)(h:EK T rz hd C m F n x u Γ e=QM):∃(b:Q9) (l:bb Q9) (p q:Pos) (L:bb Str) (pl:Sem Bool),e=.Call (.Attribute b m p) l [] q/\x Γ b=QM/\u Γ l=QM/\lX X.K C L/\mF X.prog X.w X.K X.mg X.base (if rz then L4.Cr X.prog X.w else l9) o.lv C m o.ps (se X.K n F)/\SY o.lv X.A/\eY (if rz then L4.Cr X.prog X.w else l9) X (if hd then E else E0)/\l.all jp=QM/\eval (.Call (.Attribute b m p) l [] q) X.env=(do
   let ov<-eval b X.env
   standAt p.atName
   let(f,first)<-holding [ov] (getMethod ov m pl)
   callWith q f first (backTo q (Rg l X.env)) (backToKw q (keywordEach [] X.env))):=by
 unfold EK at h;simp only[CL,decide_eq_true_eq]at h;obtain⟨⟨⟨⟨a,v⟩,t⟩,r⟩,j⟩:=h;obtain⟨⟨b,l,p,q⟩,z,d⟩:=bN j;obtain⟨rfl,H,G,g,y⟩:=oC z;rw[CL]at d;obtain⟨L,i⟩:=SN.mp r;obtain⟨pl,ev⟩:=NA (m:=m) (env:=X.env) H g y G;refine⟨b,l,p,q,L,pl,rfl,d.1,d.2,c.md.cl _ _ i,c.fs _ _ v o.h,c.rm.mono t,?_,g,ev⟩;cases hd with
 |true=>have a:=(CL _ _).mp a;rw[a.2];exact Im c a.1
 |false=>cases rz with
  |true=>exact J8
  |false=>exact C3
def OP(rz hd:Bool)(A:Jd TE)(U:Jd TA)[o:FM T rz C m F n][x:CE T A][u:CA T U](k:∀{K E L to t},lX K C L->A K E to->U K E t->J K E (oG K C m (se K n F) (if hd then E else E0) to t)):CE T J where
 chk:=EK T rz hd C m F n x.chk λΓ l=> !l.isEmpty&&u.chk Γ l
 ok c h:=by
  obtain⟨b,l,p,q,L,pl,rfl,v,a,r,j,i,g,d,f⟩:=xS c h;rw[CL]at a;obtain⟨to,k1,k2⟩:=x.ok c v;obtain⟨t,k3,k4⟩:=u.ok c a.2;cases l with
  |nil=>cases a.1
  |cons e l=>exact⟨_,MV j g i k1 k3 (QV _) (iu d) (lz d) f,k r k2 k4⟩
def MY(rz hd:Bool)(A:Jd TE)[o:FM T rz C m F n][x:CE T A](k:∀{K E L to},lX K C L->A K E to->J K E (oG K C m (se K n F) (if hd then E else E0) to kx)):CE T J where
 chk:=EK T rz hd C m F n x.chk λ_ l=>l.isEmpty
 ok c h:=by obtain⟨b,l,p,q,L,pl,rfl,j,a,i,g,f,e,r,d⟩:=xS c h;obtain⟨to,k1,k2⟩:=x.ok c j;rw[RF]at a;subst a;exact⟨_,Lh g e f k1 (QV _) d,k i k2⟩
noncomputable instance[FM T QP C m F n][CE T (es o)][CE T (es a)][CA T (as b)]:CE T (es (aP C m F n o (aj a b))):=OP (C:=C) (m:=m) (F:=F) (n:=n) QP QP (es o) (as (aj a b)) xF
noncomputable instance[FM T QP C m F n][CE T (es o)]:CE T (es (aP C m F n o aF)):=MY (C:=C) (m:=m) (F:=F) (n:=n) QP QP (es o) λh k=>xF h k wX
class FK (T:bb Fd) (C:Str) (F:g9) (n:Nat) where
 i:Nat
 lv:Nat
 ps:bb Str
 h:T[i]?=cL (PJ lv C ps n F)
noncomputable instance[o:FK T C F n][x:CE T (es a)][u:CA T (as b)]:CE T (es (ph C F n (aj a b))) where
 chk Γ e:=(Γ.M.cl.lookup C).isSome&&(kO Γ o.i (o.lv+1) C e).any λy=>CK.chk T PA (as (aj a b)) Γ (y.1::y.2.1)
 ok c h:=by rw[CL]at h;obtain⟨L,j⟩:=SN.mp h.1;obtain⟨y,q,p⟩:=bN h.2;obtain⟨rfl,g,hi,f,d⟩:=wD q;obtain⟨w,v,_⟩:=sK c g;obtain⟨t,r,l⟩:=CK.ok c p;exact⟨_,MO (c.fs _ _ hi o.h) C3 c.rm r f w v (iu d) (lz d),Ht (c.md.cl _ _ j) l⟩
end
end CC
set_option warn.classDefReducibility false
namespace CC
open PySem L2 L3 L10
variable{T:bb Fd}{A B C J:Jd TE}{U Z:Jd TA}{Q R:Jd TT}
theorem OA{Γ:Gm}{X:Cx}{E:XK}(c:Ct T Γ X E):X.A.units+1<cLine:=Ab c.rm
noncomputable instance[x:CE T (es d)][y:CE T (es k)]:CE T (es (aX d k)) where
 chk Γ e:=(zB e).any λp=>jp p.2.1&&x.chk Γ p.1&&y.chk Γ p.2.1
 ok c h:=by obtain⟨p,q,a⟩:=bN h;simp only[CL]at a;obtain⟨ta,i,g⟩:=x.ok c a.1.2;obtain⟨tb,f,b⟩:=y.ok c a.2;rw[lQ q];exact⟨_,GD (OA c) i f (wI a.1.1),Br g b⟩
def Bl(x y:Gm->Q9->Bool)(Γ:Gm)(e:Q9):Bool:=(On .In e).any λp=>x Γ p.1&&y Γ p.2
theorem uE[x:CE T (es k)][y:CE T (es d)]{Γ X E e}(c:Ct T Γ X E)(h:Bl x.chk y.chk Γ e=QM):∃t,PE X e t/\PT X e (tB t)/\dr X.K E t (kT QP k d):=by obtain⟨p,q,a⟩:=bN h;rw[CL]at a;obtain⟨_,rfl,b⟩:=wJ q;obtain⟨ta,g,j⟩:=x.ok c a.1;obtain⟨tb,f,i⟩:=y.ok c a.2;exact⟨_,Kb (Ag (OA c) g f) b,LM (Ag (OA c) g f) b,Gv j i⟩
noncomputable instance[x:CE T (es k)][y:CE T (es d)]:CE T (es (kT QP k d)):=⟨Bl x.chk y.chk,λc h=>let⟨_,h1,_,h2⟩:=uE c h;⟨_,h1,h2⟩⟩
noncomputable instance[x:CE T (es k)][y:CE T (es d)]:CT T (lW (aO (kT QP k d))):=⟨Bl x.chk y.chk,λc h=>let⟨_,_,h1,h2⟩:=uE c h;⟨_,h1,Ic h2⟩⟩
noncomputable instance[x:CE T (es d)][y:CE T (es k)]:CE T (es (nZ d k)) where
 chk Γ e:=(Me "pop" e).any λz=>x.chk Γ z.1&&match z.2.1 with
  |[e]=>y.chk Γ e
  |_=>QP
 ok c h:=by
  obtain⟨⟨b,l,p,q⟩,z,g⟩:=bN h;obtain⟨rfl,m,j,a,u⟩:=oC z;rw[CL]at g;obtain⟨i,f⟩:=g;obtain⟨ta,t,r⟩:=x.ok c i
  match l,a,f with
  |[e],a,f=>have a:[e].all jp=QM:=a;obtain⟨tb,o,n⟩:=y.ok c f;refine⟨_,B5 t o ⟨gY m,tH a (by show 1<20;decide),j,?_⟩,Dl r n⟩;rw[iu a];rfl
noncomputable instance[x:CE T (es d)]:CE T (es (kF d)) where
 chk Γ e:=(HR Γ "list" e).any λy=>y.2.1.isEmpty&&(Me "values" y.1).any λz=>z.2.1.isEmpty&&x.chk Γ z.1
 ok c h:=by obtain⟨⟨e,l,E,w⟩,q,f⟩:=bN h;obtain⟨rfl,g,i⟩:=mw q;simp only[CL,RF]at f;obtain⟨rfl,o⟩:=f;obtain⟨⟨b,l,v,u⟩,z,a⟩:=bN o;obtain⟨rfl,r,p,G,F⟩:=oC z;simp only[CL,RF]at a;obtain⟨rfl,n⟩:=a;obtain⟨t,m,j⟩:=x.ok c n;exact⟨_,sr c g DK (.inr ⟨_,rfl⟩) (L10.v8 c.cm) i (kj (Bs Ur Ul Wd L10.qY m (gY r) p) pU (jd rfl)),BO j⟩
def Np(x:Str){v:QN}(b:Ry x=cL v)(y:(∃id,v=.builtin id)\/∃ty,v=.type ty)(A:Jd TE)[z:CE T A]{r:Bn->bb V->Hp->VK->Prop}(m:∀{X:Cx},X.calm=QM->S3 X v (r X.K))(k:∀{K E t},A K E t->J K E (zY (r K) (iC t kx))):CE T J where
 chk Γ e:=(HR Γ x e).any λy=>y.2.1.isEmpty&&z.chk Γ y.1
 ok c h:=by obtain⟨⟨e,l,o,n⟩,q,d⟩:=bN h;obtain⟨rfl,g,a⟩:=mw q;simp only[CL,RF]at d;obtain⟨rfl,j⟩:=d;obtain⟨t,i,f⟩:=z.ok c j;exact⟨_,sr c g b y (m c.cm) a (kj i pU (iu a)),k f⟩
noncomputable instance[CE T (es d)]:CE T (es (kG d)):=Np "sorted" ur (.inl ⟨_,rfl⟩) (es d) (r:=λ_=>wQ) L10.wa Aw
noncomputable instance[CE T (es d)]:CE T (es (ri d)):=Np "dict" L10.Jq (.inr ⟨_,rfl⟩) (es d) (r:=wE) L10.wK BR
def FL(i:Nat)(Γ:Gm)(e:Q9):Bool:=(vN e).any λx=>Γ.N[i]? ==cL x.1&&(Γ.sc.lookup x.1==cL .local||(Γ.sc.lookup x.1==cL .cell&&Γ.fc.contains x.1))
theorem sB{Γ:Gm}{X:Cx}{E:XK}{i:Nat}{e:Q9}(c:Ct T Γ X E)(h:FL i Γ e=QM):∃x p,e=.Name x p/\X.N[i]?=cL x/\L2.L6 X.env.scope x/\(X.fn x=QM\/Tx x X.env.scope.names=cL Q8.local):=by
 obtain⟨⟨x,p⟩,q,a⟩:=bN h;simp only[CL,Sd]at a;refine⟨x,p,pX q,by rw[c.n];exact beq_iff_eq.mp a.1,?_⟩;unfold L2.L6;rw[c.sc];rcases a.2 with z|⟨z,w⟩
 .exact⟨.inl (eX z),.inr (eX z)⟩
 .exact⟨.inr (eX z),.inl (c.fc _ (U6.mp w))⟩
def NN{G:Jd TG}(i:Nat)(k:∀{K E},G K E (mW i)):CG T G where
 chk:=FL i
 ok c h:=by obtain⟨x,p,rfl,d,b,a⟩:=sB c h;exact⟨_,⟨F7 c.nd d b a,λ_=>rfl⟩,k⟩
noncomputable instance:CG T (go (gN i)):=NN i sL
noncomputable instance:CG T (Ba (eI i)):=NN i pA
def MP{G:Jd vQ}(k:∀{K E},G K E G3):CH T G:=⟨λ_ l=>l.isEmpty,λ_ h=>by rw[RF.mp h];exact⟨_,⟨Fs,rfl,rfl⟩,k⟩⟩
noncomputable instance:CH T (gs Nw):=MP Ko
noncomputable instance:CH T (Lb qk):=MP Fo
def NB{I:Jd vQ}(G:Jd TG)(H:Jd vQ)[x:CG T G][y:CH T H](k:∀{K E t u},G K E t->H K E u->I K E (yx t u)):CH T I where
 chk Γ l:=match l with
  |e::r=>x.chk Γ e&&y.chk Γ r
  |[]=>QP
 ok c h:=by
  split at h
  .rw[CL]at h;obtain⟨ta,⟨j,a⟩,i⟩:=x.ok c h.1;obtain⟨tb,⟨g,d,b⟩,f⟩:=y.ok c h.2;exact⟨_,⟨A8 j g (by rw[a];rfl),by rw[a,QZ,QZ,d],by rw[a,List.findIdx?_cons,b];rfl⟩,k i f⟩
  .cases h
noncomputable instance[CG T (go g)][CH T (gs r)]:CH T (gs (JO g r)):=NB (go g) (gs r) GH
noncomputable instance[CG T (Ba g)][CH T (Lb r)]:CH T (Lb (iI g r)):=NB (Ba g) (Lb r) Cn
def N2{I:Jd TG}(n:Nat)(H:Jd vQ)[y:CH T H](k:∀{K E t},H K E t->I K E (Ej K n t)):CG T I where
 chk Γ e:=(Hq e).any λl=>decide (l.length=n)&&y.chk Γ l
 ok c h:=by obtain⟨l,q,a⟩:=bN h;obtain⟨_,_,rfl⟩:=yo q;simp only[CL,decide_eq_true_eq]at a;obtain⟨rfl,b⟩:=a;obtain⟨t,⟨i,f,d⟩,g⟩:=y.ok c b;exact⟨_,⟨KQ c.cm i f d,λ_=>rfl⟩,k g⟩
noncomputable instance[CH T (gs r)]:CG T (go (gT n r)):=N2 n (gs r) Ls
noncomputable instance[CH T (Lb r)]:CG T (Ba (zW n r)):=N2 n (Lb r) G7
def N5(A:Jd TE){I:Jd TI}[x:CE T A]{f:Bn->TE->TI}(p:∀{X:Cx} {tg e t},PE X e t->PI X tg e (f X.K t))(k:∀{K E t},A K E t->I K E (f K t)):CI T I where
 chk Γ p:=jp p.2&&x.chk Γ p.2
 ok c h:=by rw[CL]at h;obtain⟨t,b,a⟩:=x.ok c h.2;exact⟨_,⟨p b,h.1⟩,k a⟩
noncomputable instance[CE T (eo a)]:CI T (io (gn a)):=N5 (eo a) we LN
noncomputable instance[CE T (es a)]:CI T (Mc (iR a)):=N5 (es a) we E4
noncomputable instance[CI T (io f)]:CI T (IY f):=u6 (A:=io f) λh=>L3.IO.s h
noncomputable instance:CI T (IY (qD i)):=⟨λΓ p=>jp p.2&&Fa i Γ p.2,λc h=>by rw[CL]at h;exact⟨_,⟨we (wq c h.2),h.1⟩,Cz⟩⟩
noncomputable instance[CI T (io f)]:CI T (Mc (lh f)):=u6 (A:=io f) Cg
noncomputable instance[u:CA T (ao a)]:CI T (io (kz gl a)) where
 chk Γ p:=(HR Γ "range" p.2).any λy=>y.2.1.isEmpty&&u.chk Γ [y.1]
 ok {Γ X E p} c h:=by obtain⟨⟨e,l,w,v⟩,q,b⟩:=bN h;obtain⟨z,g,f⟩:=mw q;simp only[CL,RF]at b;obtain⟨rfl,m⟩:=b;obtain⟨o,n,_⟩:=oI c g;obtain⟨t,j,i⟩:=u.ok c m;obtain⟨r,d⟩:=p;have z:d=_:=z;subst z;exact⟨_,⟨yX o n j (iu f),rfl⟩,Gw i⟩
noncomputable instance[u:CA T (ao a)]:CI T (io (zr a)) where
 chk Γ p:=xE p.1&&(HR Γ "zip" p.2).any λy=>match y.2.1 with
  |[r]=>u.chk Γ [y.1,r]
  |_=>QP
 ok {Γ X E p} c h:=by
  rw[CL]at h;obtain⟨⟨e,l,F,w⟩,q,d⟩:=bN h.2;obtain⟨z,g,b⟩:=mw q;obtain⟨v,o,_⟩:=oI c g;obtain⟨f,i⟩:=p;have z:i=_:=z;subst z;have n:xE f=QM:=h.1
  match l,b,d with
  |[r],b,d=>have b:[e,r].all jp=QM:=b;obtain⟨t,m,j⟩:=u.ok c d;obtain⟨_,_,_,rfl⟩:=uQ n;exact⟨_,⟨Kj v o m (iu b) (lz b),rfl⟩,LK j⟩
end CC
set_option warn.classDefReducibility false
namespace CC
open PySem L2 L3 L10
variable{T:bb Fd}{A B C J:Jd TE}{U Z:Jd TA}{Q R:Jd TT}{G:Jd TG}{I:Jd TI}
noncomputable instance:CQ T (ma ef):=⟨λ_ l=>l.isEmpty,λ_ h=>by rw[RF.mp h];exact⟨_,tZ,BM⟩⟩
noncomputable instance:CQ T (lW jU):=⟨λ_ l=>l.isEmpty,λ_ h=>by rw[RF.mp h];exact⟨_,tZ,A5⟩⟩
def PZ(Q:Jd TT)[z:CT T Q]:CQ T Q where
 chk Γ l:=match l with
  |[e]=>z.chk Γ e
  |_=>QP
 ok c h:=by
  split at h
  .obtain⟨t,b,a⟩:=z.ok c h;exact⟨_,BQ b,a⟩
  .cases h
noncomputable instance[CT T (ma q)]:CQ T (ma q):=PZ (ma q)
noncomputable instance[CT T (lW q)]:CQ T (lW q):=PZ (lW q)
def t0{τ:Type}(P:Jd (St->Hp->τ->Prop))(K:Bn)(E:XK):St->Hp->τ->Prop:=λa H Q=>∀t,P K E t->t a H Q
def g0(P:Jd TG)(K:Bn)(E:XK):TG:=λv a H Q=>∀t,P K E t->t v a H Q
class Cl {τ:Type} (P:Jd (St->Hp->τ->Prop)):Prop where
 cl:∀{K E},P K E (t0 P K E)
class ClG (P:Jd TG):Prop where
 cl:∀{K E},P K E (g0 P K E)
noncomputable instance:Cl (eo g):=⟨λB b O a H ρ Q R w _ h=>h B b O a H ρ Q R w⟩
noncomputable instance:Cl (es g):=⟨λB a H α ω ρ Q s l w _ h=>h B a H α ω ρ Q s l w⟩
noncomputable instance:Cl (ma g):=⟨λB b O a H ρ Q R w _ h=>h B b O a H ρ Q R w⟩
noncomputable instance:Cl (lW g):=⟨λB a H α ω ρ Q s l w _ h=>h B a H α ω ρ Q s l w⟩
noncomputable instance:ClG (go g):=⟨λB b O a H ρ v pv Q R p w _ h=>h B b O a H ρ v pv Q R p w⟩
noncomputable instance:ClG (Ba g):=⟨λB a H α ω ρ v x Q s l p w _ h=>h B a H α ω ρ v x Q s l p w⟩
def Ov(e:Q9):bb Str:=((vN e).map (·.1)).toList++((Hq e).getD []).filterMap λe=>(vN e).map (·.1)
def JE(l:bb (Str×Q8)):bb Str:=(l.filter λy=>y.2==Q8.cell&&l.all λp=> !(p.1==y.1)|| !(p.2==Q8.free)).map (·.1)
def OJ(Γ:Gm)(l:bb (Str×Q8)):bb (Str×Q8):=l.map λp=>if(p.2==Q8.free&&(ScopeKind.function==ScopeKind.function)&&Γ.sc.lookup p.1==cL .cell)then(p.1,.cell)else p
def Gm.inn(Γ:Gm)(own:bb Str)(fv:bb (Str×Nat))(sc:bb (Str×Q8)):Gm:={Γ with N:=own++fv.map (·.1),sc:=OJ Γ sc,rz:=QP,fa:=QP,fc:=JE sc}
def GA(Γ:Gm)(a:bb Nat):bb (Str×Nat):=a.filterMap λj=>(Γ.N[j]?).map λx=>(x,j)
def O8(Γ:Gm)(sc:SR)(fv:bb (Str×Nat)):Bool:=fv.all λp=>Γ.N[p.2]? ==cL p.1&&sc.names.lookup p.1==cL .free&&(Γ.sc.lookup p.1==cL .cell||Γ.sc.lookup p.1==cL .free)
theorem IQ{Γ:Gm}{X:Cx}{E:XK}{sc:SR}(c:Ct T Γ X E):∀{fv:bb (Str×Nat)},O8 Γ sc fv=QM->Wz X sc fv
 |[],_=>trivial
 |p::r,h=>by unfold O8 at h;simp only[SE,CL,Sd]at h;obtain⟨⟨⟨e,d⟩,b⟩,a⟩:=h;refine⟨⟨by rw[c.n];exact beq_iff_eq.mp e,eX d,?_⟩,IQ c a⟩;rw[c.sc];exact b.imp eX eX
theorem yB{env:Env}{y:Str}:∀{l:bb (Str×Q8)} {acc:bb (Str×QT)},(∀p∈l,p.1=y->(p.2==Q8.free)=QP)->acc.lookup y=lD->(gD env l acc).lookup y=lD
 |[],_,_,h=>h
 |(n,k)::r,acc,h,ha=>by
  have a:=λacc=>yB (env:=env) (y:=y) (l:=r) (acc:=acc) λp b=>h p (Q0 _ b);unfold gD;split
  .rename_i q
   have ne:n≠y:=λe=>by rw[h (n,k) Q2 e]at q;cases q
   split
   .exact a _ (by rw[Rx,show(y==n)=QP from beq_eq_false_iff_ne.mpr (dt ne)];exact ha)
   .exact a _ ha
  .exact a _ ha
theorem BB{env:Env}{l:bb (Str×Q8)}{y:Str}(h:y∈JE l):((gD env l []).lookup y).isNone=QM:=by
 obtain⟨p,d,rfl⟩:=RP.mp h;obtain⟨_,a⟩:=RT.mp d;rw[CL]at a;rw[yB (λq b e=>?_) rfl]
 .rfl
 .have:=Sg.mp a.2 q b;rw[e,d7]at this;revert this;cases q.2==Q8.free<;>intro h<;>first|rfl|cases h
structure Lc(X:Cx)(E:XK)(n:Nat)(fj:bb Nat)(I:Jd TI)(G:Jd TG)(Q:Jd TT)(A:Jd TE)(sc:SR)(elt:Q9)(cp:T8) where
 own:bb Str
 fv:bb (Str×Nat)
 wi:TI
 e:cp.is_async=0
 ln:own.length=n
 fj:fv.map (·.2)=fj
 pi:PI X cp.target cp.iter wi
 i:I X.K E wi
 pg:∀s H C fp,PG (cI X s H sc C (et own fv) fp) cp.target (g0 G X.K E0)
 g:G X.K E0 (g0 G X.K E0)
 pq:∀s H C fp,vW (cI X s H sc C (et own fv) fp) cp.ifs (t0 Q X.K E0)
 q:Q X.K E0 (t0 Q X.K E0)
 pe:∀s H C fp,PE (cI X s H sc C (et own fv) fp) elt (t0 A X.K E0)
 a:A X.K E0 (t0 A X.K E0)
 fvk:Wz X sc fv
 fr:(sc.names.all λy=> !(y.2==Q8.free)||X.env.scope.names.lookup y.1==cL .cell||X.env.scope.names.lookup y.1==cL .free)=QM
 kd:sc.kind=.function
 nd:(sc.names.map (·.1)).Nodup
 nm:∀y∈sc.names,y.2=.local->sc.names.lookup y.1=cL .local
 fold:∀z,foldedSetIterable cp.iter X.env z=pure z
def Dx(n:Nat)(fj:bb Nat)(i:CI T I)(g:CG T G)(w:CQ T Q)(x:CE T A)(Γ:Gm)(elt:Q9)(cp:T8)(sc:SR):Bool:=
 let own:=Ov cp.target
 let fv:=GA Γ fj
 let Γ':=Γ.inn own fv sc.names
 decide (own.length=n)&&decide (fv.map (·.2)=fj)&&decide (cp.is_async=0)&&O8 Γ sc fv&&(sc.names.all λy=> !(y.2==Q8.free)||Γ.sc.lookup y.1==cL .cell||Γ.sc.lookup y.1==cL .free)&&decide (sc.kind=.function)&&decide ((sc.names.map (·.1)).Nodup)&&(sc.names.all λy=> !(y.2==Q8.local)||sc.names.lookup y.1==cL .local)&&decide ((own++fv.map (·.1)).Nodup)&&i.chk Γ (cp.target,cp.iter)&&g.chk Γ' cp.target&&w.chk Γ' cp.ifs&&x.chk Γ' elt
theorem rZ[Cl A][Cl Q][ClG G]{i:CI T I}{g:CG T G}{w:CQ T Q}{x:CE T A}{n:Nat}{j:bb Nat}{Γ:Gm}{X:Cx}{E:XK}{l:Q9}{m:T8}{sc:SR}(c:Ct T Γ X E)(h:Dx n j i g w x Γ l m sc=QM):Nonempty (Lc X E n j I G Q A sc l m):=by
 unfold Dx at h;simp only[CL,decide_eq_true_eq]at h;obtain⟨⟨⟨⟨⟨⟨⟨⟨⟨⟨⟨⟨h1,h2⟩,Y⟩,k1⟩,k2⟩,k3⟩,k4⟩,k5⟩,k6⟩,S⟩,P⟩,O⟩,N⟩:=h;obtain⟨F,⟨M,K⟩,L⟩:=i.ok c S;have p:∀s H C b,Ct T (Γ.inn (Ov m.target) (GA Γ j) sc.names) (cI X s H sc C (et (Ov m.target) (GA Γ j)) b) E0:=λs H C b=>
  ⟨rfl,k6,by show(relabel sc X.env).names=OJ Γ sc.names;unfold relabel OJ Env.kindOf;rw[c.kd,c.sc],k3,c.cm,c.rm,λz=>(VT z),λz=>(VT z),λy o=>BB o,c.md,c.fs⟩
 refine⟨⟨Ov m.target,GA Γ j,F,Y,h1,h2,M,L,λs H C b=>?_,ClG.cl,λs H C b=>?_,Cl.cl,λs H C b=>?_,Cl.cl,IQ c k1,?_,k3,k4,λy o e=>?_,yy K⟩⟩
 .obtain⟨t,⟨f,_⟩,d⟩:=g.ok (p s H C b) P;exact λa s q H v u Q I r z=>f _ _ _ _ _ _ _ I r (z _ d)
 .obtain⟨t,f,d⟩:=w.ok (p s H C b) O;exact λa s q H Q I z=>f _ _ _ _ _ I (z _ d)
 .obtain⟨t,f,d⟩:=x.ok (p s H C b) N;exact λa s q H Q I z=>f _ _ _ _ _ I (z _ d)
 .rw[c.sc];exact k2
 .have:=Sg.mp k5 y o;rw[e]at this;exact eX this
def Fu(e:Q9):bg (Q9×T8×SR×Pos):=(Pu e).bind λy=>match y.2.1 with
 |[cp]=>cL (y.1,cp,y.2.2)
 |_=>lD
theorem sR{e:Q9}{y:Q9×T8×SR×Pos}(h:Fu e=cL y):e=.ListComp y.1 [y.2.1] y.2.2.1 y.2.2.2:=by
 obtain⟨⟨a,l,s,p⟩,q,b⟩:=RB.mp h;rw[Jn q]
 match l,b with
 |[cp],b=>cases b;rfl
def Mh(I:Jd TI)(G:Jd TG)(Q:Jd TT)(A:Jd TE)[Cl A][Cl Q][ClG G][i:CI T I][g:CG T G][w:CQ T Q][x:CE T A](n:Nat)(d:bb Nat)(k:∀{K E own fv wi g tc te},own.length=n->fv.map (·.2)=d->I K E wi->G K E0 g->Q K E0 tc->A K E0 te->J K E (oB own fv wi g tc te)):CE T J where
 chk Γ e:=(Fu e).any λy=>Dx n d i g w x Γ y.1 y.2.1 y.2.2.1
 ok c h:=by obtain⟨⟨m,o,t,p⟩,q,j⟩:=bN h;rw[sR q];obtain⟨l⟩:=rZ c j;obtain⟨r,b,f,as⟩:=o;obtain rfl:as=0:=l.e;exact⟨_,sk l.own l.fv c.cm l.pi l.pg l.pq l.pe l.fvk l.fr l.kd l.nd l.nm l.fold,k l.ln l.fj l.i l.g l.q l.a⟩
noncomputable instance[CI T (IY f)][CG T (go g)][CQ T (ma q)][CE T (eo a)]:CE T (eo (cG n l f g q a)):=Mh (IY f) (go g) (ma q) (eo a) n l oX
noncomputable instance[CI T (Mc f)][CG T (Ba g)][CQ T (lW q)][CE T (es a)]:CE T (es (kB n l f g q a)):=Mh (Mc f) (Ba g) (lW q) (es a) n l z9
end CC
set_option warn.classDefReducibility false
namespace CC
open PySem L2 L3 L10
variable{T:bb Fd}{A B C J:Jd TE}{U Z:Jd TA}{Q R:Jd TT}{G:Jd TG}{I:Jd TI}{S Y X:Jd TS}
def N8:Tb->bg (Q9×bb Tb×bb Tb)
 |.If c a b _=>cL (c,a,b)
 |_=>lD
def Al:Tb->bg (bg Q9)
 |.Return e _=>cL e
 |_=>lD
def Ij:Tb->bg Q9
 |.Expr e _=>cL e
 |_=>lD
def pQ:Tb->bg (Q9×Q9)
 |.Assign [t] e _=>cL (t,e)
 |_=>lD
def Dr:Tb->bg (Q9×Q9×bb Tb)
 |.For t i b [] _=>cL (t,i,b)
 |_=>lD
section
variable{s:Tb}
theorem Hr(h:N8 s=cL x):∃p,s=.If x.1 x.2.1 x.2.2 p:=by cases s<;>cases h<;>exact⟨_,rfl⟩
theorem uK(h:Al s=cL x):∃p,s=.Return x p:=by cases s<;>cases h<;>exact⟨_,rfl⟩
theorem Aa(h:Ij s=cL x):∃p,s=.Expr x p:=by cases s<;>cases h<;>exact⟨_,rfl⟩
theorem jW(h:pQ s=cL x):∃p,s=.Assign [x.1] x.2 p:=by unfold pQ at h;split at h<;>cases h;exact⟨_,rfl⟩
theorem DF(h:Dr s=cL x):∃p,s=.For x.1 x.2.1 x.2.2 [] p:=by unfold Dr at h;split at h<;>cases h;exact⟨_,rfl⟩
end
def PP(S:Jd TS)[o:CU T S]:CS T S where
 chk Γ b:=match b with
  |[s]=>o.chk Γ s
  |_=>QP
 ok c h:=by
  split at h
  .obtain⟨t,d,a⟩:=o.ok c h;exact⟨_,Hb d,a⟩
  .cases h
noncomputable instance[CU T (so f)]:CS T (so f):=PP (so f)
noncomputable instance[CU T (dB f)]:CS T (dB f):=PP (dB f)
noncomputable instance:CS T (so c9):=⟨λ_ b=>b.isEmpty,λ_ h=>by rw[RF.mp h];exact⟨_,yp,FD⟩⟩
noncomputable instance:CS T (dB bA):=⟨λ_ b=>b.isEmpty,λ_ h=>by rw[RF.mp h];exact⟨_,yp,C0⟩⟩
def HW(Y X:Jd TS)[o:CU T Y][n:CS T X](k:∀{K E t u},Y K E t->X K E u->S K E (GL t u)):CS T S where
 chk Γ b:=match b with
  |s::r=>o.chk Γ s&&n.chk Γ r
  |_=>QP
 ok c h:=by
  split at h
  .rw[CL]at h;obtain⟨t,f,e⟩:=o.ok c h.1;obtain⟨g,d,a⟩:=n.ok c h.2;exact⟨_,A4 f d,k e a⟩
  .cases h
noncomputable instance[CU T (so f)][CS T (so g)]:CS T (so (a8 f g)):=HW (so f) (so g) Jl
noncomputable instance[CU T (dB f)][CS T (dB g)]:CS T (dB (aG f g)):=HW (dB f) (dB g) Hv
def IJ(Q:Jd TT)(Y X:Jd TS)[z:CT T Q][m:CS T Y][n:CS T X](k:∀{K E c t u},Q K E c->Y K E t->X K E u->S K E (Gp c t u)):CU T S where
 chk Γ s:=(N8 s).any λy=>z.chk Γ y.1&&m.chk Γ y.2.1&&n.chk Γ y.2.2
 ok c h:=by obtain⟨y,q,a⟩:=bN h;obtain⟨_,rfl⟩:=Hr q;simp only[CL]at a;obtain⟨t,i,g⟩:=z.ok c a.1.1;obtain⟨l,f,e⟩:=m.ok c a.1.2;obtain⟨j,d,b⟩:=n.ok c a.2;exact⟨_,My i f d,k g e b⟩
noncomputable instance[CT T (ma q)][CS T (so f)][CS T (so g)]:CU T (so (jb q f g)):=IJ (ma q) (so f) (so g) M0
noncomputable instance[CT T (lW q)][CS T (dB f)][CS T (dB g)]:CU T (dB (bq q f g)):=IJ (lW q) (dB f) (dB g) LJ
def Ik(A:Jd TE)[x:CE T A](k:∀{K E t},A K E t->S K E (EY t)):CU T S where
 chk Γ s:=(Al s).any λy=>y.any (x.chk Γ)
 ok c h:=by obtain⟨y,q,g⟩:=bN h;obtain⟨e,a,f⟩:=bN g;obtain⟨_,rfl⟩:=uK q;subst a;obtain⟨t,d,b⟩:=x.ok c f;exact⟨_,La d,k b⟩
noncomputable instance[CE T (eo a)]:CU T (so (cY a)):=Ik (eo a) Ly
noncomputable instance[CE T (es a)]:CU T (dB (L10.gF a)):=Ik (es a) GB
noncomputable instance:CU T (dB lR) where
 chk _ s:=(Al s).any (·.isNone)
 ok c h:=by obtain⟨y,q,a⟩:=bN h;obtain⟨_,rfl⟩:=uK q;rw[Ui.mp a];exact⟨_,Fe,BZ⟩
def BP(A:Jd TE)[x:CE T A](k:∀{K E t},A K E t->S K E (xx t)):CU T S where
 chk Γ s:=(Ij s).any λe=>(jp e&& !J6 e)&&x.chk Γ e
 ok c h:=by obtain⟨y,q,a⟩:=bN h;obtain⟨_,rfl⟩:=Aa q;have a:=(CL _ _).mp a;obtain⟨t,d,b⟩:=x.ok c a.2;exact⟨_,FW d (x8 a.1),k b⟩
noncomputable instance[CE T (eo a)]:CU T (so (fQ a)):=BP (eo a) EA
noncomputable instance[CE T (es a)]:CU T (dB (aY a)):=BP (es a) AE
def HV(i:Nat)(A:Jd TE)[x:CE T A](k:∀{K E t},A K E t->S K E (uo t (mW i))):CU T S where
 chk Γ s:=(pQ s).any λy=>(jp y.2&& !J6 y.2)&&(FL i Γ y.1&&x.chk Γ y.2)
 ok c h:=by obtain⟨⟨d,e⟩,q,a⟩:=bN h;obtain⟨_,rfl⟩:=jW q;have a:=(CL _ _).mp a;have b:=(CL _ _).mp a.2;obtain⟨t,g,f⟩:=x.ok c b.2;obtain⟨y,p,z,k1,k2,k3⟩:=sB c b.1;have z:d=_:=z;subst z;exact⟨_,Dg c.nd k1 k2 g (x8 a.1) k3,k f⟩
noncomputable instance[CE T (eo a)]:CU T (so (cE a (gN i))):=HV i (eo a) λh=>Af h sL
noncomputable instance[CE T (es a)]:CU T (dB (cX a (eI i))):=HV i (es a) λh=>sN h pA
def Ph(A:Jd TE)(G:Jd TG)[x:CE T A][y:CG T G](k:∀{K E t g},A K E t->G K E g->S K E (uo t g)):CU T S where
 chk Γ s:=(pQ s).any λz=>No z.2&&xE z.1&&y.chk Γ z.1&&x.chk Γ z.2
 ok c h:=by obtain⟨⟨l,e⟩,q,a⟩:=bN h;obtain⟨_,rfl⟩:=jW q;simp only[CL]at a;obtain⟨⟨⟨b,i⟩,f⟩,d⟩:=a;obtain⟨t,j,a⟩:=x.ok c d;obtain⟨m,⟨k1,k3⟩,k2⟩:=y.ok c f;obtain⟨_,_,_,rfl⟩:=uQ i;exact⟨_,J1 j k1 (GP b) (yU b) (by rw[k3];rfl),k a k2⟩
noncomputable instance[CE T (es a)][CH T (Lb r)]:CU T (dB (cX a (zW n r))):=Ph (es a) (Ba (zW n r)) sN
theorem Kl{elt cp sc x p n}{pos:Pos}{env:Env}(h:env.kindOf x=cL .cell):TV (.ListComp elt [cp] sc pos) (cL (.Name x p)) n env=pure QP:=by show(pure _:Sem Bool)=_;rw[h];congr 1;show(((_&&QP)&&_)&&_)=QP;rw[Bool.and_false];rfl
def Iy(I:Jd TI)(G:Jd TG)(Q:Jd TT)(A:Jd TE)[Cl A][Cl Q][ClG G][ii:CI T I][g:CG T G][w:CQ T Q][x:CE T A](n:Nat)(fj:bb Nat)(i:Nat)(k:∀{K E own fv wi g tc te},own.length=n->fv.map (·.2)=fj->I K E wi->G K E0 g->Q K E0 tc->A K E0 te->S K E (uo (oB own fv wi g tc te) (mW i))):CU T S where
 chk Γ s:=(pQ s).any λz=>(vN z.1).any λv=>(Fu z.2).any λy=>FL i Γ z.1&&(Γ.sc.lookup v.1==cL .cell||(Γ.sc.lookup v.1==cL .local&&v.2.line==y.2.2.2.line&& !(y.2.2.1.names.any λy=>y.1==v.1&&(y.2==.local||y.2==.cell))))&&Dx n fj ii g w x Γ y.1 y.2.1 y.2.2.1
 ok c h:=by
  obtain⟨⟨tg,e⟩,q,h2⟩:=bN h;obtain⟨_,rfl⟩:=jW q;obtain⟨⟨v,vp⟩,q2,h3⟩:=bN h2;obtain⟨⟨elt,cp,sc,p⟩,q3,h4⟩:=bN h3;have z1:tg=_:=pX q2;have z2:e=_:=sR q3;subst z1 z2;simp only[CL,Td,Sd]at h4;obtain⟨⟨hg,hl⟩,hc⟩:=h4;obtain⟨_,_,z,k1,k2,k3⟩:=sB c hg;cases z;obtain⟨l⟩:=rZ c hc;obtain⟨tg,iter,ifs,as⟩:=cp;obtain rfl:as=0:=l.e;refine⟨_,?_,k l.ln l.fj l.i l.g l.q l.a⟩;rcases hl with hl|⟨⟨hl,hp⟩,ha⟩
  .have hl:=eX hl;rw[<-c.sc]at hl;exact Dg c.nd k1 k2 (sk l.own l.fv c.cm l.pi l.pg l.pq l.pe l.fvk l.fr l.kd l.nd l.nm l.fold) (Kl hl) k3
  .have hl:=eX hl;rw[<-c.sc]at hl;exact G6 l.own l.fv c.nd k1 hl c.cm l.pi l.pg l.pq l.pe l.fvk l.fr (ME c.kd hl hp ha) l.kd l.nd l.nm l.fold
noncomputable instance[CI T (IY f)][CG T (go g)][CQ T (ma q)][CE T (eo a)]:CU T (so (cE (cG n l f g q a) (gN i))):=Iy (IY f) (go g) (ma q) (eo a) n l i λm j h e d b=>Af (oX m j h e d b) sL
noncomputable instance[CI T (IY f)][CG T (go g)][CQ T (ma q)][CE T (eo a)]:CU T (dB (cX (qA (af (cG n l f g q a))) (eI i))):=Iy (IY f) (go g) (ma q) (eo a) n l i λm j h e d b=>sN (yu (ug (oX m j h e d b))) pA
noncomputable instance{C f:Str}[x:CE T (es o)][y:CE T (es a)]:CU T (dB (T3 C f o a)) where
 chk Γ s:=(pQ s).any λz=>(Ow z.1).any λw=>w.2.1==f&&J3 Γ C f&&jp z.2&&x.chk Γ w.1&&y.chk Γ z.2
 ok c h:=by obtain⟨⟨g,e⟩,q,E⟩:=bN h;obtain⟨_,rfl⟩:=jW q;obtain⟨⟨b,n,p⟩,i,d⟩:=bN E;have z:g=_:=vM i;subst z;simp only[CL,beq_iff_eq]at d;obtain⟨⟨⟨⟨rfl,v⟩,u⟩,r⟩,m⟩:=d;obtain⟨L,l,j⟩:=xX c v;obtain⟨t,k1,k2⟩:=x.ok c r;obtain⟨F,k3,k4⟩:=y.ok c m;exact⟨_,Jm k1 k3 (NR u),EJ l j k2 k4⟩
noncomputable instance[x:CE T (es d)][y:CE T (es k)][z:CE T (es v)]:CU T (dB (dM d k v)) where
 chk Γ s:=(pQ s).any λr=>(zB r.1).any λw=>jp r.2&&x.chk Γ w.1&&y.chk Γ w.2.1&&z.chk Γ r.2
 ok c h:=by obtain⟨⟨b,e⟩,q,m⟩:=bN h;obtain⟨_,rfl⟩:=jW q;obtain⟨w,f,a⟩:=bN m;have z:b=_:=lQ f;subst z;simp only[CL]at a;obtain⟨⟨⟨l,j⟩,i⟩,g⟩:=a;obtain⟨t,k1,k2⟩:=x.ok c j;obtain⟨o,k3,k4⟩:=y.ok c i;obtain⟨n,k5,k6⟩:=CK.ok c g;exact⟨_,EW (OA c) k1 k3 k5 (Mg l),A7 k2 k4 k6⟩
def Iq(I:Jd TI)(G:Jd TG)(Y:Jd TS)[v:CI T I][y:CG T G][m:CS T Y](k:∀{K E wi g t},I K E wi->G K E g->Y K E t->S K E (He wi g t)):CU T S where
 chk Γ s:=Γ.fa&&(Dr s).any λz=>v.chk Γ (z.1,z.2.1)&&y.chk Γ z.1&&m.chk Γ z.2.2
 ok c h:=by rw[CL]at h;obtain⟨z,q,a⟩:=bN h.2;obtain⟨_,rfl⟩:=DF q;simp only[CL]at a;obtain⟨t,⟨e,b⟩,d⟩:=v.ok c a.1.1;obtain⟨i,⟨k1,_⟩,k2⟩:=y.ok c a.1.2;obtain⟨f,k3,k4⟩:=m.ok c a.2;exact⟨_,Lq (c.po h.1) c.cm e k1 k3 (yy b),k d k2 k4⟩
noncomputable instance[CI T (io f)][CG T (go g)][CS T (so b)]:CU T (so (kN f g b)):=Iq (io f) (go g) (so b) KY
noncomputable instance[CI T (Mc f)][CG T (Ba g)][CS T (dB b)]:CU T (dB (rV f g b)):=Iq (Mc f) (Ba g) (dB b) Fz
def gm(M:Md)(N:bb Str)(a:Tb)(lv top:Nat)(rz:Bool):Gm:=⟨M,N,(aI a).names,lv,rz,QM,JE (aI a).names,top⟩
def O9(N ps:bb Str)(sc:SR):Bool:=decide (sc.kind=.function)&& !sc.isCoroutine&& !sc.isGenerator&&decide N.Nodup&&decide (N.take ps.length=ps)&&ps.all (λx=>sc.names.lookup x==cL .local||sc.names.lookup x==cL .cell)&&sc.names.all (λy=> !(y.2==.free))
theorem DD{N ps:bb Str}{sc:SR}(h:O9 N ps sc=QM):TY N ps sc:=by
 unfold O9 at h;simp only[CL,decide_eq_true_eq,Td]at h;obtain⟨⟨⟨⟨⟨⟨m,l⟩,j⟩,i⟩,g⟩,f⟩,d⟩:=h;refine⟨m,l,j,i,g,λx b=>?_,λy a e=>?_⟩
 .have:=Sg.mp f x b;rw[Sd]at this;exact this.imp eX eX
 .have:=Sg.mp d y a;rw[e]at this;cases this
section
variable{P:Rb}{w:Rr}{K:Bn}{mg:Str->bg QN}{base:Heap}{f:QT}{fd:Sl}{M:Md}{Z x:Str}{N X:bb Str}{k n top:Nat}{Y:Tb}
def a9(T:bb Fd)(S:Jd TS)[c:CS T S](M:Md)(N X:bb Str)(Y:Tb)(k top:Nat)(rz:Bool):Bool:=O9 N X (aI Y)&&c.chk (gm M N Y k top rz) (d8 Y)
theorem PB(a:Yo K mg M)(fs:∀i fd,i<top->T[i]?=cL fd->fd P w K mg base)(S:TY N X (aI Y)){Ti A outer s H E}(b:SY k (A.deeper (RH Z (aI Y) s.heap.objs.size f Ti))):Ct T (gm M N Y k top QP) (kr l9 P w K mg base N Z (aI Y) f Ti A outer s H E).YY E:=
 ⟨rfl,S.nd,rfl,S.kind,rfl,b,λ_=>aaN.never,λz=>VT z,λ_ _=>rfl,a,fs⟩
theorem lV{g:FS}{b:FN}[c:CS T (so g)](d:Yo K mg M)(fs:∀i fd,i<top->T[i]?=cL fd->fd P w K mg base)(F:Wf K x Z Y f fd)(h:a9 T (so g) M N X Y k top QP=QM)(hn:X.length=n:=by rfl)(j:b=fx N.length g:=by rfl):FnOk P w K mg base l9 (k+1) f fd X (zP K n b):=by have h:=(CL _ _).mp h;have S:=DD h.1;exact PD F S hn rfl j λl A a s H E e=>c.ok (PB d fs S e) h.2
theorem gy{g:fw}{b:g9}[c:CS T (dB g)](d:Yo K mg M)(fs:∀i fd,i<top->T[i]?=cL fd->fd P w K mg base)(F:Wf K x Z Y f fd)(h:a9 T (dB g) M N X Y k top QP=QM)(hn:X.length=n:=by rfl)(j:b=dQ N.length g:=by rfl):FnOk P w K mg base l9 (k+1) f fd X (se K n b):=by have h:=(CL _ _).mp h;have S:=DD h.1;exact PN F S hn rfl j λl A a s H E e=>c.ok (PB d fs S e) h.2
end
section
variable{T:bb Fd}{P:Rb}{w:Rr}{K:Bn}{mg:Str->bg QN}{base:Heap}
theorem Qy:∀i fd,i<0->T[i]?=cL fd->fd P w K mg base:=λ_ _ h=>a7 h (Nat.not_lt_zero _)
theorem jx{n:Nat}{x:Fd}(h:∀i fd,i<n->T[i]?=cL fd->fd P w K mg base)(e:T[n]?=cL x)(a:x P w K mg base):∀i fd,i<n+1->T[i]?=cL fd->fd P w K mg base:=λi fd hi q=>by
 rcases Nat.lt_succ_iff_lt_or_eq.mp hi with z|rfl
 .exact h i fd z q
 .rw[e]at q;cases q;exact a
theorem look{α:Type}{R:Str->α->Prop}{y:Str}{e:α}{l:bb (Str×α)}(h:R y e)(r:∀x d,l.lookup x=cL d->R x d):∀x d,((y,e)::l).lookup x=cL d->R x d:=λx d q=>by
 rw[Rx]at q;split at q
 .rename_i z;rw[beq_iff_eq]at z;cases q;rw[z];exact h
 .exact r x d q
abbrev Nf(K:Bn)(mg:Str->bg QN):Str->D->Prop:=λx d=>∃v u,mg x=cL u/\RelV v u/\∀O H,DV O K H v d
theorem Qw:∀x d,([]:bb (Str×D)).lookup x=cL d->Nf K mg x d:=λ_ _ h=>nomatch h
theorem P2{y:Str}{e:D}{l:bb (Str×D)}(h:Nf K mg y e)(r:∀x d,l.lookup x=cL d->Nf K mg x d):∀x d,((y,e)::l).lookup x=cL d->Nf K mg x d:=look h r
theorem PU{x:Str}{a:QT}{d:D}(h:mg x=cL (.ref a))(k:∀O H,DV O K H (.ref a) d):Nf K mg x d:=⟨.ref a,_,h,rfl,k⟩
theorem Qk:∀C L,([]:bb (Str×bb Str)).lookup C=cL L->lX K C L:=λ_ _ h=>nomatch h
theorem Qb{y:Str}{e:bb Str}{l:bb (Str×bb Str)}(h:lX K y e)(r:∀x d,l.lookup x=cL d->lX K x d):∀x d,((y,e)::l).lookup x=cL d->lX K x d:=look h r
abbrev QD(K:Bn)(mg:Str->bg QN)(x:Str):Prop:=∃C,RA K Rk x=cL (cL (.ref C))/\mg x=cL (.ref C)/\V9 K C M7 "ValueError.__new__"=QM
theorem P5:∀x∈([]:bb Str),QD K mg x:=λ_ h=>nomatch h
end
end CC
set_option warn.classDefReducibility false
namespace CC
open PySem L2 L3 L10
variable{T:bb Fd}
def OS(n:String):Bool:=n== "int"||n== "bool"||n== "str"||n== "list"||n== "tuple"
theorem Jp{n:String}(h:OS n=QM):(n= "int"\/n= "bool"\/n= "str"\/n= "list"\/n= "tuple")/\Ry (Str.ofString n)=cL (.type n):=by unfold OS at h;simp only[Sd,beq_iff_eq]at h;rcases h with(((rfl|rfl)|rfl)|rfl)|rfl<;>exact⟨by simp,rfl⟩
noncomputable instance:Xa wx:=HU .Pow ⟨_,Js,FY⟩
end CC
set_option warn.classDefReducibility false
namespace CC
open PySem L2 L3 L10
variable{T:bb Fd}{A B C J:Jd TE}{U Z:Jd TA}{Q R:Jd TT}
noncomputable instance:CB ud:=⟨"abs",_,Nj,.inl ⟨_,rfl⟩,λ_=>⟨_,yZ,KK⟩⟩
noncomputable instance:CB wu:=⟨"any",_,NV,.inl ⟨_,rfl⟩,λh=>⟨_,Bv h,Li⟩⟩
noncomputable instance:CB uv:=⟨"max",_,Cj,.inl ⟨_,rfl⟩,λh=>⟨_,L10.zI h,L10.F0⟩⟩
noncomputable instance[CE T (es a)][CE T (es b)]:CE T (es (Oy a b)):=MB .Or (es a) (es b) NK KO
def OW(n:String)(x:Gm->Q9->Bool)(Γ:Gm)(e:Q9):Bool:=(HR Γ "isinstance" e).any λy=>match y.2.1 with
  |[b]=>(vN b).any (λz=>z.1==Str.ofString n)&&blt Γ (Str.ofString n)&&OS n&&x Γ y.1
  |_=>QP
noncomputable instance[x:CE T (es a)]:CE T (es (zn n a)) where
 chk:=OW n x.chk
 ok {Γ X E e} c h:=by
  obtain⟨⟨e,l,M,L⟩,q,i⟩:=bN h;obtain⟨rfl,g,f⟩:=mw q
  match l,f,i with
  |[b],f,i=>simp only[CL]at i;obtain⟨⟨⟨d,y⟩,w⟩,u⟩:=i;obtain⟨z,o,d⟩:=bN d;have j:=pX o;obtain⟨m,K⟩:=z;have d:=beq_iff_eq.mp d;have d:m=_:=d;subst d;have j:b=_:=j;subst j;obtain⟨k1,k2⟩:=Jp w;obtain⟨I,G,H,F⟩:=oI c y;obtain⟨t,r,p⟩:=x.ok c u;simp only[SE,CL]at f;exact⟨_,sr c g rJ (.inl ⟨_,rfl⟩) yY (by simp only[SE,CL];exact f) (kj r (kj (GW (v:=.ty _) I G k2 rfl F H) pU (jd f.2.1)) (jd f.1)),L10.G4 k1 p⟩
noncomputable instance:CE T (es DU) where
 chk _ e:=(OX e).any λy=>y.1.isEmpty&&y.2.isEmpty
 ok _ h:=by obtain⟨⟨k,v⟩,q,a⟩:=bN h;obtain⟨_,rfl⟩:=Ah q;simp only[CL,RF]at a;obtain⟨rfl,rfl⟩:=a;exact⟨_,Az,Du⟩
def Qq(X:Cx)(a:bb (bg Q9)×bb Q9)(t:bb (TE×TE)):Prop:=(∀pos,ML X pos a.1 a.2 t)/\a.1.all (·.isSome)=QM/\a.1.length=a.2.length
def pos(l:bb (cR×cR)):Jd (bb (TE×TE)):=λK E t=>oj K E t l
abbrev CD(T:bb Fd)(J:Jd (bb (TE×TE))):=CK T Qq J
noncomputable instance:CD T (pos []):=⟨λ_ a=>a.1.isEmpty&&a.2.isEmpty,λ{Γ X E a} _ h=>by obtain⟨k,v⟩:=a;simp only[CL,RF]at h;obtain⟨rfl,rfl⟩:=h;exact⟨_,⟨λ_=>FV,rfl,rfl⟩,FR⟩⟩
noncomputable instance[x:CE T (es a)][y:CE T (es b)][r:CD T (pos l)]:CD T (pos ((a,b)::l)) where
 chk Γ a:=match a.1,a.2 with
  |some k::d,v::vs=>x.chk Γ k&&y.chk Γ v&&r.chk Γ (d,vs)
  |_,_=>QP
 ok {Γ X E a} c h:=by
  obtain⟨d,vs⟩:=a
  match d,vs,h with
  |some k::d,v::vs,h=>simp only[CL]at h;obtain⟨u,o,n⟩:=x.ok c h.1.1;obtain⟨t,m,j⟩:=y.ok c h.1.2;obtain⟨q,⟨i,g,f⟩,e⟩:=r.ok c h.2;exact⟨_,⟨λp=>CJ o m (i p),g,d5 (·+1) f⟩,B6 n j e⟩
noncomputable instance[r:CD T (pos l)]:CE T (es (qG l)) where
 chk Γ e:=(OX e).any λy=> !y.1.isEmpty&&decide (y.1.length<=15)&&r.chk Γ y
 ok c h:=by obtain⟨y,q,a⟩:=bN h;obtain⟨_,rfl⟩:=Ah q;simp only[CL,decide_eq_true_eq,Td]at a;obtain⟨t,⟨g,f,d⟩,b⟩:=r.ok c a.2;exact⟨_,Gs (g _) f d (λz=>by have:=a.1.1;rw[z]at this;cases this) a.1.2,AI b⟩
def wH(x:Gm->Q9->Bool)(Γ:Gm)(e:Q9):Bool:=(Me "values" e).any λz=>z.2.1.isEmpty&&x Γ z.1
theorem qN[x:CE T (es d)]{Γ X E tg e}(c:Ct T Γ X E)(h:wH x.chk Γ e=QM):∃t,PI X tg e (Df X.prog X.w (Fm X.K "dict" xC t))/\dr X.K E t d/\jp e=QM:=by obtain⟨⟨b,l,o,n⟩,z,a⟩:=bN h;obtain⟨rfl,m,j,q,p⟩:=oC z;simp only[CL,RF]at a;obtain⟨rfl,i⟩:=a;obtain⟨t,g,f⟩:=x.ok c i;exact⟨t,L10.Fb (Bs Ur Ul Wd L10.qY g (gY m) j),f,rfl⟩
def OO:Jd TI:=λ_ _ _=>True
def vI(T:bb Fd)(d:cR)[x:CE T (es d)]:CI T OO:=⟨λΓ p=>wH x.chk Γ p.2,λc h=>let⟨_,h1,_,h2⟩:=qN c h;⟨_,⟨h1,h2⟩,trivial⟩⟩
noncomputable instance[x:CE T (es f)][g:CG T (Ba t)][w:CQ T (lW q)][y:CE T (es a)]:CE T (es (mh n l f t q a)) where
 chk Γ e:=(Fu e).any λz=>Dx n l (vI T f) g w y Γ z.1 z.2.1 z.2.2.1&&wH x.chk Γ z.2.1.iter
 ok c h:=by obtain⟨⟨o,r,v,p⟩,q,b⟩:=bN h;rw[CL]at b;obtain⟨l⟩:=rZ c b.1;obtain⟨tg,d,i,as⟩:=r;obtain⟨u,m,j,_⟩:=qN (tg:=tg) c b.2;rw[sR q];obtain rfl:as=0:=l.e;exact⟨_,K2 (sk l.own l.fv c.cm m l.pg l.pq l.pe l.fvk l.fr l.kd l.nd l.nm l.fold),zO l.ln l.fj j l.g l.q l.a⟩
end CC
local macro_rules(kind:=«term{_}»)|`({$a})=>`(L3.ae $a L3.ap)|`({$a,$b})=>`(L3.ae $a (L3.ae $b L3.ap))|`({$a,$b,$c})=>`(L3.ae $a (L3.ae $b (L3.ae $c L3.ap)))|`({$a,$b,$c,$d})=>`(L3.ae $a (L3.ae $b (L3.ae $c (L3.ae $d L3.ap))))
local macro_rules|`(~~~$n)=>`(L3.pC (.int $n))
namespace STP
open PySem L2 L3
def ic:FS:=(a8 (jb (ar (au gS (au aC (aa 0) (~~~2)) (pC .none))) (cY (au aC (aa 0) (~~~2))) c9)
 (cY (dR (L10.xm 0) {cG 2 [] (gn (au aC (aa 0) (~~~0))) (gT 2 (JO (gN 0) (JO (gN 1) Nw))) (ar (au br (au aC (aa 1) (~~~0)) (pC (.str "layer")))) (au aC (aa 1) (~~~1))})))
def dh:FN:=fx 1 ic
def gu:FS:=(a8 (cE (au aC (au aC (au aC (aa 0) (~~~1)) (aa 1)) (aa 2)) (gN 3))
 (a8 (jb (ar (au br (au aC (aa 3) (~~~0)) (pC (.str "below")))) (cY (au aC (au aC (au aC (aa 0) (~~~1)) (~~~0)) (aa 2))) c9)
 (cY (aa 3))))
def iG:FN:=fx 4 gu
def eF:FS:=(cY (cG 1 [1] (gn (au aC (aa 0) (~~~2))) (gN 0) (ar (dR zh {cG 1 [0] (gn (aa 1)) (gN 0) ef (au nN (aa 0) (au aC (aa 1) (~~~0)))})) (aa 0)))
def bG:FN:=fx 2 eF
def fH:FS:=(a8 (kN (gn (au aC (aa 0) (~~~2))) (gN 2) (jb (ar (au br (dR mU {au aC (aa 2) (~~~0)}) (dR L9.eP {aa 1}))) (cY (au ci (cz {aN {pC (.str "letter"),au aC (aa 2) (~~~1)}}) (au dS (cz {pC (.tuple [(.str "none")])}) (au mG (dR de {aa 1}) (~~~1))))) c9))
 (cY (cG 1 [0] (gn (aa 1)) (gN 0) ef (au aC (au aC (au aC (aa 1) (~~~1)) (~~~0)) (aa 0)))))
def fE:FN:=fx 3 fH
open L10
def eN:fw:=(aG (T3 "Hand" "bed" (aq 0) (af (aa 1)))
 (aG (T3 "Hand" "acts" (aq 0) (ri (af (au aC (aa 2) (~~~0)))))
 (aG (T3 "Hand" "waiting" (aq 0) (af (au aC (aa 2) (~~~1))))
 (aG (T3 "Hand" "once" (aq 0) (af (au aC (aa 2) (~~~2))))
 (T3 "Hand" "sent" (aq 0) (af (cz ap)))))))
def dA:g9:=dQ 3 eN
def gi:fw:=(gF (jk (aj (z7 hV (aj (kB 1 [0] (iR (kG (bE "Hand" "acts" (aq 0)))) (eI 0) jU (jk (aj (af (aa 0)) (aj (aX (bE "Hand" "acts" (aq 1)) (af (aa 0))) aF)))) aF)) (aj (bE "Hand" "waiting" (aq 0)) (aj (bE "Hand" "once" (aq 0)) aF)))))
def bH:g9:=dQ 1 gi
def dP:fw:=(gF (u8 (g7 gS (bE "Hand" "waiting" (aq 0)) (af (pC .none))) (g7 nN (af (aa 1)) (iK (bE "Hand" "waiting" (aq 0)) (af (~~~0))))))
def b8:g9:=dQ 2 dP
def fy:fw:=(gF (g7 nN (af (aa 1)) (kF (bE "Hand" "acts" (aq 0)))))
def bJ:g9:=dQ 2 fy
def iE:fw:=(aG (bq (gq (aH (ar (au br (au aC (aa 2) (~~~0)) (pC (.str "letter"))))) (mC (aO (aP "Hand" "has_act" bJ 2 (aq 0) (aj (af (aa 2)) aF))))) (aY (oK (bE "Hand" "sent" (aq 0)) (af (aN {au aC (aa 2) (~~~1),pC (.str "down")})))) bA)
 (dM (bE "Hand" "acts" (aq 0)) (af (aa 1)) (af (aa 2))))
def bx:g9:=dQ 3 iE
def j6:fw:=(aG (cX (nZ (bE "Hand" "acts" (aq 0)) (af (aa 1))) (eI 2))
 (bq (gq (aH (ar (au br (au aC (aa 2) (~~~0)) (pC (.str "letter"))))) (mC (aO (aP "Hand" "has_act" bJ 2 (aq 0) (aj (af (aa 2)) aF))))) (aY (oK (bE "Hand" "sent" (aq 0)) (af (aN {au aC (aa 2) (~~~1),pC (.str "up")})))) bA))
def iX:g9:=dQ 3 j6
def gb:fw:=(aG (cX (iK (bE "Hand" "waiting" (aq 0)) (af (~~~0))) (eI 1))
 (aG (cX (iK (bE "Hand" "waiting" (aq 0)) (af (~~~2))) (eI 2))
 (aG (T3 "Hand" "waiting" (aq 0) (af (pC .none)))
 (aG (cX (qA (IM (aH (ar (au br (aa 2) (pC (.tuple [(.str "chord")]))))) (ie fE 2 (aj (bE "Hand" "bed" (aq 0)) (aj (af (aa 1)) aF))) (af (cz {aN {pC (.str "layer"),au aC (aa 2) (~~~2)}})))) (eI 3))
 (rV (lh (zr {aa 1,aa 3})) (zW 2 (iI (eI 4) (iI (eI 5) qk))) (aY (aP "Hand" "come" bx 3 (aq 0) (aj (af (aa 4)) (aj (af (aa 5)) aF)))))))))
def cO:g9:=dQ 6 gb
def dk:fw:=(aG (bq (uU (aO (g7 lG (bE "Hand" "waiting" (aq 0)) (af (pC .none)))) (uU (aO (g7 mY (iK (bE "Hand" "waiting" (aq 0)) (af (~~~2))) (af (pC (.tuple [(.str "chord")]))))) (aO (g7 mY (ie dh 1 (aj (aP "Hand" "stands" bH 1 (aq 0) aF) aF)) (af (~~~0)))))) (gF (af (pC (.bool QP)))) bA)
 (gF (g7 mY (ie bG 2 (aj (bE "Hand" "bed" (aq 0)) (aj (g7 ci (iK (bE "Hand" "waiting" (aq 0)) (af (~~~0))) (af (aN {aa 1}))) aF))) (af (cz ap)))))
def df:g9:=dQ 2 dk
def cV:fw:=(aG (cX (g7 ci (iK (bE "Hand" "waiting" (aq 0)) (af (~~~0))) (af (aN {aa 1}))) (eI 2))
 (aG (T3 "Hand" "waiting" (aq 0) (jk (aj (af (aa 2)) (aj (iK (bE "Hand" "waiting" (aq 0)) (af (~~~1))) (aj (af (pC (.tuple [(.str "chord")]))) aF)))))
 (bq (aO (g7 br (kB 1 [] (iR (ie bG 2 (aj (bE "Hand" "bed" (aq 0)) (aj (af (aa 2)) aF)))) (eI 0) jU (af (dR de {au aC (aa 0) (~~~0)}))) (af (cz {dR de {aa 2}})))) (aY (aP "Hand" "decide" cO 1 (aq 0) aF)) bA)))
def cU:g9:=dQ 3 cV
def gU:fw:=(aG (cX (ie dh 1 (aj (aP "Hand" "stands" bH 1 (aq 0) aF) aF)) (eI 2))
 (aG (cX (ie iG 3 (aj (bE "Hand" "bed" (aq 0)) (aj (af (aa 2)) (aj (af (aa 1)) aF)))) (eI 3))
 (aG (cX (af (au aC (aa 3) (~~~0))) (eI 4))
 (aG (bq (aH (ar (au jX (aa 4) (aN {pC (.str "layer"),pC (.str "once")})))) (T3 "Hand" "once" (aq 0) (af (pC .none))) bA)
 (bq (aH (ar (au br (aa 4) (pC (.str "tap"))))) (T3 "Hand" "waiting" (aq 0) (af (aN {aN {aa 1},~~~0,aa 3}))) (bq (gq (aH (ar (au br (aa 4) (pC (.str "letter"))))) (gq (aH (ar (au br (aa 2) (~~~0)))) (aO (g7 mY (ie bG 2 (aj (bE "Hand" "bed" (aq 0)) (aj (af (aN {aa 1})) aF))) (af (cz ap)))))) (T3 "Hand" "waiting" (aq 0) (af (aN {aN {aa 1},~~~0,pC (.tuple [(.str "chord")])}))) (bq (aH (ar (au br (aa 4) (pC (.str "once"))))) (aG (aY (aP "Hand" "come" bx 3 (aq 0) (aj (af (aa 1)) (aj (af (pC (.tuple [(.str "none")]))) aF))))
 (T3 "Hand" "once" (aq 0) (af (au aC (aa 3) (~~~1))))) (aY (aP "Hand" "come" bx 3 (aq 0) (aj (af (aa 1)) (aj (af (aa 3)) aF)))))))))))
def fO:g9:=dQ 5 gU
def gZ:fw:=(aG (bq (uU (aO (kT QP (af (aa 1)) (bE "Hand" "acts" (aq 0)))) (aO (aP "Hand" "is_waiting" b8 2 (aq 0) (aj (af (aa 1)) aF)))) lR bA)
 (aG (bq (aO (aP "Hand" "makes_chord" df 2 (aq 0) (aj (af (aa 1)) aF))) (aG (aY (aP "Hand" "put_to_chord" cU 2 (aq 0) (aj (af (aa 1)) aF)))
 lR) bA)
 (aG (bq (aO (g7 gS (bE "Hand" "waiting" (aq 0)) (af (pC .none)))) (aY (aP "Hand" "decide" cO 1 (aq 0) aF)) bA)
 (aY (aP "Hand" "begin" fO 2 (aq 0) (aj (af (aa 1)) aF))))))
def gX:g9:=dQ 2 gZ
def gf:fw:=(aG (cX (iK (bE "Hand" "waiting" (aq 0)) (af (~~~2))) (eI 2))
 (bq (aH (ar (au br (aa 2) (pC (.tuple [(.str "chord")]))))) (aY (aP "Hand" "decide" cO 1 (aq 0) aF)) (aG (T3 "Hand" "waiting" (aq 0) (af (pC .none)))
 (aY (aP "Hand" "come" bx 3 (aq 0) (aj (af (aa 1)) (aj (af (aN {pC (.str "letter"),au aC (aa 2) (~~~1)})) aF)))))))
def fW:g9:=dQ 3 gf
def ir:fw:=(aG (bq (aO (aP "Hand" "is_waiting" b8 2 (aq 0) (aj (af (aa 1)) aF))) (aY (aP "Hand" "settle" fW 2 (aq 0) (aj (af (aa 1)) aF))) bA)
 (bq (aO (kT QP (af (aa 1)) (bE "Hand" "acts" (aq 0)))) (aY (aP "Hand" "go" iX 2 (aq 0) (aj (af (aa 1)) aF))) bA))
def iy:g9:=dQ 2 ir
def fD:fw:=(aG (bq (aO (g7 lG (bE "Hand" "waiting" (aq 0)) (af (pC .none)))) lR bA)
 (aG (cX (g7 ci (iK (bE "Hand" "waiting" (aq 0)) (af (~~~1))) (af (~~~1))) (eI 1))
 (aG (T3 "Hand" "waiting" (aq 0) (jk (aj (iK (bE "Hand" "waiting" (aq 0)) (af (~~~0))) (aj (af (aa 1)) (aj (iK (bE "Hand" "waiting" (aq 0)) (af (~~~2))) aF)))))
 (bq (aO (g7 br (af (aa 1)) (iK (bE "Hand" "bed" (aq 0)) (af (~~~3))))) (aY (aP "Hand" "decide" cO 1 (aq 0) aF)) bA))))
def fC:g9:=dQ 2 fD
def rS:fw:=(aG (cX (ph "Hand" dA 3 (aj (af (aa 0)) (aj (af (aa 1)) aF))) (eI 3))
 (aG (bq (aH (ar (au br (au aC (aa 2) (~~~0)) (pC (.str "turn"))))) (aY (aP "Hand" "wait_on" fC 1 (aq 3) aF)) (bq (aH (ar (au br (au aC (aa 2) (~~~0)) (pC (.str "down"))))) (aY (aP "Hand" "press" gX 2 (aq 3) (aj (af (au aC (aa 2) (~~~1))) aF))) (aY (aP "Hand" "lift" iy 2 (aq 3) (aj (af (au aC (aa 2) (~~~1))) aF)))))
 (gF (jk (aj (bE "Hand" "sent" (aq 3)) (aj (aP "Hand" "stands" bH 1 (aq 3) aF) aF))))))
def mq:g9:=dQ 4 rS
end STP
local macro_rules| `(tactic|fail "nm")=> `(tactic|first|((simp only[X3,X4]);rfl)|rfl)| `(tactic|fail "evf")=> `(tactic|first|with_reducible assumption|change L3.gA _ _|change L3.vP _ _|change L3.tM _ _|change L3.IS _ _|change L3.nj _ _|change L3.BF _ _|change L3.AB _ _|change L3.adw _ _|change L3.jo _ _|change L3.lO _ _|change L3.YJ _ _|change L3.YD _ _|change L3.abR _ _|change L3.acs _ _|change L3.lN _ _|change L3.aco _ _|change L3.xn _ _|change L3.abu _ _|change L3.lc _ _|change L3.aaY _ _|change L3.abq _ _|change L3.aci _ _|change L3.acS _ _|change L3.gQ|change L3.ig|change L3.kA|change L3.Kq|change L3.MG|change L3.Om|change L3.fJ _|change L3.jK _|(with_reducible rfl))| `(tactic|fail "ev")=> `(tactic|first
 |change L3.aw
 |((with_reducible apply L3.ah);rfl)
 |((with_reducible apply L3.gz);rfl)
 |change L3.ay
 |change L3.aaZ
 |((with_reducible apply L3.av);(·fail "ev");(·fail "ev");(·rfl);(·rfl);(·fail "evf"))
 |((with_reducible apply L3.aey);(·fail "ev");(·rfl);(·rfl))
 |((with_reducible apply L3.am);(·fail "ev");(·fail "ev"))
 |((with_reducible apply L3.aR);(·fail "ev");(·rfl))
 |((with_reducible apply L3.bX);(·fail "ev");(·rfl);(·first|fail "evf"|rfl))
 |((with_reducible apply L3.eW);(·fail "ev");(·rfl);(·rfl);(·with_reducible assumption))
 |((with_reducible apply L3.eA);(·fail "ev");(·rfl);(·exact QR rfl))
 |((with_reducible apply L3.iJ);(·fail "ev");(·rfl);(·exact QR rfl))
 |((with_reducible apply L3.adn);(·fail "ev");(·rfl);(·rfl))
 |((with_reducible apply L3.uZ);(·fail "ev");(·rfl))
 |((with_reducible apply L3.IH);(·fail "ev");(·fail "ev");(·fail "ev");(·rfl);(·first|with_reducible assumption|rfl))
 |((with_reducible apply L3.EN);(·fail "ev"))
 |((with_reducible apply L3.jv);(·fail "ev");(·intro _;fail "ev"))
 |((with_reducible apply L3.adW);(·fail "ev");(·intro _;fail "ev"))
 |((with_reducible apply L3.abY);(·fail "ev"))
 |((with_reducible apply L3.Zg);(·fail "ev");(·intro _;fail "ev"))
 |((with_reducible apply L3.ZI);(·fail "ev");(·intro _;fail "ev"))
 |((with_reducible apply L3.lJ);(·fail "ev");(·rfl);(·first|with_reducible assumption|rfl))
 |((with_reducible apply L3.fL);(·fail "ev");(·rfl);(·rfl))
 |((with_reducible apply L3.abG);(·fail "ev");(·rfl);(·rfl))
 |((with_reducible apply L3.jQ);(·rfl);(·fail "ev");(·rfl);(·rfl);(·first|with_reducible assumption|(simp only[Sz,QZ,L3.b9] at*;ext));(·fail "nm"))
 |((with_reducible apply L3.ac9);(·rfl);(·fail "ev");(·rfl);(·rfl);(·with_reducible assumption);(·with_reducible assumption);(·with_reducible assumption);(·fail "nm"))
 |((with_reducible apply L3.pT);(·fail "ev");(·rfl);(·fail "nm"))
 |((with_reducible apply L3.tI);(·fail "ev"))
 |((with_reducible apply L3.sO);(·fail "ev");(·rfl)))
local macro_rules| `(tactic|fail "evb")=> `(tactic|first
 |((with_reducible apply L3.ad8);(·fail "ev");(·fail "ev");(·rfl);(·rfl);(·fail "evf"))
 |((with_reducible apply L3.abT);(·fail "ev");(·rfl);(·rfl);(·with_reducible assumption))
 |((with_reducible apply L3.adM);(·fail "ev");(·rfl);(·first|fail "evf"|rfl))
 |fail "ev")
local macro_rules| `(tactic|fail "ev")=> `(tactic|first
 |with_reducible assumption
 |((with_reducible apply L3.Zg);(·fail "ev");(·intro _;fail "evb"))
 |((with_reducible apply L3.ZI);(·fail "ev");(·intro _;fail "evb"))
 |((with_reducible apply L3.B2);(·fail "ev");(·fail "ev");(·fail "ev");(·rfl);(·rfl);(·rfl);(·fail "evf");(·intro _;fail "evf"))
 |((with_reducible apply L3.xf);(·fail "ev");(·rfl);(·rfl);(·rfl)))
local macro_rules| `(tactic|fail "go")=> `(tactic|first
 |((with_reducible apply L3.bv);(·fail "ev");(·rfl);(·fail "nm");try fail "go")
 |((with_reducible apply L3.rK);(·fail "ev");try fail "go")
 |((with_reducible apply L3.acM);try fail "go")
 |((with_reducible apply L3.cT);try fail "go")
 |((with_reducible apply L3.fK);(·fail "ev");(·rfl))
 |((with_reducible apply L3.iB);(·fail "ev"))
 |((with_reducible apply L3.aef);(·fail "ev");(·rfl);(·fail "nm"))
 |((with_reducible apply L3.j7);(·fail "ev"))
 |((with_reducible apply L3.ez);(·fail "ev");(·rfl))
 |((with_reducible apply L3.uz);(·fail "ev"))
 |(with_reducible apply L3.xT))
namespace STP
open PySem L2 L3
def cW(c:Nat):Str:=⟨#[97+c]⟩
inductive Mn where
 |Q6 (c:Nat)
 |Sr (n:Int)
 |U8 (c:Nat) (n:Int)
 |once (n:Int)
 |none
 |below
 deriving DecidableEq
def mD:Mn->D
 |.Q6 c=>.tuple [.str "letter",.str (cW c)]
 |.Sr n=>.tuple [.str "layer",.int n]
 |.U8 c n=>.tuple [.str "tap",.str (cW c),.int n]
 |.once n=>.tuple [.str "once",.int n]
 |.none=>.tuple [.str "none"]
 |.below=>.tuple [.str "below"]
def VM(L a:Int):Mn->Prop
 |.Q6 c=>c<26
 |.Sr n=>1<=n/\n<a
 |.U8 c n=>c<26/\1<=n/\n<a
 |.once n=>1<=n/\n<a
 |.none=>True
 |.below=>L≠0
def Mn.YB:Mn->Bool
 |.Q6 _=>QM
 |_=>QP
structure Bd where
 n:Int
 ls:bb (bb Mn)
 cs:bb (bb Nat×Nat)
 wt:Int
def cj(l:bb Mn):D:=.tuple (l.map mD)
def a9(c:bb Nat×Nat):D:=.tuple [.tuple (aB c.1),.str (cW c.2)]
def bD(b:Bd):D:=.tuple [.int b.n,.tuple (b.ls.map cj),.tuple (b.cs.map a9),.int b.wt]
def VL(n a:Int)(b:bb (bb Mn)):Prop:=∀(i:Nat) l,b[i]?=cL l->(l.length:Int)=n/\∀m∈l,VM i a m
def mN(l0:bb Mn)(k:Nat):Bool:=(l0[k]?.map Mn.YB).getD QP
def VC(l0:bb Mn)(c:bb Nat×Nat):Prop:=2<=c.1.length/\c.1.Pairwise (·<·)/\(∀k∈c.1,mN l0 k=QM)/\c.2<26
structure VB(b:Bd):Prop where
 n1:1<=b.n
 n5:b.n<=5
 l1:1<=b.ls.length
 l3:b.ls.length<=3
 vl:VL b.n b.ls.length b.ls
 c4:b.cs.length<=4
 vc:∀c∈b.cs,VC (b.ls.headD []) c
 cu:b.cs.Pairwise λa c=>a.1≠c.1
 w1:1<=b.wt
 w4:b.wt<=4
def wn:Mn->Nat
 |.Q6 _=>0
 |.Sr _=>1
 |.U8 _ _=>2
 |.once _=>3
 |.none=>4
 |.below=>5
def ws:Nat->Str
 |0=> "letter"
 |1=> "layer"
 |2=> "tap"
 |3=> "once"
 |4=> "none"
 |_=> "below"
def wd(m:Mn):Str:=ws (wn m)
theorem lH(m:Mn):wn m<6:=by cases m<;>exact QR rfl
theorem jI(m:Mn):aC (mD m) (.int 0)=cL (.fz (.str (wd m))):=by cases m<;>exact gQ
theorem Dn(m:Mn):QO.strOk (wd m)=QM:=(by left:∀i,i<6->QO.strOk (ws i)=QM) _ (lH m)
theorem pK:∀i,i<6->∀j,j<6->(ws i==ws j)=decide (i=j):=by left
theorem uO(m:Mn)(j:Nat)(a:j<6):br (.str (wd m)) (.str (ws j))=cL (.fz (.bool (decide (wn m=j)))):=by rw[OB (Dn m) ((by left:∀i,i<6->QO.strOk (ws i)=QM) j a)];unfold wd;rw[pK _ (lH m) _ a]
def Mn.ZH:Mn->Bool
 |.below=>QM
 |_=>QP
def Mn.V1:Mn->Bool
 |.Sr _=>QM
 |_=>QP
def Mn.isT:Mn->Bool
 |.U8 _ _=>QM
 |_=>QP
def Mn.Yc:Mn->Bool
 |.once _=>QM
 |_=>QP
theorem fS(m:Mn):br (.str (wd m)) (.str "letter")=cL (.fz (.bool m.YB)):=(uO m 0 (by decide)).trans (by cases m<;>rfl)
theorem CZ(m:Mn):br (.str (wd m)) (.str "below")=cL (.fz (.bool m.ZH)):=(uO m 5 (by decide)).trans (by cases m<;>rfl)
theorem vk(m:Mn):br (.str (wd m)) (.str "layer")=cL (.fz (.bool m.V1)):=(uO m 1 (by decide)).trans (by cases m<;>rfl)
theorem wB(m:Mn):br (.str (wd m)) (.str "tap")=cL (.fz (.bool m.isT)):=(uO m 2 (by decide)).trans (by cases m<;>rfl)
theorem xP(m:Mn):br (.str (wd m)) (.str "once")=cL (.fz (.bool m.Yc)):=(uO m 3 (by decide)).trans (by cases m<;>rfl)
theorem Ng(m:Mn):jX (.str (wd m)) (.tuple [.str "layer",.str "once"])=cL (.fz (.bool (!(m.V1||m.Yc)))):=by
 have h:∀a:Str,QO.strOk a=QM->jX (.str a) (.tuple [.str "layer",.str "once"])=cL (.fz (.bool (!(("layer":Str)==a||("once":Str)==a)))):=λa ha=>by show(if(i7 (.str a)&&(QO.strOk "layer"&&(QO.strOk "once"&&QM)))=QM then cL (RV.fz (.bool (!(QO.eqv (.str "layer") (.str a)||(QO.eqv (.str "once") (.str a)||false)))))else lD)=_;rw[show i7 (.str a)=QM by unfold i7;rw[show QO.canLay0 (.str a)=QM from ha];rfl,show QO.strOk "layer"=QM by left,show QO.strOk "once"=QM by left,WI];rfl
 rw[h _ (Dn m)];unfold wd;rw[show(("layer":Str)==ws (wn m))=_ from pK 1 (by decide) _ (lH m),show(("once":Str)==ws (wn m))=_ from pK 3 (by decide) _ (lH m)];cases m<;>rfl
def LB:Mn->Prop
 |.Q6 c=>c<26
 |.U8 c _=>c<26
 |_=>True
theorem VM.lb(h:VM L nL m):LB m:=by
 cases m with
 |Q6 c=>exact h
 |U8 c n=>exact h.1
 |_=>trivial
theorem mS(h:c<26):QO.strOk (cW c)=QM:=by show((#[97+c]:Array Nat).all λc=>decide (c<0x110000))=QM;simp;ext
theorem Er(h:cW c=cW d):c=d:=by
 have:(97+c)=97+d:=by have a:=d5 (λz:Str=>z.cps.toList) h;exact List.head_eq_of_cons_eq a
 ext
theorem oz(h:LB m):QO.canLay0 (mD m)=QM:=by
 cases m with
 |Q6 c=>show(QO.strOk "letter"&&(QO.strOk (cW c)&&QM))=QM;rw[mS h,show QO.strOk "letter"=QM by left];rfl
 |Sr n=>show(QO.strOk "layer"&&(QM&&QM))=QM;left
 |U8 c n=>show(QO.strOk "tap"&&(QO.strOk (cW c)&&(QM&&QM)))=QM;rw[mS h,show QO.strOk "tap"=QM by left];rfl
 |once n=>show(QO.strOk "once"&&(QM&&QM))=QM;left
 |none=>show(QO.strOk "none"&&QM)=QM;left
 |below=>show(QO.strOk "below"&&QM)=QM;left
theorem uH(h:LB m):i7 (mD m)=QM:=by unfold i7;rw[oz h];cases m<;>rfl
def mR:Mn->bb D
 |.Q6 c=>[.str (cW c)]
 |.Sr n=>[.int n]
 |.U8 c n=>[.str (cW c),.int n]
 |.once n=>[.int n]
 |.none=>[]
 |.below=>[]
theorem IE(m:Mn):mD m=.tuple (.str (wd m)::mR m):=by cases m<;>rfl
theorem NQ(a b:Mn):decide (wd a=wd b)=decide (wn a=wn b):=by
 have h:=pK _ (lH a) _ (lH b)
 assumption
theorem yA(c d:Nat):decide (cW c=cW d)=decide (c=d):=decide_eq_decide.mpr ⟨Er,λh=>by rw[h]⟩
theorem Ll(a b:Mn)(h:wn a=wn b):QO.eqvAll (mR a) (mR b)=decide (a=b):=by
 cases a<;>cases b<;>first|cases h|skip
 .show(decide (cW _=cW _)&&QM)=_;rw[yA,UC];exact decide_eq_decide.mpr ⟨λh=>by rw[h],λh=>by cases h;rfl⟩
 .show(decide (_=_)&&QM)=_;rw[UC];exact decide_eq_decide.mpr ⟨λh=>by rw[h],λh=>by cases h;rfl⟩
 .show(decide (cW _=cW _)&&(decide (_=_)&&QM))=_;rw[yA,UC,<-Bool.decide_and];exact decide_eq_decide.mpr ⟨λh=>by rw[h.1,h.2],λh=>by cases h;exact⟨rfl,rfl⟩⟩
 .show(decide (_=_)&&QM)=_;rw[UC];exact decide_eq_decide.mpr ⟨λh=>by rw[h],λh=>by cases h;rfl⟩
 .rfl
 .rfl
theorem CF(a b:Mn):QO.eqv (mD a) (mD b)=decide (a=b):=by
 rw[IE,IE];show(decide (wd a=wd b)&&QO.eqvAll (mR a) (mR b))=_;rw[NQ];by_cases h:wn a=wn b
 .rw[a4 h,UA,Ll a b h]
 .rw[a5 h,Wg,a5 λz=>h (by rw[z])]
theorem KS(ha:LB a)(d:LB b):br (mD a) (mD b)=cL (.fz (.bool (decide (a=b)))):=by unfold br;rw[uH ha,oz d,SS,ax rfl,CF]
theorem r6:∀{l:bb Mn},(∀m∈l,LB m)->QO.canLayAll0 (l.map mD)=QM
 |[],_=>rfl
 |m::r,h=>by show(QO.canLay0 (mD m)&&QO.canLayAll0 (r.map mD))=QM;rw[oz (h m Q2),r6 λx a=>h x (Q0 _ a)];rfl
theorem tE(a:Mn):∀l:bb Mn,((l.map mD).any λe=>QO.eqv e (mD a))=decide (a∈l)
 |[]=>rfl
 |m::r=>by
  rw[Q7,Tt,tE a r,CF,<-Bool.decide_or]
  grind
theorem GM{l:bb Mn}(ha:LB a)(b:∀m∈l,LB m):nN (mD a) (.list (l.map mD))=cL (.fz (.bool (decide (a∈l)))):=by show(if(i7 (mD a)&&QO.canLayAll0 (l.map mD))=QM then _ else _)=_;rw[uH ha,r6 b,SS,ax rfl,tE]
theorem B8{l:bb Mn}(ha:LB a)(b:∀m∈l,LB m):jX (mD a) (.list (l.map mD))=cL (.fz (.bool (!decide (a∈l)))):=by show(if(i7 (mD a)&&QO.canLayAll0 (l.map mD))=QM then _ else _)=_;rw[uH ha,r6 b,SS,ax rfl,tE]
theorem xN(e:α->D)(g:α->bg D)(I:aQ->Prop)(xs:bb α)(o:I ρ)(f:xs.length<=1000)(b:∀x∈xs,∀ρ,I ρ->∃ρ',jN gt ft fe (e x) ρ=.ok (g x,ρ')/\I ρ'):iZ (cP gt ft fe (xs.map e) ρ [])=.ok (xs.filterMap g):=by
 have h:∀(xs:bb α) (a:bb D) (ρ:aQ),I ρ->a.length+xs.length<=1000->(∀x∈xs,∀ρ,I ρ->∃ρ',jN gt ft fe (e x) ρ=.ok (g x,ρ')/\I ρ')->cP gt ft fe (xs.map e) ρ a=.ok (a++xs.filterMap g):=by
  intro xs
  induction xs with
  |nil=>intro a ρ _ _ _;show Res.ok a=_;simp_all
  |cons x r i=>
   intro a ρ l f b;rw[QZ]at f;obtain⟨ρ',n,m⟩:=b x Q2 ρ l;rw[Q7,pB n (by ext)];have d:(a++(g x).toList).length+r.length<=1000:=by
    rw[Q1];cases g x with
    |none=>rw[Xy,Sz];ext
    |some y=>rw[Option.toList_some,TZ];ext
   rw[i _ ρ' m d λy j=>b y (Q0 _ j),Sa];cases q:g x with
   |none=>rw[UD q];rfl
   |some y=>rw[UE q];rfl
 rw[h xs [] ρ o (by simpa using f) b];rfl
theorem yC(a:cN cp=cp):cN (cL (PV.fz d)::cp)=cL (.fz d)::cp:=by show Ae _::cN cp=_;rw[a];rfl
theorem iz{α:Type}{ft:FT}{fe:FE}{a:aQ}(e f:α->D)(p:α->Bool)(xs:bb α)(i:xs.length<=1000)(l:cN a=a)(g:∀x∈xs,ft (cL (.fz (e x))::a)=.ok (p x,cL (.fz (e x))::a))(j:∀x∈xs,p x=QM->fe (cL (.fz (e x))::a)=.ok (.fz (f x),cL (.fz (e x))::a)):iZ (cP (gN 0) ft fe (xs.map e) (lD::a) [])=.ok ((xs.filter p).map f):=by
 rw[xN e (λx=>if p x=QM then cL (f x)else lD) (λρ=>∃o,ρ=o::a) xs ⟨lD,rfl⟩ i ?_]
 .congr 1
  clear i g j
  induction xs with
  |nil=>rfl
  |cons x r h=>
   cases q:p x with
   |true=>rw[UE (b:=f x) (by rw[ax q]),List.filter_cons_of_pos q,h];rfl
   |false=>rw[UD (by rw[a3 (by rw[q];simp)]),List.filter_cons_of_neg (by rw[q];simp),h]
 .rintro x d ρ ⟨o,rfl⟩
  cases q:p x with
  |true=>exact⟨_,Gj rfl ((g x d).trans (by rw[q])) (j x d q) rfl (yC l),_,rfl⟩
  |false=>exact⟨_,Oh rfl ((g x d).trans (by rw[q])) (yC l),_,rfl⟩
theorem wO(xs:bb α):xs.filter (λ_=>QM)=xs:=List.filter_eq_self.mpr λ_ _=>rfl
theorem l7{α:Type}(e f:α->D)(xs:bb α)(b:xs.length<=1000)(g:cN cp=cp)(d:∀x∈xs,fe (cL (.fz (e x))::cp)=.ok (.fz (f x),cL (.fz (e x))::cp)):iZ (cP (gN 0) ef fe (xs.map e) (lD::cp) [])=.ok (xs.map f):=by rw[iz e f (λ_=>QM) xs b g (λ_ _=>rfl) λx a _=>d x a,wO]
theorem oW(p:α->Bool):∀l:bb α,nv (l.map λc=>QO.bool (p c))=cL (l.map p)
 |[]=>rfl
 |c::r=>by show(nv (r.map λc=>QO.bool (p c))).map (p c::·)=_;rw[oW p r];rfl
theorem DZ(p:α->Bool)(l:bb α):zh [.list (l.map λc=>QO.bool (p c))]=cL (.fz (.bool (l.all p))):=by show(nv _).map (λbs=>RV.fz (.bool (bs.all id)))=_;rw[oW];simp_all
theorem jG:∀ns:bb Int,jB (ns.map QO.int)=cL ns
 |[]=>rfl
 |n::r=>by show(jB (r.map QO.int)).map (n::·)=_;rw[jG r];rfl
abbrev Ac:=Nat->bg Mn
abbrev Wq:=bg (bb Nat×Int×bg (Nat×Int))
structure SK where
 ac:Ac
 wt:Wq
 oc:bg Int
def ei(ac:Ac):bb (Nat×Mn):=(Rc 5).filterMap λk=>(ac k).map λa=>(k,a)
def pD(p:Nat×Mn):D:=.tuple [nd p.1,mD p.2]
def iW:bg (Nat×Int)->D
 |some (c,n)=>mD (.U8 c n)
 |none=>.tuple [.str "chord"]
def fm:Wq->D
 |some (ks,a,w)=>.tuple [.tuple (aB ks),.int a,iW w]
 |none=>.none
def kS:bg Int->D
 |some o=>.int o
 |none=>.none
def fu(s:SK):D:=.tuple [.tuple ((ei s.ac).map pD),fm s.wt,kS s.oc]
inductive UR where
 |down (k:Nat)
 |up (k:Nat)
 |turn
def cZ:UR->D
 |.down k=>.tuple [.str "down",nd k]
 |.up k=>.tuple [.str "up",nd k]
 |.turn=>.tuple [.str "turn",.int 0]
theorem jr:p∈ei ac↔p.1<5/\ac p.1=cL p.2:=by
 unfold ei;rw[S6];constructor
 .rintro⟨k,d,b⟩
  cases q:ac k with
  |none=>simp_all
  |some a=>rw[q]at b;cases b;exact⟨SH.mp d,q⟩
 .rintro⟨d,b⟩;exact⟨p.1,SH.mpr d,by rw[b];rfl⟩
theorem nS(ac:Ac):(ei ac).length<=5:=WN _ _
def vv:Nat×Mn->bg Int
 |(_,.Sr n)=>cL n
 |_=>lD
def ny(ac:Ac):Int:=(((ei ac).filterMap vv).foldl kq lD).getD 0
def gR(ac:Ac):bg Int->Int
 |some o=>o
 |none=>ny ac
theorem C7(ac:Ac):iZ (cP (gT 2 (JO (gN 0) (JO (gN 1) Nw))) (ar (au br (au aC (aa 1) (~~~0)) (pC (.str "layer")))) (au aC (aa 1) (~~~1)) ((ei ac).map pD) [lD,lD] [])=.ok (((ei ac).filterMap vv).map .int):=by
 rw[xN pD (λp=>(vv p).map .int) (λρ=>∃d b,ρ=[d,b]) (ei ac) ⟨lD,lD,rfl⟩ (Rp (nS ac) (by decide)) ?_,X5];rintro⟨k,a⟩ _ ρ ⟨d,b,rfl⟩;have e1:=jI a;have e2:=vk a;have e:ar (au br (au aC (aa 1) (~~~0)) (pC (.str "layer"))) [cL (.fz (nd k)),cL (.fz (mD a))]=.ok (a.V1,[cL (.fz (nd k)),cL (.fz (mD a))]):=by fail "ev"
 refine⟨[cL (.fz (nd k)),cL (.fz (mD a))],?_,_,_,rfl⟩;cases a with
 |Sr n=>exact Gj rfl e (av (ah rfl) aw rfl rfl ig) rfl rfl
 |_=>exact Oh rfl e rfl
theorem oV(s:SK):dh [fu s]=.ok (.fz (.int (gR s.ac s.oc))):=by
 refine kL rfl ?_;have e2:aC (fu s) (.int 2)=cL (.fz (kS s.oc)):=kA;have e0:aC (fu s) (.int 0)=cL (.fz (.tuple ((ei s.ac).map pD))):=gQ;unfold ic;cases q:s.oc with
 |some o=>
  rw[q]at e2;have e3:gS (kS (cL o)) .none=cL (.fz (.bool QM)):=rfl;fail "go"
  .intro _;exact fK (by fail "ev") rfl rfl
  .intro h;cases h
 |none=>
  rw[q]at e2;have e3:gS (kS lD) .none=cL (.fz (.bool QP)):=rfl;fail "go"
  .intro h;cases h
  .intro _;refine cT (ez (bX (rv:=.fz (.int (ny s.ac))) (am (cB (by fail "ev") rfl (C7 s.ac)) ay) rfl ?_) rfl rfl);show(jB _).map _=_;rw[jG];rfl
def iP(b:Bd)(L k:Nat):Mn:=((b.ls[L]?.getD [])[k]?).getD .none
def look(b:Bd)(L:Int)(k:Nat):Mn:=if(iP b L.toNat k).ZH=QM then iP b 0 k else iP b L.toNat k
section
variable{b:Bd}(Z:VB b)
include Z
theorem HG{L k:Nat}(a:L<b.ls.length)(d:(k:Int)<b.n):∃l,b.ls[L]?=cL l/\l[k]?=cL (iP b L k):=by
 have f:=Z.vl L _ (QY a);have e:k<(b.ls[L]).length:=by ext
 refine⟨_,QY a,?_⟩;unfold iP;simp_all
theorem sF{L k:Nat}(d:L<b.ls.length)(a:(k:Int)<b.n):VM L b.ls.length (iP b L k):=by obtain⟨l,f,e⟩:=HG Z d a;exact(Z.vl L l f).2 _ (RO e)
theorem qI{L k:Nat}(e:L<b.ls.length)(a:(k:Int)<b.n):∃d,aC (.tuple (b.ls.map cj)) (nd L)=cL (.fz d)/\aC d (nd k)=cL (.fz (mD (iP b L k))):=by obtain⟨l,f,g⟩:=HG Z e a;exact⟨cj l,Ex (by rw[Q5,f];rfl),Ex (by simp_all)⟩
theorem Gd{L:Int}{k:Nat}(i:0<=L)(h:L<b.ls.length)(e:(k:Int)<b.n):iG [bD b,.int L,nd k]=.ok (.fz (mD (look b L k))):=by
 obtain⟨n,rfl⟩:∃n:Nat,L=(n:Int):=⟨L.toNat,by ext⟩;have g:=Z.l1;obtain⟨d,e2,e3⟩:=qI Z (L:=n) (by ext) e;obtain⟨f,e4,e5⟩:=qI Z (L:=0) (by ext) e;have e1:aC (bD b) (.int 1)=cL (.fz (.tuple (b.ls.map cj))):=ig;have e6:=jI (iP b n k);have e7:=CZ (iP b n k);have e8:aC (.tuple (b.ls.map cj)) (.int 0)=cL (.fz f):=e4;have a:look b (n:Int) k=if(iP b n k).ZH=QM then iP b 0 k else iP b n k:=rfl
 rw[a];generalize iP b n k=m at e3 e6 e7 a;generalize iP b 0 k=m0 at e5 a;refine kL rfl ?_;unfold gu;fail "go"
 .intro q;rw[ax q];exact fK (by fail "ev") rfl rfl
 .intro q;rw[a3 (by rw[q];simp)];exact cT (ez (by fail "ev") rfl rfl)
theorem nK{L:Int}{k:Nat}(f:0<=L)(h:L<b.ls.length)(e:(k:Int)<b.n):VM L b.ls.length (look b L k)/\look b L k≠.below:=by
 have g:=Z.l1;have a:=sF Z (L:=0) (k:=k) (by ext) e;have v:=sF Z (L:=L.toNat) (k:=k) (by ext) e;have d:iP b 0 k≠.below:=λz=>by rw[z]at a;exact a rfl
 rw[Tn f]at v;unfold look;split
 .refine⟨?_,d⟩
  generalize iP b 0 k=m at a d;cases m with
  |below=>exact a7 rfl d
  |_=>exact a
 .rename_i q;refine⟨v,λz=>?_⟩;rw[z]at q;exact q rfl
omit Z in
theorem BX(ks:bb Nat)(a:ks.length<=5)(c:bb Nat×Nat):ar (dR zh {cG 1 [0] (gn (aa 1)) (gN 0) ef (au nN (aa 0) (au aC (aa 1) (~~~0)))}) [cL (.fz (a9 c)),cL (.fz (.tuple (aB ks)))]=.ok (ks.all λk=>decide (k∈c.1),[cL (.fz (a9 c)),cL (.fz (.tuple (aB ks)))]):=by
 have e:iZ (cP (gN 0) ef (au nN (aa 0) (au aC (aa 1) (~~~0))) (aB ks) [lD,cL (.fz (a9 c))] [])=.ok (ks.map λk=>.bool (decide (k∈c.1))):=l7 nd (λk=>.bool (decide (k∈c.1))) ks (by ext) rfl λk _=>by have e0:aC (a9 c) (.int 0)=cL (.fz (.tuple (aB c.1))):=gQ;exact av (rv:=.fz (.bool (decide (k∈c.1)))) (ah rfl) (by fail "ev") rfl rfl (lc _ _)
 exact aR (bX (rv:=.fz (.bool (ks.all λk=>decide (k∈c.1)))) (ds:=[.list (ks.map λk=>.bool (decide (k∈c.1)))]) (am (cB (cs:=[a9 c]) (ds:=aB ks) (by fail "ev") rfl e) ay) rfl (DZ _ _)) rfl
def bF(b:Bd)(ks:bb Nat):bb (bb Nat×Nat):=b.cs.filter λc=>ks.all λk=>decide (k∈c.1)
theorem wV(a:ks.length<=5):bG [bD b,.tuple (aB ks)]=.ok (.ow ((bF b ks).map a9)):=by have e2:aC (bD b) (.int 2)=cL (.fz (.tuple (b.cs.map a9))):=kA;have d:=Z.c4;refine kL rfl ?_;unfold eF;exact ez (cB (cs:=[.tuple (aB ks)]) (by fail "ev") rfl (iz a9 a9 (λc=>ks.all λk=>decide (k∈c.1)) b.cs (by ext) rfl (λc _=>BX ks a c) λc _ _=>ah rfl)) rfl rfl
def gG(ks:bb Nat):bb Nat:=(jM (ks.map V0)).map W9
omit Z in
theorem nX(ks:bb Nat):(gG ks).Perm ks:=by have h:=(eZ (ks.map V0)).map W9;rw[Rv]at h;exact h.trans (by rw[show(W9∘V0)=id from funext λx=>rfl,List.map_id])
omit Z in
theorem F3(ks:bb Nat):(jM (ks.map V0)).map QO.int=aB (gG ks):=by unfold gG aB;rw[Rv];refine T6 λx a=>?_;obtain⟨n,_,rfl⟩:=RP.mp ((eZ _).mem_iff.mp a);rfl
omit Z in
theorem wC(ks:bb Nat):(gG ks).Pairwise (·<=·):=by
 have h:∀l:bb Int,l.Pairwise (·<=·)->(l.map W9).Pairwise (·<=·):=λl h=>by rw[Us];exact h.imp λh=>by ext
 exact h _ (d6 _)
omit Z in
theorem FU(ks:bb Nat):(gG ks).length=ks.length:=(nX ks).length_eq
omit Z in
theorem nr{ks:bb Nat}(h:ks.length<64):L9.eP [.tuple (aB ks)]=cL (.ow (aB (gG ks))):=by
 have e:aB ks=(ks.map V0).map QO.int:=by rw[Rv];rfl
 show(match jB (aB ks)with
  |some a=>if a.length<64 then cL (RV.ow ((jM a).map .int))else lD
  |none=>lD)=_
 rw[e,jG];dsimp only;rw[ax (by rw[QQ];exact h),F3]
def o0(b:Bd)(ks:bb Nat):bb Mn:=match b.cs.find? λc=>decide (c.1=gG ks)with
 |some c=>.Q6 c.2::QX (ks.length - 1) .none
 |none=>ks.map (iP b 0)
omit Z in
theorem yH(b:Bd){ks:bb Nat}(h:1<=ks.length):(o0 b ks).length=ks.length:=by
 unfold o0;split
 .rw[QZ,RZ];ext
 .rw[QQ]
omit Z in
theorem N3(n:Nat)(d:D):(QX n [d]).flatten=QX n d:=by
 induction n with
 |zero=>rfl
 |succ n a=>rw[RY,SQ,a];rfl
theorem Ju{ks:bb Nat}(G:1<=ks.length)(F:ks.length<=5)(B:∀k∈ks,(k:Int)<b.n):fE [bD b,.tuple (aB ks)]=.ok (.ow ((o0 b ks).map mD)):=by
 have e2:aC (bD b) (.int 2)=cL (.fz (.tuple (b.cs.map a9))):=kA;have e1:aC (bD b) (.int 1)=cL (.fz (.tuple (b.ls.map cj))):=ig;have E:=Z.l1;have i:=nr (ks:=ks) (by ext);refine kL rfl ?_;unfold fH;have rt:∀c:bb Nat×Nat,(au ci (cz {aN {pC (.str "letter"),au aC (aa 2) (~~~1)}}) (au dS (cz {pC (.tuple [(.str "none")])}) (au mG (dR de {aa 1}) (~~~1)))) [cL (.fz (bD b)),cL (.fz (.tuple (aB ks))),cL (.fz (a9 c))]=.ok (.ow ((Mn.Q6 c.2::QX (ks.length - 1) Mn.none).map mD),[cL (.fz (bD b)),cL (.fz (.tuple (aB ks))),cL (.fz (a9 c))]):=λc=>by
  have l:aC (a9 c) (.int 1)=cL (.fz (.str (cW c.2))):=ig;have j:dS (.list [.tuple [.str "none"]]) (.int (((aB ks).length:Int) - 1))=cL (.ow (QX (ks.length - 1) (.tuple [.str "none"]))):=by rw[b9,show((ks.length:Int) - 1)=((ks.length - 1:Nat):Int) by ext];exact(KU (by ext) (by decide)).trans (by rw[N3])
  have y:ci (.list [mD (.Q6 c.2)]) (.list (QX (ks.length - 1) (.tuple [.str "none"])))=cL (.ow ((Mn.Q6 c.2::QX (ks.length - 1) Mn.none).map mD)):=by show(if 1+(QX (ks.length - 1) (QO.tuple [.str "none"])).length<=1000000 then cL (RV.ow ([mD (.Q6 c.2)]++QX (ks.length - 1) (QO.tuple [.str "none"])))else lD)=_;rw[RZ,ax (by ext),Q7,List.map_replicate];rfl
  exact av (by fail "ev") (av (by fail "ev") (av (by fail "ev") aw rfl rfl (vP _ _)) rfl rfl j) rfl rfl y
 have e:∀(a:bb (bb Nat×Nat)) (o:bg PV),(∀c,a.find? (λc=>decide (c.1=gG ks))=cL c->nF (gN 2) (jb (ar (au br (dR mU {au aC (aa 2) (~~~0)}) (dR L9.eP {aa 1}))) (cY (au ci (cz {aN {pC (.str "letter"),au aC (aa 2) (~~~1)}}) (au dS (cz {pC (.tuple [(.str "none")])}) (au mG (dR de {aa 1}) (~~~1))))) c9) (a.map a9) [cL (.fz (bD b)),cL (.fz (.tuple (aB ks))),o]=.ok (.rt (.ow ((Mn.Q6 c.2::QX (ks.length - 1) Mn.none).map mD))))/\
   (a.find? (λc=>decide (c.1=gG ks))=lD->∃u,nF (gN 2) (jb (ar (au br (dR mU {au aC (aa 2) (~~~0)}) (dR L9.eP {aa 1}))) (cY (au ci (cz {aN {pC (.str "letter"),au aC (aa 2) (~~~1)}}) (au dS (cz {pC (.tuple [(.str "none")])}) (au mG (dR de {aa 1}) (~~~1))))) c9) (a.map a9) [cL (.fz (bD b)),cL (.fz (.tuple (aB ks))),o]=.ok (.nx [cL (.fz (bD b)),cL (.fz (.tuple (aB ks))),u])):=by
  intro a
  induction a with
  |nil=>exact λo=>⟨λc h=>(by cases h),λ_=>⟨o,rfl⟩⟩
  |cons c r A=>
   intro o;have C:aC (a9 c) (.int 0)=cL (.fz (.tuple (aB c.1))):=gQ
   have f:ar (au br (dR mU {au aC (aa 2) (~~~0)}) (dR L9.eP {aa 1})) [cL (.fz (bD b)),cL (.fz (.tuple (aB ks))),cL (.fz (a9 c))]=.ok (decide (c.1=gG ks),[cL (.fz (bD b)),cL (.fz (.tuple (aB ks))),cL (.fz (a9 c))]):=
    aR (av (bX (by fail "ev") rfl rfl) (bX (by fail "ev") rfl i) rfl rfl (lN _ _)) rfl
   rw[Sy];by_cases h:c.1=gG ks
   .rw[a4 h]at f⊢;refine⟨λH t=>?_,λt=>(by cases t)⟩;cases t;show((gN 2 (.fz (a9 c)) [cL (.fz (bD b)),cL (.fz (.tuple (aB ks))),o]).bind λg=>_)=_;rw[Dp,ea];show((jb _ _ _ [cL (.fz (bD b)),cL (.fz (.tuple (aB ks))),cL (.fz (a9 c))]).bind _)=_;rw[O0 f,sO (rt c) rfl];rfl
   .rw[a5 h]at f⊢
    have w:nF (gN 2) (jb (ar (au br (dR mU {au aC (aa 2) (~~~0)}) (dR L9.eP {aa 1}))) (cY (au ci (cz {aN {pC (.str "letter"),au aC (aa 2) (~~~1)}}) (au dS (cz {pC (.tuple [(.str "none")])}) (au mG (dR de {aa 1}) (~~~1))))) c9) ((c::r).map a9) [cL (.fz (bD b)),cL (.fz (.tuple (aB ks))),o]=nF (gN 2) (jb (ar (au br (dR mU {au aC (aa 2) (~~~0)}) (dR L9.eP {aa 1}))) (cY (au ci (cz {aN {pC (.str "letter"),au aC (aa 2) (~~~1)}}) (au dS (cz {pC (.tuple [(.str "none")])}) (au mG (dR de {aa 1}) (~~~1))))) c9) (r.map a9) [cL (.fz (bD b)),cL (.fz (.tuple (aB ks))),cL (.fz (a9 c))]:=by show((gN 2 (.fz (a9 c)) [cL (.fz (bD b)),cL (.fz (.tuple (aB ks))),o]).bind λg=>_)=_;rw[Dp,ea];show((jb _ _ _ [cL (.fz (bD b)),cL (.fz (.tuple (aB ks))),cL (.fz (a9 c))]).bind _)=_;rw[Pd f];rfl
    rw[w];exact A _
 obtain⟨z,m⟩:=e b.cs lD;have v:gn (au aC (aa 0) (~~~2)) [cL (.fz (bD b)),cL (.fz (.tuple (aB ks))),lD]=.ok (b.cs.map a9,[cL (.fz (bD b)),cL (.fz (.tuple (aB ks))),lD]):=by fail "ev"
 unfold o0;cases q:b.cs.find? λc=>decide (c.1=gG ks)with
 |some c=>exact .eq (Dz ((vD v).trans (z c q))) ⟨rfl⟩
 |none=>obtain⟨u,m⟩:=m q;refine .eq (vA ((vD v).trans m)) ?_;refine ez (cB (by fail "ev") rfl ?_) rfl rfl;rw[Rv];refine l7 nd (mD∘iP b 0) ks (by ext) rfl λk p=>?_;obtain⟨d,l,j⟩:=qI Z (L:=0) (by ext) (B k p);have l:aC (.tuple (b.ls.map cj)) (.int 0)=cL (.fz d):=l;exact av (by fail "ev") (ah rfl) rfl rfl j
end
end STP
local macro_rules|`(-($x))=>`(Option.some (.fz $x))
namespace STP
open PySem L2 L3
open L10
def iA(p:Nat×Mn):bK×SV:=(.inl (p.1:Int),.fz (mD p.2))
def gJ(ac:Ac)(k:Nat)(o:bg Mn):Ac:=λj=>if j=k then o else ac j
theorem dD:gJ ac k o k=o:=by unfold gJ;simp_all
theorem fV(h:j≠k):gJ ac k o j=ac j:=by unfold gJ;rw[a3 h]
theorem Av(ac:Ac):(ei ac).Pairwise λp q=>p.1<q.1:=by
 unfold ei;refine aaW _ (λa f h p d q b=>?_) (UQ);cases e:ac a with
 |none=>simp_all
 |some x=>
  cases e':ac f with
  |none=>simp_all
  |some y=>rw[e]at d;rw[e']at b;cases d;cases b;exact h
theorem oA(ac:Ac):((ei ac).map (·.1)).Nodup:=by rw[abO,Us];exact(Av ac).imp λh=>Ri h
theorem yq{l:bb (Nat×Mn)}(h:(l.map (·.1)).Nodup):l.Nodup:=by rw[abO,Us]at h;exact h.imp λh e=>h (by rw[e])
theorem oZ{l:bb (Nat×Mn)}(h:(l.map (·.1)).Nodup)(hm:∀p,p∈l↔p.1<5/\ac p.1=cL p.2):l.Perm (ei ac):=
 (Wj (yq h) (yq (oA ac))).mpr λp=>(hm p).trans jr.symm
section
variable{Z:bb (Nat×Mn)}{ac:Ac}(Y:Z.Perm (ei ac))
include Y
theorem ia:p∈Z↔p.1<5/\ac p.1=cL p.2:=Y.mem_iff.trans jr
theorem Ad:(Z.map (·.1)).Nodup:=(Y.map (·.1)).nodup_iff.mpr (oA ac)
theorem oQ:Z.length<=5:=by rw[Y.length_eq];exact nS ac
theorem gO{k:Nat}(d:k<5):eD (Z.map iA) (.inl (k:Int))=(ac k).map λa=>SV.fz (mD a):=by
 unfold eD;cases q:(Z.map iA).find? λb=>decide (b.1=(.inl (k:Int):bK))with
 |none=>
  cases e:ac k with
  |none=>rfl
  |some a=>have:=X6.mp q (iA (k,a)) (RP.mpr ⟨(k,a),(ia Y).mpr ⟨d,e⟩,rfl⟩);exact a7 (a4 rfl) this
 |some b=>
  obtain⟨p,h,rfl⟩:=RP.mp (Uo q);have g:=a6 (Y2 (p:=λb:bK×SV=>decide (b.1=(.inl (k:Int):bK))) q);have f:p.1=k:=by have:=Sum.inl.inj g;ext
  rw[<-f,((ia Y).mp h).2];rfl
theorem ya{k:Nat}(n:k<5):∃qs:bb (Nat×Mn),cH (Z.map iA) (.inl (k:Int)) (.fz (mD a))=qs.map iA/\qs.Perm (ei (gJ ac k (cL a))):=by
 unfold cH;have g:∀p:Nat×Mn,((iA p).1=(.inl (k:Int):bK))↔p.1=k:=λp=>⟨λh=>by have:=Sum.inl.inj h;ext,λh=>by rw[<-h];rfl⟩;split
 .rename_i h
  refine⟨Z.map λp=>if p.1=k then(k,a)else p,?_,oZ ?_ λp=>?_⟩
  .rw[Rv,Rv]
   refine T6 λp _=>?_;show(if(iA p).1=(.inl (k:Int):bK)then((iA p).1,SV.fz (mD a))else iA p)=iA (if p.1=k then(k,a)else p);by_cases e:p.1=k
   .rw[ax ((g p).mpr e),ax e,(g p).mpr e];rfl
   simp_all
  .rw[Rv,show Z.map ((·.1)∘λp:Nat×Mn=>if p.1=k then(k,a)else p)=Z.map (·.1)from T6 λp _=>by
    show(if p.1=k then(k,a)else p).1=p.1;split
    .rename_i e;exact e.symm
    .rfl]
   exact Ad Y
  .obtain⟨v,j,i⟩:=S0.mp h
   obtain⟨m,u,rfl⟩:=RP.mp j;have b:=(g m).mp (a6 i);rw[RP];constructor
   .rintro⟨r,t,rfl⟩
    split
    .exact⟨n,dD⟩
    .rename_i e;have:=(ia Y).mp t;exact⟨this.1,by rw[fV e];exact this.2⟩
   .rintro⟨d,f⟩
    by_cases e:p.1=k
    .rw[e,dD]at f;refine⟨m,u,?_⟩;rw[ax b,<-e,Ra f]
    .rw[fV e]at f;exact⟨p,(ia Y).mpr ⟨d,f⟩,by rw[a3 e]⟩
 .rename_i h
  have hn:=λp l e=>h (S0.mpr ⟨iA p,RP.mpr ⟨p,l,rfl⟩,a4 ((g p).mpr e)⟩);refine⟨Z++[(k,a)],by rw[RI];rfl,oZ ?_ λp=>?_⟩
  .rw[RI,Ut];refine⟨Ad Y,Sw.mpr ⟨Sq,Vd⟩,λx q y o=>?_⟩;obtain⟨p,b,rfl⟩:=RP.mp q;rw[Rn.mp o];exact hn p b
  .rw[R9,Rn]
   constructor
   .rintro(b|rfl)
    .have:=(ia Y).mp b;exact⟨this.1,by rw[fV (hn p b)];exact this.2⟩
    .exact⟨n,dD⟩
   .rintro⟨b,d⟩
    by_cases e:p.1=k
    .rw[e,dD]at d;exact .inr (by rw[<-e,Ra d])
    .rw[fV e]at d;exact .inl ((ia Y).mpr ⟨b,d⟩)
theorem uT{k:Nat}:∃qs:bb (Nat×Mn),iM (Z.map iA) (.inl (k:Int))=qs.map iA/\qs.Perm (ei (gJ ac k lD)):=by
 have f:∀p:Nat×Mn,((iA p).1=(.inl (k:Int):bK))↔p.1=k:=λp=>⟨λh=>by have:=Sum.inl.inj h;ext,λh=>by rw[<-h];rfl⟩;refine⟨Z.filter λp=>decide (p.1≠k),?_,oZ ?_ λp=>?_⟩
 .unfold iM;rw[List.filter_map];congr 1;refine List.filter_congr λp _=>?_;exact decide_eq_decide.mpr (not_congr (f p))
 .exact aex ((Vk).map _) (Ad Y)
 .rw[RT,ia Y,decide_eq_true_eq]
  constructor
  .rintro⟨⟨b,a⟩,d⟩;exact⟨b,by rw[fV d];exact a⟩
  .rintro⟨b,a⟩
   by_cases e:p.1=k
   .rw[e,dD]at a;cases a
   .rw[fV e]at a;exact⟨⟨b,a⟩,e⟩
theorem uI:aD wz ((Z.map iA).map (·.1))=cL (Z.map λp=>(p.1:Int)):=by
 clear Y
 induction Z with
 |nil=>rfl
 |cons p r a=>rw[Q7,Q7];unfold aD;rw[a];rfl
theorem ub:jM (Z.map λp=>(p.1:Int))=(ei ac).map λp=>(p.1:Int):=by refine ki ((eZ _).trans (Y.map _)) (d6 _) ?_;rw[Us];exact(Av ac).imp λh=>by ext
end
abbrev Sn:=bb (Nat×Bool)
def gC(ac:Ac)(a:Mn):Bool:=decide (a∈(ei ac).map (·.2))
def jH(ac:Ac):Mn->Sn
 |.Q6 c=>if gC ac (.Q6 c)=QM then[]else[(c,QM)]
 |_=>[]
def zV(ac:Ac):Mn->Sn
 |.Q6 c=>if gC ac (.Q6 c)=QM then[]else[(c,QP)]
 |_=>[]
def dJ(p:SK×Sn)(k:Nat)(a:Mn):SK×Sn:=({p.1 with ac:=gJ p.1.ac k (cL a)},p.2++jH p.1.ac a)
def go(p:SK×Sn)(k:Nat):SK×Sn:=match p.1.ac k with
 |some a=>({p.1 with ac:=gJ p.1.ac k lD},p.2++zV (gJ p.1.ac k lD) a)
 |none=>p
def eh(p:SK×Sn)(a:bb (Nat×Mn)):SK×Sn:=a.foldl (λp q=>dJ p q.1 q.2) p
def gB(b:Bd)(ks:bb Nat):bg (Nat×Int)->bb Mn
 |some (_,n)=>[.Sr n]
 |none=>o0 b ks
def bt(b:Bd)(p:SK×Sn):SK×Sn:=match p.1.wt with
 |none=>p
 |some (ks,_,w)=>eh ({p.1 with wt:=lD},p.2) (ks.zip (gB b ks w))
def p8:Wq->Nat->Bool
 |some (ks,_,_),k=>decide (k∈ks)
 |none,_=>QP
def lB(b:Bd)(s:SK)(k:Nat):Bool:=match s.wt with
 |some (ks,_,lD)=>decide (gR s.ac s.oc=0)&& !(bF b (ks++[k])).isEmpty
 |_=>QP
def jz(b:Bd)(p:SK×Sn)(k:Nat):SK×Sn:=match p.1.wt with
 |some (ks,g,_)=>if(bF b (ks++[k])).map (·.1.length)=[(ks++[k]).length]then bt b ({p.1 with wt:=cL (ks++[k],g,lD)},p.2)else({p.1 with wt:=cL (ks++[k],g,lD)},p.2)
 |none=>p
def cC(s:SK)(m:Mn):SK:=if(m.V1||m.Yc)=QM then s else{s with oc:=lD}
def kU(b:Bd)(L:Int)(p:SK×Sn)(k:Nat):Mn->SK×Sn
 |.U8 c n=>({p.1 with wt:=cL ([k],0,cL (c,n))},p.2)
 |.Q6 c=>if(decide (L=0)&& !(bF b [k]).isEmpty)=QM then({p.1 with wt:=cL ([k],0,lD)},p.2)else dJ p k (.Q6 c)
 |.once n=>({(dJ p k .none).1 with oc:=cL n},(dJ p k .none).2)
 |m=>dJ p k m
def uJ(b:Bd)(p:SK×Sn)(k:Nat):SK×Sn:=
 kU b (gR p.1.ac p.1.oc) (cC p.1 (look b (gR p.1.ac p.1.oc) k),p.2) k (look b (gR p.1.ac p.1.oc) k)
def gK(b:Bd)(p:SK×Sn)(k:Nat):SK×Sn:=
 if((p.1.ac k).isSome||p8 p.1.wt k)=QM then p else if lB b p.1 k=QM then jz b p k else uJ b (bt b p) k
def bu(b:Bd)(p:SK×Sn)(k:Nat):SK×Sn:=match p.1.wt with
 |some (_,_,lD)=>bt b p
 |some (_,_,cL (c,_))=>dJ ({p.1 with wt:=lD},p.2) k (.Q6 c)
 |none=>p
def qj(b:Bd)(p:SK×Sn)(k:Nat):SK×Sn:=go (if p8 p.1.wt k=QM then bu b p k else p) k
def fR(b:Bd)(p:SK×Sn):SK×Sn:=match p.1.wt with
 |none=>p
 |some (ks,g,w)=>if g+1=b.wt then bt b ({p.1 with wt:=cL (ks,g+1,w)},p.2)else({p.1 with wt:=cL (ks,g+1,w)},p.2)
def cQ(b:Bd)(s:SK):UR->SK×Sn
 |.down k=>gK b (s,[]) k
 |.up k=>qj b (s,[]) k
 |.turn=>fR b (s,[])
def Hj(b:Bd)(s:SK):bb (Str×SV):=[("bed",.fz (bD b)),("acts",.rf 1),("waiting",.fz (fm s.wt)),("once",.fz (kS s.oc)),("sent",.rf 2)]
def ja(p:Nat×Bool):D:=.tuple [.str (cW p.1),.str (if p.2=QM then "down" else "up")]
def dW(b:Bd)(s:SK)(sn:Sn)(ps:bb (Nat×Mn))(J:aW):aW:=.obj "Hand" (Hj b s):: .Te (ps.map iA):: .lst ((sn.map ja).map .fz)::J
def HS(b:Bd)(p:SK×Sn)(ω:aW):Prop:=∃ps J,ps.Perm (ei p.1.ac)/\ω=dW b p.1 p.2 ps J
section
variable{b:Bd}{s:SK}{sn:Sn}{Z:bb (Nat×Mn)}{J:aW}{ρ:aZ}{i:Nat}{ω:aW}{p:SK×Sn}{k:Nat}{a:Mn}
theorem KC:(Hj b s).lookup ("bed":Str)=-(bD b):=by rfl
theorem Hz:(Hj b s).lookup ("acts":Str)=cL (.rf 1):=by rfl
theorem GX:(Hj b s).lookup ("waiting":Str)=-(fm s.wt):=by rfl
theorem Fi:(Hj b s).lookup ("once":Str)=-(kS s.oc):=by rfl
theorem Gi:(Hj b s).lookup ("sent":Str)=cL (.rf 2):=by rfl
def OT(m:Str):Bool:=(m== "bed"||m== "acts"||m== "waiting"||m== "once"||m== "sent")==QP
theorem Mz(h:OT m=QM):(Hj b s).lookup m=lD:=by unfold OT at h;simp only[beq_iff_eq,Ve]at h;obtain⟨⟨⟨⟨j,g⟩,f⟩,e⟩,d⟩:=h;unfold Hj;simp_all
theorem mr(h:ρ[i]?=cL (cL (.rf 0))):bE "Hand" "bed" (aq i) ρ (dW b s sn Z J)=.ok (.fz (bD b)) (dW b s sn Z J):=oy (aU h) rfl KC
theorem gM(h:ρ[i]?=cL (cL (.rf 0))):bE "Hand" "acts" (aq i) ρ (dW b s sn Z J)=.ok (.rf 1) (dW b s sn Z J):=oy (aU h) rfl Hz
theorem bC(h:ρ[i]?=cL (cL (.rf 0))):bE "Hand" "waiting" (aq i) ρ (dW b s sn Z J)=.ok (.fz (fm s.wt)) (dW b s sn Z J):=oy (aU h) rfl GX
theorem xg(h:ρ[i]?=cL (cL (.rf 0))):bE "Hand" "once" (aq i) ρ (dW b s sn Z J)=.ok (.fz (kS s.oc)) (dW b s sn Z J):=oy (aU h) rfl Fi
theorem tt(h:ρ[i]?=cL (cL (.rf 0))):bE "Hand" "sent" (aq i) ρ (dW b s sn Z J)=.ok (.rf 2) (dW b s sn Z J):=oy (aU h) rfl Gi
theorem j5(w:Wq)(h:ρ[i]?=cL (cL (.rf 0)))(d:fe ρ ω=.ok (.fz (fm w)) (dW b s sn Z J)):T3 "Hand" "waiting" (aq i) fe ρ ω=.ok (.nx ρ) (dW b {s with wt:=w} sn Z J):=
 (vR d (aU h) rfl (by exact QR rfl)).trans (by rfl)
theorem yF(o:bg Int)(h:ρ[i]?=cL (cL (.rf 0)))(d:fe ρ ω=.ok (.fz (kS o)) (dW b s sn Z J)):T3 "Hand" "once" (aq i) fe ρ ω=.ok (.nx ρ) (dW b {s with oc:=o} sn Z J):=
 (vR d (aU h) rfl (by exact QR rfl)).trans (by rfl)
theorem bP(d:HS b p ω)(hm:OT m=QM)(h:ρ[i]?=cL (cL (.rf 0)))(ha:fa ρ ω=.ok xs ω)(hn:(SV.rf 0::xs).length=n)(e:F (.rf 0::xs) ω=.ok x ω'):aP "Hand" m F n (aq i) fa ρ ω=.ok x ω':=by obtain⟨Z,J,f,rfl⟩:=d;exact G1 (aU h) rfl (Mz hm) ha hn e
theorem uh(Z:bb (Nat×Mn)):(Z.map iA).map (·.2)=((Z.map (·.2)).map mD).map SV.fz:=by rw[Rv,Rv,Rv];rfl
def AK(ac:Ac):Prop:=∀k a,ac k=cL a->k<5/\LB a
theorem AQ(e:HS b p ω)(f:AK p.1.ac)(ha:LB a):∃ω',bJ [.rf 0,.fz (mD a)] ω=.ok (.fz (.bool (gC p.1.ac a))) ω'/\HS b p ω':=by
 obtain⟨Z,J,d,rfl⟩:=e;have e1:gC p.1.ac a=decide (a∈Z.map (·.2)):=decide_eq_decide.mpr (d.map (·.2)).symm.mem_iff;have lb:∀m∈Z.map (·.2),LB m:=λm hm=>by obtain⟨q,g,rfl⟩:=RP.mp hm;exact(f _ _ ((ia d).mp g).2).2
 refine⟨dW b p.1 p.2 Z (J++[.lst ((Z.map iA).map (·.2))]),?_,Z,_,d,rfl⟩;rw[e1];exact jS rfl (jj (bz (ag (ah rfl)) (xc (gM rfl) rfl) (p7 rfl (fG (by rw[uh];exact aM)) (GM ha lb))))
theorem xJ(f:sn.length<1000)(h:ρ[i]?=cL (cL (.rf 0)))(e:fe ρ (dW b s sn Z J)=.ok (.fz (ja (c,d))) (dW b s sn Z J)):oK (bE "Hand" "sent" (aq i)) fe ρ (dW b s sn Z J)=.ok (.fz .none) (dW b s (sn++[(c,d)]) Z J):=
 (tJ (tt h) rfl e rfl (by rw[QQ,QQ];ext)).trans (by unfold dW;rw[RI,RI];rfl)
theorem ot(d:Z.Perm (ei s.ac))(g:k<5)(n:ρ[0]?=cL (cL (.rf 0)))(m:ρ[1]?=cL (-(nd k)))(l:ρ[2]?=cL (-(mD a))):∃qs:bb (Nat×Mn),qs.Perm (ei (gJ s.ac k (cL a)))/\dM (bE "Hand" "acts" (aq 0)) (af (aa 1)) (af (aa 2)) ρ (dW b s sn Z J)=.ok (.nx ρ) (dW b {s with ac:=gJ s.ac k (cL a)} sn qs J):=by obtain⟨qs,j,h⟩:=ya d g;have f:aa 1 (bV ρ)=.ok (.fz (nd k),bV ρ):=ah (by unfold bV;rw[Q5,m];rfl);have e:aa 2 (bV ρ)=.ok (.fz (mD a),bV ρ):=ah (by unfold bV;rw[Q5,l];rfl);refine⟨qs,h,(l4 (ag e) (gM n) (ag f) rfl rfl (by rw[QQ];have:=oQ d;ext)).trans ?_⟩;rw[j];rfl
theorem nR(j:HS b p ω)(u:AK p.1.ac)(ha:LB a)(l:k<5)(t:p.2.length<1000):∃ω',bx [.rf 0,.fz (nd k),.fz (mD a)] ω=.ok (.fz .none) ω'/\HS b (dJ p k a) ω':=by
 have e0:=jI a;have e1:=fS a;cases q:a.YB with
 |false=>
  obtain⟨Z,J,f,rfl⟩:=j;rw[q]at e1;obtain⟨d,g,v⟩:=ot (ρ:=[cL (.rf 0),-(nd k),-(mD a)]) f l rfl rfl rfl;refine⟨_,lx rfl (fM (lU (bQ (aK (by fail "ev"))) ko) v),d,J,g,?_⟩;have:jH p.1.ac a=[]:=by cases a<;>first|rfl|cases q
  unfold dJ;simp_all
 |true=>
  rw[q]at e1;obtain⟨h,g,w⟩:=AQ j u ha;have r:∀o,gC p.1.ac a=o->(gq (aH (ar (au br (au aC (aa 2) (~~~0)) (pC (.str "letter"))))) (mC (aO (aP "Hand" "has_act" bJ 2 (aq 0) (aj (af (aa 2)) aF))))) [cL (.rf 0),-(nd k),-(mD a)] ω=.ok (!o) h:=λo e=>by rw[e]at g;exact cJ (aK (by fail "ev")) (j4 (aA (bP j (by rfl) rfl (ai (ag (ah rfl)) az) rfl g)))
  obtain⟨Z,J,f,rfl⟩:=w;cases q2:gC p.1.ac a with
  |true=>
   obtain⟨d,n,m⟩:=ot (ρ:=[cL (.rf 0),-(nd k),-(mD a)]) f l rfl rfl rfl;refine⟨_,lx rfl (fM (lU (r QM q2) ko) m),d,J,n,?_⟩;have:jH p.1.ac a=[]:=by
    cases a<;>first|cases q|skip
    show(if gC p.1.ac _=QM then _ else _)=_;simp_all
   unfold dJ;simp_all
  |false=>
   cases a<;>first|cases q|skip
   rename_i c;obtain⟨d,n,m⟩:=ot (ρ:=[cL (.rf 0),-(nd k),-(mD (.Q6 c))]) (sn:=p.2++[(c,QM)]) f l rfl rfl rfl;have y:aC (mD (.Q6 c)) (.int 1)=-(.str (cW c)):=ig;refine⟨_,lx rfl (fM (jT (r QP q2) (lj (xJ t rfl (ag (show _=Res.ok (PV.fz (.tuple [.str (cW c),.str "down"]),_) by fail "ev"))))) m),d,J,n,?_⟩;have:jH p.1.ac (.Q6 c)=[(c,QM)]:=by show(if gC p.1.ac _=QM then _ else _)=_;simp_all
   unfold dJ;rw[this]
end
end STP
namespace STP
open PySem L2 L3 L10
def VA(a:Int):Mn->Prop
 |.Q6 c=>c<26
 |.Sr n=>1<=n/\n<a
 |.none=>True
 |_=>False
theorem VA.lb(h:VA nL m):LB m:=by
 cases m with
 |Q6 c=>exact h
 |U8 c n=>exact h.elim
 |_=>trivial
structure SA(b:Bd)(s:SK):Prop where
 ac:∀k a,s.ac k=cL a->(k:Int)<b.n/\VA b.ls.length a
 oc:∀o,s.oc=cL o->1<=o/\o<b.ls.length
structure WV(b:Bd)(ac:Ac)(ks:bb Nat)(g:Int)(w:bg (Nat×Int)):Prop where
 ne:ks≠[]
 nd:ks.Nodup
 kn:∀k∈ks,(k:Int)<b.n
 kf:∀k∈ks,ac k=lD
 g0:0<=g
 tp:∀c n,w=cL (c,n)->c<26/\(1<=n/\n<b.ls.length)/\ks.length=1
 ch:w=lD->∀k∈ks,mN (b.ls.headD []) k=QM
structure SW(b:Bd)(s:SK):Prop where
 sa:SA b s
 wt:∀ks g w,s.wt=cL (ks,g,w)->WV b s.ac ks g w/\g<b.wt
theorem su{ks:bb Nat}(hd:ks.Nodup)(h:∀k∈ks,k<n):ks.length<=n:=by rw[<-FU ks];have b:=(nX ks).nodup_iff.mpr hd;refine Hi (((wC ks).and b).imp λh=>by ext) λk a=>h k ((nX ks).mem_iff.mp a)
section
variable{b:Bd}(Z:VB b){s:SK}{p:SK×Sn}{ks:bb Nat}{g:Int}{w:bg (Nat×Int)}{ac:Ac}{k:Nat}{a:Mn}
include Z
theorem WV.len(h:WV b ac ks g w):ks.length<=5:=su h.nd λk d=>by have:=h.kn k d;have:=Z.n5;ext
omit Z in
theorem WV.ZX(h:WV b ac ks g w):1<=ks.length:=List.length_pos_iff.mpr h.ne
theorem SA.ak(h:SA b s):AK s.ac:=λk a e=>by have:=h.ac k a e;have:=Z.n5;exact⟨by ext,(h.ac k a e).2.lb⟩
omit Z in
theorem SA.cm(h:SA b p.1)(d:(k:Int)<b.n)(ha:VA b.ls.length a):SA b (dJ p k a).1:=by
 refine⟨λj x e=>?_,h.oc⟩;by_cases z:j=k
 .subst z;have f:cL a=cL x:=(dD (ac:=p.1.ac) (k:=j) (o:=cL a)).symm.trans e;cases f;exact⟨d,ha⟩
 .exact h.ac j x ((fV z).symm.trans e)
omit Z in
theorem SA.gg(h:SA b p.1):SA b (go p k).1:=by
 unfold go;split
 .refine⟨λj x e=>?_,h.oc⟩
  by_cases z:j=k
  .subst z;exact a7 ((dD (ac:=p.1.ac) (k:=j) (o:=lD)).symm.trans e) (by simp)
  .exact h.ac j x ((fV z).symm.trans e)
 .exact h
omit Z in
theorem lC:(dJ p k a).2.length<=p.2.length+1:=by
 show(p.2++jH p.1.ac a).length<=_;rw[Q1];have:(jH p.1.ac a).length<=1:=by
  cases a with
  |Q6 c=>show(if _ then _ else _:Sn).length<=1;split<;>simp
  |_=>simp[jH]
 ext
omit Z in
theorem qS(d:bb (Nat×Mn)):∀p:SK×Sn,(eh p d).2.length<=p.2.length+d.length:=by
 induction d with
 |nil=>exact λp=>QV _
 |cons q r e=>intro p;have h:=e (dJ p q.1 q.2);have f:=lC (p:=p) (k:=q.1) (a:=q.2);show(eh (dJ p q.1 q.2) r).2.length<=_;rw[QZ];ext
omit Z in
theorem SA.cms(d:bb (Nat×Mn)):∀{p:SK×Sn},SA b p.1->(∀q∈d,(q.1:Int)<b.n/\VA b.ls.length q.2)->SA b (eh p d).1/\(eh p d).1.wt=p.1.wt/\(eh p d).1.oc=p.1.oc:=by
 induction d with
 |nil=>exact λh _=>⟨h,rfl,rfl⟩
 |cons q r i=>intro p h e;have f:=e q Q2;exact i (h.cm f.1 f.2) λx j=>e x (Q0 _ j)
theorem LC(h:mN (b.ls.headD []) k=QM):∃c,iP b 0 k=.Q6 c:=by
 have f:=Z.l1;obtain⟨d,r,e⟩:∃d r,b.ls=d::r:=by
  cases q:b.ls with
  |nil=>rw[q]at f;cases f
  |cons l r=>exact⟨l,r,rfl⟩
 unfold mN at h;unfold iP;rw[e]at h⊢;rw[W0,VD];rw[List.headD_cons]at h;cases q:d[k]? with
 |none=>rw[q]at h;cases h
 |some m=>
  rw[q]at h;cases m with
  |Q6 c=>exact⟨c,rfl⟩
  |_=>cases h
theorem Fx(d:(k:Int)<b.n)(h:mN (b.ls.headD []) k=QM):VA b.ls.length (iP b 0 k):=by have f:=Z.l1;obtain⟨c,e⟩:=LC Z h;have:=sF Z (L:=0) (by ext) d;rw[e]at this⊢;exact this
theorem BG(h:WV b ac ks g lD):∀m∈o0 b ks,VA b.ls.length m:=by
 intro m hm;unfold o0 at hm;split at hm
 .rename_i c e
  rcases Rm.mp hm with rfl|hm
  .exact(Z.vc c (Uo e)).2.2.2
  .rw[(List.mem_replicate.mp hm).2];trivial
 .obtain⟨j,d,rfl⟩:=RP.mp hm;exact Fx Z (h.kn j d) (h.ch rfl j d)
theorem nO(h:WV b ac ks g w):∀q∈ks.zip (gB b ks w),(q.1:Int)<b.n/\VA b.ls.length q.2:=by
 intro q e;have d:=T5 e;refine⟨h.kn _ d.1,?_⟩;cases w with
 |none=>exact BG Z h _ d.2
 |some f=>obtain⟨c,n⟩:=f;rw[Rn.mp d.2];exact(h.tp c n rfl).2.1
def WD(b:Bd)(s:SK):Prop:=∀ks g w,s.wt=cL (ks,g,w)->WV b s.ac ks g w
theorem eJ(h:SA b p.1)(d:WD b p.1):SW b (bt b p).1/\(bt b p).1.wt=lD/\(bt b p).2.length<=p.2.length+5/\(bt b p).1.oc=p.1.oc:=by
 unfold bt;split
 .rename_i q;exact⟨⟨h,λks g w e=>by simp_all⟩,q,Nat.le_add_right _ _,rfl⟩
 .rename_i ks g w q
  have v:=d ks g w q;obtain⟨j,i,f⟩:=SA.cms (ks.zip (gB b ks w)) (p:=({p.1 with wt:=lD},p.2)) ⟨h.ac,h.oc⟩ (nO Z v);refine⟨⟨j,λ_ _ _ e=>?_⟩,i,?_,f⟩
  .simp_all
  .have:=qS (ks.zip (gB b ks w)) ({p.1 with wt:=lD},p.2)
   have l:=v.len Z
   grind
omit Z in
theorem xo:∀(l:bb Int) (m:bg Int),l.foldl kq m=m\/∃x∈l,l.foldl kq m=cL x
 |[],m=>.inl rfl
 |x::r,m=>by
  rw[UW];rcases xo r (kq m x)with h|⟨y,hy,h⟩
  .rw[h]
   cases m with
   |none=>exact .inr ⟨x,Q2,rfl⟩
   |some z=>
    show cL (if x>z then x else z)=cL z\/_;split
    .exact .inr ⟨x,Q2,by show cL (if x>z then x else z)=_;rename_i q;rw[ax q]⟩
    .exact .inl rfl
  .exact .inr ⟨y,Q0 _ hy,h⟩
omit Z in
theorem yz:∀(l:bb Int) (m:bg Int),(∀x∈l,∃y,l.foldl kq m=cL y/\x<=y)/\∀z,m=cL z->∃y,l.foldl kq m=cL y/\z<=y
 |[],m=>⟨λx e=>(by cases e),λz h=>⟨z,h,UB _⟩⟩
 |x::r,m=>by
  rw[UW];obtain⟨n,j⟩:=yz r (kq m x);have i:∃z,kq m x=cL z/\x<=z/\∀u,m=cL u->u<=z:=by
   cases m with
   |none=>exact⟨x,rfl,UB _,λu h=>by cases h⟩
   |some u=>
    refine⟨if x>u then x else u,rfl,?_,λv h=>?_⟩
    .split<;>ext
    .cases h;split<;>ext
  obtain⟨z,e1,e2,e3⟩:=i;obtain⟨y,e4,e5⟩:=j z e1;refine⟨λv d=>?_,λu f=>⟨y,e4,by have:=e3 u f;ext⟩⟩;rcases Rm.mp d with rfl|d
  .exact⟨y,e4,by ext⟩
  .exact n v d
omit Z in
theorem xk{ac:Ac}{n:Int}:n∈(ei ac).filterMap vv↔∃k,k<5/\ac k=cL (.Sr n):=by
 rw[S6];constructor
 .rintro⟨⟨k,m⟩,e,d⟩
  have f:=jr.mp e;cases m with
  |Sr x=>have:x=n:=Ra d;subst this;exact⟨k,f.1,f.2⟩
  |_=>cases d
 .rintro⟨k,e,d⟩;exact⟨(k,.Sr n),jr.mpr ⟨e,d⟩,rfl⟩
theorem xh(h:SA b s):0<=ny s.ac/\ny s.ac<b.ls.length/\(∀k n,s.ac k=cL (.Sr n)->n<=ny s.ac)/\(ny s.ac=0\/∃k,s.ac k=cL (.Sr (ny s.ac))):=by
 have j:=Z.l1;have l:=Z.n5;unfold ny;generalize hm:((ei s.ac).filterMap vv).foldl kq lD=m;have f:=(yz ((ei s.ac).filterMap vv) lD).1;have d:=xo ((ei s.ac).filterMap vv) lD;rw[hm]at f d;have up:∀k n,s.ac k=cL (.Sr n)->∃y,m=cL y/\n<=y:=λk n e=>f n (xk.mpr ⟨k,by have:=(h.ac k _ e).1;ext,e⟩);cases m with
 |none=>refine⟨UB _,by show(0:Int)<_;ext,λk n e=>?_,.inl rfl⟩;obtain⟨y,e2,_⟩:=up k n e;cases e2
 |some x=>
  rcases d with d|⟨y,hy,d⟩
  .cases d
  .cases d;obtain⟨k,_,e⟩:=xk.mp hy;have:=(h.ac k _ e).2;have:1<=x/\x<b.ls.length:=this;refine⟨by show 0<=x;ext,by show x<_;ext,λk n e=>?_,.inr ⟨k,e⟩⟩;obtain⟨y,e2,i⟩:=up k n e;cases e2;exact i
theorem pV(h:SA b s):0<=gR s.ac s.oc/\gR s.ac s.oc<b.ls.length:=by
 cases q:s.oc with
 |none=>have:=xh Z h;exact⟨this.1,this.2.1⟩
 |some o=>have:=h.oc o q;exact⟨by show 0<=o;ext,this.2⟩
end
section
variable{b:Bd}{s:SK}{sn:Sn}{Z:bb (Nat×Mn)}{J:aW}{ρ:aZ}{i:Nat}{ω:aW}{p:SK×Sn}{k:Nat}{a:Mn}
theorem jc(h:f x=cL y):aD f [x]=cL [y]:=by unfold aD;rw[h];rfl
theorem gk:(l++[c]).set l.length c'=l++[c']:=by simp
theorem mn(e:HS b p ω):∃ω',bH [.rf 0] ω=.ok (.fz (fu p.1)) ω'/\HS b p ω':=by
 obtain⟨Z,J,d,rfl⟩:=e;have g:=oQ d;have h:iR (kG (bE "Hand" "acts" (aq 0))) [cL (.rf 0)] (dW b p.1 p.2 Z J)=.ok ((ei p.1.ac).map λq=>nd q.1) (dW b p.1 p.2 Z (J++[.dead])):=by
  refine(vU (ds:=(ei p.1.ac).map λq=>nd q.1) (xq (gM rfl) rfl (uI d) (by rw[QQ];ext)) ?_).trans ?_
  .rw[ub d];refine aM.trans ?_;rw[Rv,Rv];rfl
  .rw[gk];rfl
 have j:ce (eI 0) jU (jk (aj (af (aa 0)) (aj (aX (bE "Hand" "acts" (aq 1)) (af (aa 0))) aF))) ((ei p.1.ac).map λq=>nd q.1) [lD,cL (.rf 0)] (dW b p.1 p.2 Z (J++[.dead])) []=.ok (((ei p.1.ac).map pD).map .fz) (dW b p.1 p.2 Z (J++[.dead])):=by refine(ka (λq:Nat×Mn=>nd q.1) (λq=>.fz (pD q)) _ (λρ=>∃o,ρ=[o,cL (.rf 0)]) (ei p.1.ac) _ [] ⟨lD,rfl⟩ (by have:=nS p.1.ac;grind) ?_).trans (by rw[Rv];rfl);rintro q f ρ ⟨o,rfl⟩;have hm:=jr.mp f;refine⟨[-(nd q.1),cL (.rf 0)],rfl,rfl,?_,_,rfl⟩;exact mO (ai (ag (ah rfl)) (ai (km (gM rfl) (ag (ah rfl)) rfl rfl (by rw[gO d hm.1,hm.2];rfl)) az)) (QR rfl)
 have tp:z7 hV (aj (kB 1 [0] (iR (kG (bE "Hand" "acts" (aq 0)))) (eI 0) jU (jk (aj (af (aa 0)) (aj (aX (bE "Hand" "acts" (aq 1)) (af (aa 0))) aF)))) aF) [cL (.rf 0)] (dW b p.1 p.2 Z J)=.ok (.fz (.tuple ((ei p.1.ac).map pD))) (dW b p.1 p.2 Z (J++[.dead]++[.lst (((ei p.1.ac).map pD).map .fz)])):=
  Bf (ai (tF h j) az) (jc (fG aM)) rfl
 exact⟨_,jS rfl (jj (mO (ai tp (ai (bC rfl) (ai (xg rfl) az))) (QR rfl))),Z,_,d,rfl⟩
theorem DM(e:HS b p ω):b8 [.rf 0,.fz (nd k)] ω=.ok (.fz (.bool (p8 p.1.wt k))) ω:=by
 obtain⟨Z,J,f,rfl⟩:=e;refine jS rfl (jj ?_);cases q:p.1.wt with
 |none=>
  have e1:gS (fm p.1.wt) .none=-(.bool QP):=by rw[q];rfl
  exact rh (aA (bz (bC rfl) (ag aw) (bi e1)))
 |some x=>
  obtain⟨d,g,w⟩:=x;have e1:gS (fm p.1.wt) .none=-(.bool QM):=by rw[q];rfl
  have e2:aC (fm p.1.wt) (.int 0)=-(.tuple (aB d)):=by rw[q];exact gQ
  exact rF (aA (bz (bC rfl) (ag aw) (bi e1))) (bz (ag (ah rfl)) (cA (bC rfl) (ag aw) e2) (bi (lc _ _)))
theorem Mm(C:HS b p ω)(n:AK p.1.ac)(ha:p.1.ac k=cL a)(E:p.2.length<1000):∃ω',iX [.rf 0,.fz (nd k)] ω=.ok (.fz .none) ω'/\HS b (go p k) ω':=by
 obtain⟨Z,J,A,rfl⟩:=C;have F:=(n k a ha).1;have lb:=(n k a ha).2;obtain⟨f,H,u⟩:=uT A
 have m:nZ (bE "Hand" "acts" (aq 0)) (af (aa 1)) [cL (.rf 0),-(nd k),lD] (dW b p.1 p.2 Z J)=.ok (.fz (mD a)) (dW b {p.1 with ac:=gJ p.1.ac k lD} p.2 f J):=
  (yK (gM rfl) rfl (ag (ah rfl)) rfl rfl (by rw[gO A F,ha];rfl)).trans (by rw[H];rfl)
 have G:go p k=({p.1 with ac:=gJ p.1.ac k lD},p.2++zV (gJ p.1.ac k lD) a):=by unfold go;rw[ha]
 rw[G];have I:AK (gJ p.1.ac k lD):=λj x e=>by
  by_cases z:j=k
  .subst z;rw[dD]at e;cases e
  .rw[fV z]at e;exact n j x e
 have e0:=jI a;have e1:=fS a;have h:ar (au br (au aC (aa 2) (~~~0)) (pC (.str "letter"))) (bV [cL (.rf 0),-(nd k),-(mD a)])=.ok (a.YB,bV [cL (.rf 0),-(nd k),-(mD a)]):=by fail "ev"
 have t:Tu (bq (gq (aH (ar (au br (au aC (aa 2) (~~~0)) (pC (.str "letter"))))) (mC (aO (aP "Hand" "has_act" bJ 2 (aq 0) (aj (af (aa 2)) aF))))) (aY (oK (bE "Hand" "sent" (aq 0)) (af (aN {au aC (aa 2) (~~~1),pC (.str "up")})))) bA [cL (.rf 0),-(nd k),-(mD a)] (dW b {p.1 with ac:=gJ p.1.ac k lD} p.2 f J)) (λ_ ω'=>SV.fz .none=.fz .none/\HS b ({p.1 with ac:=gJ p.1.ac k lD},p.2++zV (gJ p.1.ac k lD) a) ω') (λ_ _=>False) (λr ω'=>r=.fz .none/\HS b ({p.1 with ac:=gJ p.1.ac k lD},p.2++zV (gJ p.1.ac k lD) a) ω'):=by
  cases q:a.YB with
  |false=>
   rw[q]at h;refine aV (bQ (aK h)) (eS ⟨rfl,f,J,u,?_⟩);have:zV (gJ p.1.ac k lD) a=[]:=by cases a<;>first|rfl|cases q
   simp_all
  |true=>
   rw[q]at h;obtain⟨g,o,K⟩:=AQ (p:=({p.1 with ac:=gJ p.1.ac k lD},p.2)) ⟨f,J,u,rfl⟩ I lb;have v:∀l,gC (gJ p.1.ac k lD) a=l->(gq (aH (ar (au br (au aC (aa 2) (~~~0)) (pC (.str "letter"))))) (mC (aO (aP "Hand" "has_act" bJ 2 (aq 0) (aj (af (aa 2)) aF))))) [cL (.rf 0),-(nd k),-(mD a)] (dW b {p.1 with ac:=gJ p.1.ac k lD} p.2 f J)=.ok (!l) g:=λl e=>by
    have o:bJ [.rf 0,.fz (mD a)] (dW b {p.1 with ac:=gJ p.1.ac k lD} p.2 f J)=.ok (.fz (.bool l)) g:=by rw[<-e];exact o
    exact cJ (aK h) (j4 (aA (bP (p:=({p.1 with ac:=gJ p.1.ac k lD},p.2)) ⟨f,J,u,rfl⟩ (by rfl) rfl (ai (ag (ah rfl)) az) rfl o)))
   obtain⟨w,B,y,e2⟩:=K;rw[e2]at v;cases q2:gC (gJ p.1.ac k lD) a with
   |true=>
    refine aV (v QM q2) (eS ⟨rfl,w,B,y,?_⟩);have:zV (gJ p.1.ac k lD) a=[]:=by
     cases a<;>first|cases q|skip
     show(if gC (gJ p.1.ac k lD) _=QM then _ else _)=_;rw[ax q2]
    simp_all
   |false=>
    cases a<;>first|cases q|skip
    rename_i c;have L:aC (mD (.Q6 c)) (.int 1)=-(.str (cW c)):=ig;refine fP (v QP q2) (cg (xJ (d:=QP) E rfl (ag (show _=Res.ok (PV.fz (.tuple [.str (cW c),.str "up"]),_) by fail "ev"))) ⟨rfl,w,B,y,?_⟩);have:zV (gJ p.1.ac k lD) (.Q6 c)=[(c,QP)]:=by show(if gC (gJ p.1.ac k lD) _=QM then _ else _)=_;simp_all
    rw[this]
 exact dI rfl (bU m rfl t)
end
section
variable{b:Bd}(Y:VB b){s:SK}{sn:Sn}{Z:bb (Nat×Mn)}{J:aW}{ρ:aZ}{i:Nat}{ω:aW}{p:SK×Sn}{k:Nat}{a:Mn}{ks:bb Nat}{g:Int}{w:bg (Nat×Int)}
theorem DS:∀(ks:bb Nat) (as:bb Mn),kI (aB ks) (as.map mD)=(ks.zip as).map pD
 |[],_=>by rfl
 |_::_,[]=>rfl
 |k::r,a::t=>by show QO.tuple [nd k,mD a]::kI (aB r) (t.map mD)=_;rw[DS r t];rfl
theorem rO(h:∀c n,w=cL (c,n)->c<26):br (iW w) (.tuple [.str "chord"])=-(.bool w.isNone)/\mY (iW w) (.tuple [.str "chord"])=-(.bool w.isSome):=by
 cases w with
 |none=>
  have j:i7 (.tuple [.str "chord"])=QM:=by left
  have f:QO.canLay0 (.tuple [.str "chord"])=QM:=by left
  have d:QO.eqv (.tuple [.str "chord"]) (.tuple [.str "chord"])=QM:=by rfl
  constructor
  .show(if(i7 (.tuple [.str "chord"])&&QO.canLay0 (.tuple [.str "chord"]))=QM then cL (RV.fz (.bool (QO.eqv (.tuple [.str "chord"]) (.tuple [.str "chord"]))))else lD)=_;rw[j,f,d];rfl
  .show(if(i7 (.tuple [.str "chord"])&&QO.canLay0 (.tuple [.str "chord"]))=QM then cL (RV.fz (.bool (!QO.eqv (.tuple [.str "chord"]) (.tuple [.str "chord"]))))else lD)=_;rw[j,f,d];rfl
 |some l=>
  obtain⟨c,n⟩:=l;have lb:LB (.U8 c n):=h c n rfl;have e:QO.eqv (mD (.U8 c n)) (.tuple [.str "chord"])=QP:=by rfl
  constructor
  .show(if(i7 (mD (.U8 c n))&&QO.canLay0 (.tuple [.str "chord"]))=QM then cL (RV.fz (.bool (QO.eqv (mD (.U8 c n)) (.tuple [.str "chord"]))))else lD)=_;rw[uH lb,show QO.canLay0 (.tuple [.str "chord"])=QM by left,e];rfl
  .show(if(i7 (mD (.U8 c n))&&QO.canLay0 (.tuple [.str "chord"]))=QM then cL (RV.fz (.bool (!QO.eqv (mD (.U8 c n)) (.tuple [.str "chord"]))))else lD)=_;rw[uH lb,show QO.canLay0 (.tuple [.str "chord"])=QM by left,e];rfl
theorem t9(ks:bb Nat)(w:bg (Nat×Int))(as:bb Mn):∀(f:bb (Nat×Mn)) (p:SK×Sn) (ω:aW) (m l:bg SV),HS b p ω->AK p.1.ac->(∀q∈f,q.1<5/\LB q.2)->p.2.length+f.length<1000->
  ∃ρ' ω',nk (zW 2 (iI (eI 4) (iI (eI 5) qk))) (aY (aP "Hand" "come" bx 3 (aq 0) (aj (af (aa 4)) (aj (af (aa 5)) aF)))) (f.map pD) [cL (.rf 0),-(.tuple (aB ks)),-(iW w),-(.list (as.map mD)),m,l] ω=.ok (.nx ρ') ω'/\HS b (eh p f) ω'
 |[],p,ω,m,l,hs,_,_,_=>⟨_,ω,rfl,hs⟩
 |q::r,p,ω,m,l,hs,hA,hq,hl=>by
  rw[QZ]at hl;have h:=hq q Q2;obtain⟨d,e1,y⟩:=nR hs hA h.2 h.1 (by ext);have n:AK (dJ p q.1 q.2).1.ac:=λj x e=>by
   by_cases z:j=q.1
   .have u:cL q.2=cL x:=by rw[z]at e;exact(dD).symm.trans e
    cases u;exact⟨by rw[z];exact h.1,h.2⟩
   .exact hA j x ((fV z).symm.trans e)
  have:=lC (p:=p) (k:=q.1) (a:=q.2);obtain⟨ρ',ω',e2,v⟩:=t9 ks w as r (dJ p q.1 q.2) d (-(nd q.1)) (-(mD q.2)) y n (λx t=>hq x (Q0 _ t)) (by ext);refine⟨ρ',ω',?_,v⟩
  have o:aY (aP "Hand" "come" bx 3 (aq 0) (aj (af (aa 4)) (aj (af (aa 5)) aF))) [cL (.rf 0),-(.tuple (aB ks)),-(iW w),-(.list (as.map mD)),-(nd q.1),-(mD q.2)] ω=.ok (.nx [cL (.rf 0),-(.tuple (aB ks)),-(iW w),-(.list (as.map mD)),-(nd q.1),-(mD q.2)]) d:=
   lj (bP hs (by left) rfl (ai (ag (ah rfl)) (ai (ag (ah rfl)) az)) rfl e1)
  show((aY (aP "Hand" "come" bx 3 (aq 0) (aj (af (aa 4)) (aj (af (aa 5)) aF))) [cL (.rf 0),-(.tuple (aB ks)),-(iW w),-(.list (as.map mD)),-(nd q.1),-(mD q.2)] ω).bind _)=_;rw[o,ee];exact e2
include Y
theorem j0(u:HS b p ω)(o:SA b p.1)(f:p.1.wt=cL (ks,g,w))(v:WV b p.1.ac ks g w)(I:p.2.length<900):∃ω',cO [.rf 0] ω=.ok (.fz .none) ω'/\HS b (bt b p) ω':=by
 obtain⟨Z,J,z,rfl⟩:=u;have e0:aC (fm p.1.wt) (.int 0)=-(.tuple (aB ks)):=by rw[f];exact gQ
 have e2:aC (fm p.1.wt) (.int 2)=-(iW w):=by rw[f];exact kA
 have r:=v.len Y;have t:=v.ZX;have E:=rO λc n h=>(v.tp c n h).1;have C:bt b p=eh ({p.1 with wt:=lD},p.2) (ks.zip (gB b ks w)):=by unfold bt;rw[f]
 rw[C];have m:ar (au br (aa 2) (pC (.tuple [.str "chord"]))) (bV [cL (.rf 0),-(.tuple (aB ks)),-(iW w),lD,lD,lD])=.ok (w.isNone,bV [cL (.rf 0),-(.tuple (aB ks)),-(iW w),lD,lD,lD]):=aR (av (ah rfl) aw rfl rfl E.1) rfl;have l:qA (IM (aH (ar (au br (aa 2) (pC (.tuple [(.str "chord")]))))) (ie fE 2 (aj (bE "Hand" "bed" (aq 0)) (aj (af (aa 1)) aF))) (af (cz {aN {pC (.str "layer"),au aC (aa 2) (~~~2)}}))) [cL (.rf 0),-(.tuple (aB ks)),-(iW w),lD,lD,lD] (dW b {p.1 with wt:=lD} p.2 Z J)=.ok (.fz (.list ((gB b ks w).map mD))) (dW b {p.1 with wt:=lD} p.2 Z (J++[.dead])):=by
  cases w with
  |none=>have G:=Ju Y t r v.kn;exact(pH (Ft (aK m) (sT (ai (mr rfl) (ai (ag (ah rfl)) az)) rfl G)) (j8 aM)).trans (by rw[gk];rfl)
  |some F=>obtain⟨c,n⟩:=F;have H:aC (iW (cL (c,n))) (.int 2)=-(.int n):=kA;exact(pH (Ha (aK m) (eE (show _=Res.ok (PV.ow [.tuple [.str "layer",.int n]],_) by fail "ev"))) (j8 aM)).trans (by rw[gk];rfl)
 have e:∃d ω',rV (lh (zr {aa 1,aa 3})) (zW 2 (iI (eI 4) (iI (eI 5) qk))) (aY (aP "Hand" "come" bx 3 (aq 0) (aj (af (aa 4)) (aj (af (aa 5)) aF)))) [cL (.rf 0),-(.tuple (aB ks)),-(iW w),-(.list ((gB b ks w).map mD)),lD,lD] (dW b {p.1 with wt:=lD} p.2 Z (J++[.dead]))=.ok (.nx d) ω'/\HS b (eh ({p.1 with wt:=lD},p.2) (ks.zip (gB b ks w))) ω':=by
  have K:=Y.n5;obtain⟨d,ω',B,A⟩:=t9 ks w (gB b ks w) (ks.zip (gB b ks w)) ({p.1 with wt:=lD},p.2) (dW b {p.1 with wt:=lD} p.2 Z (J++[.dead])) lD lD ⟨Z,_,z,rfl⟩ (SA.ak Y ⟨o.ac,o.oc⟩) (λq y=>by
   have:=nO Y v q y;exact⟨by ext,this.2.lb⟩) (by
   rw[Y3];show p.2.length+_<1000;ext)
  refine⟨d,ω',?_,A⟩;unfold rV;rw[oJ (xf (am (ah rfl) (am (ah rfl) ay)) rfl rfl rfl),ee,DS];exact B
 obtain⟨d,ω',e,j⟩:=e;refine⟨ω',lx (ρ1:=d) rfl ?_,j⟩;exact fM (vB (cA (bC rfl) (ag aw) e0) rfl) (fM (vB (cA (bC rfl) (ag aw) e2) rfl) (fM (j5 lD rfl (ag aw)) (fM (vB l rfl) e)))
omit Y in
theorem ET{c:bb Nat×Nat}(h:c.2<26):QO.canLay0 (a9 c)=QM:=by show(QO.canLayAll0 (aB c.1)&&(QO.strOk (cW c.2)&&QM))=QM;rw[fZ,mS h];rfl
omit Y in
theorem JD:∀{cs:bb (bb Nat×Nat)},(∀c∈cs,c.2<26)->mY (.list (cs.map a9)) (.list [])=-(.bool (!cs.isEmpty)):=by
 intro cs h;have f:∀cs:bb (bb Nat×Nat),(∀c∈cs,c.2<26)->QO.canLayAll0 (cs.map a9)=QM:=by
  intro cs
  induction cs with
  |nil=>exact λ_=>rfl
  |cons c r d=>intro h;show(QO.canLay0 (a9 c)&&QO.canLayAll0 (r.map a9))=QM;rw[ET (h c Q2),d λx j=>h x (Q0 _ j)];rfl
 have e:∀cs:bb (bb Nat×Nat),QO.depthAll (cs.map a9)<=2:=by
  intro cs
  induction cs with
  |nil=>exact Rz _
  |cons c r d=>show max (QO.depth (a9 c)) (QO.depthAll (r.map a9))<=2;refine acG.mpr ⟨?_,d⟩;show max (QO.depthAll (aB c.1)+1) (max 0 0)+1<=2;rw[jt];decide
 show(if((QO.canLayAll0 (cs.map a9)&&decide (QO.depthAll (cs.map a9)+1<=64))&&QM)=QM then cL (RV.fz (.bool (!QO.eqvAll (cs.map a9) [])))else lD)=_;rw[f cs h,a4 (show QO.depthAll (cs.map a9)+1<=64 by have:=e cs;ext)];cases cs<;>rfl
theorem Ga(h:c∈bF b ks):c.2<26:=(Y.vc c (RT.mp h).1).2.2.2
omit Y in
theorem sG(h:ks≠[])(d:ks.length<=5):ci (.tuple (aB ks)) (.tuple [nd k])=-(.tuple (aB (ks++[k]))):=by
 show(if aB ks≠[]/\(aB ks).length+1<=1000000 then cL (RV.fz (.tuple (aB ks++[nd k])))else lD)=_;rw[ax ⟨by cases ks with
  |nil=>exact a7 rfl h
  |cons x r=>simp[aB],by rw[b9];ext⟩,xY]
 rfl
theorem xO{fa:cR}{ω1:aW}(d:∃Z J,ω1=dW b s sn Z J)(j:ρ[0]?=cL (cL (.rf 0)))(e:ks.length<=5)(f:fa ρ ω1=.ok (.fz (.tuple (aB ks))) ω1):g7 mY (ie bG 2 (aj (bE "Hand" "bed" (aq 0)) (aj fa aF))) (af (cz ap)) ρ ω1=.ok (.fz (.bool (!(bF b ks).isEmpty))) (ω1++[.lst (((bF b ks).map a9).map .fz)]++[.lst []]):=by obtain⟨Z,J,rfl⟩:=d;refine bz (sT (ds:=[bD b,.tuple (aB ks)]) (ai (mr j) (ai f az)) rfl (wV Y e)) (eE (ds:=[]) (ρ':=bV ρ) (iJ ay rfl (Rz _))) ?_;exact p7 (fG (eC aM)) (fG (ds:=[]) aM) (JD λc h=>Ga Y h)
theorem Jz(j:HS b p ω)(z:SW b p.1)(I:(k:Int)<b.n)(hn:p8 p.1.wt k=QP):∃ω',df [.rf 0,.fz (nd k)] ω=.ok (.fz (.bool (lB b p.1 k))) ω'/\HS b p ω':=by
 cases q:p.1.wt with
 |none=>
  have l:lB b p.1 k=QP:=by unfold lB;rw[q]
  rw[l];obtain⟨Z,J,f,rfl⟩:=j;have e1:lG (fm p.1.wt) .none=-(.bool QM):=by rw[q];rfl
  exact⟨_,jS rfl (mj (jT (jJ (aA (bz (bC rfl) (ag aw) (bi e1)))) (jj (ag aw)))),Z,J,f,rfl⟩
 |some x=>
  obtain⟨ks,g,w⟩:=x;have v:=(z.wt ks g w q).1;have A:=v.len Y;have e1:lG (fm p.1.wt) .none=-(.bool QP):=by rw[q];rfl
  have e2:aC (fm p.1.wt) (.int 2)=-(iW w):=by rw[q];exact kA
  have e0:aC (fm p.1.wt) (.int 0)=-(.tuple (aB ks)):=by rw[q];exact gQ
  have t:=(rO λc n h=>(v.tp c n h).1).2;cases w with
  |some L=>
   have l:lB b p.1 k=QP:=by unfold lB;rw[q]
   rw[l];obtain⟨Z,J,f,rfl⟩:=j;exact⟨_,jS rfl (mj (jT (dE (aA (bz (bC rfl) (ag aw) (bi e1))) (jJ (aA (bz (cA (bC rfl) (ag aw) e2) (ag aw) (bi t))))) (jj (ag aw)))),Z,J,f,rfl⟩
  |none=>
   have l:lB b p.1 k=(decide (gR p.1.ac p.1.oc=0)&& !(bF b (ks++[k])).isEmpty):=by unfold lB;rw[q]
   rw[l];obtain⟨d,C,u⟩:=mn j;have m:(uU (aO (g7 lG (bE "Hand" "waiting" (aq 0)) (af (pC .none)))) (uU (aO (g7 mY (iK (bE "Hand" "waiting" (aq 0)) (af (~~~2))) (af (pC (.tuple [(.str "chord")]))))) (aO (g7 mY (ie dh 1 (aj (aP "Hand" "stands" bH 1 (aq 0) aF) aF)) (af (~~~0)))))) [cL (.rf 0),-(nd k)] ω=.ok (!decide (gR p.1.ac p.1.oc=0)) d:=by
    have E:aO (g7 mY (ie dh 1 (aj (aP "Hand" "stands" bH 1 (aq 0) aF) aF)) (af (~~~0))) [cL (.rf 0),-(nd k)] ω=.ok (!decide (gR p.1.ac p.1.oc=0)) d:=
     aA (bz (sY (ai (bP j (by rfl) rfl az rfl C) az) rfl (oV p.1)) (ag aw) (bi (lO _ _)))
    obtain⟨Z,J,f,rfl⟩:=j;exact dE (aA (bz (bC rfl) (ag aw) (bi e1))) (dE (aA (bz (cA (bC rfl) (ag aw) e2) (ag aw) (bi t))) E)
   by_cases r:gR p.1.ac p.1.oc=0
   .rw[a4 r]at m⊢
    obtain⟨Z,J,f,rfl⟩:=u;have G:k∉ks:=by rw[q]at hn;exact of_decide_eq_false hn
    have F:(ks++[k]).Nodup:=by rw[Ut];exact⟨v.nd,Sw.mpr ⟨Sq,Vd⟩,λx o y H e=>G (by simp_all)⟩
    have B:(ks++[k]).length<=5:=su F λx o=>by
     have K:=Y.n5;rcases R9.mp o with h|h
     .have:=v.kn x h;ext
     .rw[Rn.mp h];ext
    refine⟨_,jS rfl (fM (lU m ko) (jj (xO Y ⟨Z,J,rfl⟩ rfl B (bz (cA (bC rfl) (ag aw) e0) (ag (eA (am (ah rfl) ay) rfl (QR rfl))) (bi (sG v.ne A)))))),Z,_,f,rfl⟩
   .rw[a5 r]at m⊢;exact⟨d,jS rfl (mj (jT m (jj (ag aw)))),u⟩
end
section
variable{b:Bd}(Y:VB b){s:SK}{sn:Sn}{Z:bb (Nat×Mn)}{J:aW}{ρ:aZ}{i:Nat}{ω:aW}{p:SK×Sn}{k:Nat}{a:Mn}{ks:bb Nat}{g:Int}{w:bg (Nat×Int)}
include Y
theorem Bj(v:WV b p.1.ac ks g w)(hn:k∉ks)(l:(k:Int)<b.n):(ks++[k]).Nodup/\(ks++[k]).length<=5:=by
 have f:(ks++[k]).Nodup:=by rw[Ut];exact⟨v.nd,Sw.mpr ⟨Sq,Vd⟩,λx d y j e=>hn (by simp_all)⟩
 refine⟨f,su f λx d=>?_⟩;have m:=Y.n5;rcases R9.mp d with h|h
 .have:=v.kn x h;ext
 .rw[Rn.mp h];ext
theorem pY(l:SW b p.1)(f:(k:Int)<b.n)(ha:p.1.ac k=lD)(hn:p8 p.1.wt k=QP)(hm:lB b p.1 k=QM):∃ks g,p.1.wt=cL (ks,g,lD)/\k∉ks/\WV b p.1.ac (ks++[k]) g lD/\g<b.wt:=by
 unfold lB at hm;split at hm
 .rename_i ks g q
  rw[CL]at hm;obtain⟨v,m⟩:=l.wt ks g lD q;have j:k∉ks:=by rw[q]at hn;exact of_decide_eq_false hn
  obtain⟨y,z⟩:=Bj Y v j f;refine⟨ks,g,q,j,⟨by simp,y,λx d=>?_,λx d=>?_,v.g0,λc n h=>(by cases h),λ_ x d=>?_⟩,m⟩
  .rcases R9.mp d with h|h
   .exact v.kn x h
   .rw[Rn.mp h];exact f
  .rcases R9.mp d with h|h
   .exact v.kf x h
   .rw[Rn.mp h];exact ha
  .have e:=hm.2
   cases qo:bF b (ks++[k])with
   |nil=>rw[qo]at e;cases e
   |cons c r=>
    have o:c∈bF b (ks++[k]):=by rw[qo];exact Q2
    obtain⟨u,t⟩:=RT.mp o;have:=Sg.mp t x d;exact(Y.vc c u).2.2.1 x (a6 this)
 .cases hm
theorem HE(t:HS b p ω)(h:SW b p.1)(e:p.1.wt=cL (ks,g,lD))(v:WV b p.1.ac (ks++[k]) g lD)(f:WV b p.1.ac ks g lD)(u:p.2.length<900):∃ω',cU [.rf 0,.fz (nd k)] ω=.ok (.fz .none) ω'/\HS b (jz b p k) ω':=by
 obtain⟨Z,J,j,rfl⟩:=t;have n:=v.len Y;have e0:aC (fm p.1.wt) (.int 0)=-(.tuple (aB ks)):=by rw[e];exact gQ
 have e1:aC (fm p.1.wt) (.int 1)=-(.int g):=by rw[e];exact ig
 have B:jz b p k=if(bF b (ks++[k])).map (·.1.length)=[(ks++[k]).length]then bt b ({p.1 with wt:=cL (ks++[k],g,lD)},p.2)else({p.1 with wt:=cL (ks++[k],g,lD)},p.2):=by unfold jz;rw[e]
 have E:HS b ({p.1 with wt:=cL (ks++[k],g,lD)},p.2) (dW b {p.1 with wt:=cL (ks++[k],g,lD)} p.2 Z J):=⟨Z,J,j,rfl⟩;have C:ce (eI 0) jU (af (dR de {au aC (aa 0) (~~~0)})) ((bF b (ks++[k])).map a9) [lD] (dW b {p.1 with wt:=cL (ks++[k],g,lD)} p.2 Z (J++[.dead])) []=.ok ((aB ((bF b (ks++[k])).map (·.1.length))).map .fz) (dW b {p.1 with wt:=cL (ks++[k],g,lD)} p.2 Z (J++[.dead])):=by
  refine(ka a9 (λc=>.fz (nd c.1.length)) _ (λρ=>∃o,ρ=[o]) (bF b (ks++[k])) _ [] ⟨lD,rfl⟩ ?_ ?_).trans (by unfold aB;rw[Rv,Rv];rfl)
  .have:=U5 (λc:bb Nat×Nat=>(ks++[k]).all λk=>decide (k∈c.1)) b.cs;have:=Y.c4;show 0+(bF b (ks++[k])).length<=_;unfold bF;ext
  .rintro c _ ρ ⟨o,rfl⟩;have r:aC (a9 c) (.int 0)=-(.tuple (aB c.1)):=gQ;refine⟨[-(a9 c)],rfl,rfl,ag (bX (am (av (ah rfl) aw rfl rfl r) ay) rfl ((fJ _).trans (by rw[b9]))),_,rfl⟩
 have A:iR (ie bG 2 (aj (bE "Hand" "bed" (aq 0)) (aj (af (aa 2)) aF))) [cL (.rf 0),-(nd k),-(.tuple (aB (ks++[k])))] (dW b {p.1 with wt:=cL (ks++[k],g,lD)} p.2 Z J)=.ok ((bF b (ks++[k])).map a9) (dW b {p.1 with wt:=cL (ks++[k],g,lD)} p.2 Z (J++[.dead])):=
  (vU (sT (ai (mr rfl) (ai (ag (ah rfl)) az)) rfl (wV Y n)) aM).trans (by rw[gk];rfl)
 have rt:cz {dR de {aa 2}} (bV [cL (.rf 0),-(nd k),-(.tuple (aB (ks++[k])))])=.ok (.ow (aB [(ks++[k]).length]),bV [cL (.rf 0),-(nd k),-(.tuple (aB (ks++[k])))]):=by refine iJ (am (bX (am (ah rfl) ay) rfl ((fJ _).trans (by rw[b9]))) ay) rfl (QR rfl)
 have l:aO (g7 br (kB 1 [] (iR (ie bG 2 (aj (bE "Hand" "bed" (aq 0)) (aj (af (aa 2)) aF)))) (eI 0) jU (af (dR de {au aC (aa 0) (~~~0)}))) (af (cz {dR de {aa 2}}))) [cL (.rf 0),-(nd k),-(.tuple (aB (ks++[k])))] (dW b {p.1 with wt:=cL (ks++[k],g,lD)} p.2 Z J)=.ok (decide ((bF b (ks++[k])).map (·.1.length)=[(ks++[k]).length])) (dW b {p.1 with wt:=cL (ks++[k],g,lD)} p.2 Z (J++[.dead])++[.lst ((aB ((bF b (ks++[k])).map (·.1.length))).map .fz)]++[.lst ((aB [(ks++[k]).length]).map .fz)]):=
  aA (bz (tF A C) (eE rt) (p7 (fG (eC aM)) (fG aM) (lN _ _)))
 have d:HS b ({p.1 with wt:=cL (ks++[k],g,lD)},p.2) (dW b {p.1 with wt:=cL (ks++[k],g,lD)} p.2 Z (J++[.dead])++[.lst ((aB ((bF b (ks++[k])).map (·.1.length))).map .fz)]++[.lst ((aB [(ks++[k]).length]).map .fz)]):=⟨Z,_,j,rfl⟩;generalize (dW b {p.1 with wt:=cL (ks++[k],g,lD)} p.2 Z (J++[.dead])++[.lst ((aB ((bF b (ks++[k])).map (·.1.length))).map .fz)]++[.lst ((aB [(ks++[k]).length]).map .fz)]:aW)=ω3 at l d;rw[B];refine dI rfl (bU (bz (cA (bC rfl) (ag aw) e0) (ag (eA (am (ah rfl) ay) rfl (QR rfl))) (bi (sG f.ne (f.len Y)))) rfl (jw (j5 (cL (ks++[k],g,lD)) rfl (mO (ai (ag (ah rfl)) (ai (cA (bC rfl) (ag aw) e1) (ai (ag aw) az))) (QR rfl))) (rp l (λq=>?_) λq=>?_)))
 .rw[ax (a6 q)];obtain⟨m,z,y⟩:=j0 Y d ⟨h.sa.ac,h.sa.oc⟩ rfl v u;exact cg (bP d (by rfl) rfl az rfl z) ⟨rfl,y⟩
 .rw[a3 (of_decide_eq_false q)];exact eS ⟨rfl,d⟩
theorem FH(d:SW b p.1)(f:p.1.wt=cL (ks,g,lD))(v:WV b p.1.ac (ks++[k]) g lD)(h:g<b.wt):SW b (jz b p k).1:=by
 have j:jz b p k=if(bF b (ks++[k])).map (·.1.length)=[(ks++[k]).length]then bt b ({p.1 with wt:=cL (ks++[k],g,lD)},p.2)else({p.1 with wt:=cL (ks++[k],g,lD)},p.2):=by unfold jz;rw[f]
 rw[j];split
 .exact(eJ Y (p:=({p.1 with wt:=cL (ks++[k],g,lD)},p.2)) ⟨d.sa.ac,d.sa.oc⟩ λ_ _ _ e=>by cases e;exact v).1
 .exact⟨⟨d.sa.ac,d.sa.oc⟩,λ_ _ _ e=>by cases e;exact⟨v,h⟩⟩
omit Y in
theorem xM(s:SK)(m:Mn):(cC s m).ac=s.ac/\(cC s m).wt=s.wt:=by unfold cC;split<;>exact⟨rfl,rfl⟩
omit Y in
theorem tO{m:Mn}(h:SA b s):SA b (cC s m):=by
 unfold cC;split
 .exact h
 .exact⟨h.ac,λo e=>by cases e⟩
theorem Jw(C:HS b p ω)(P:SA b p.1)(hw:p.1.wt=lD)(S:(k:Int)<b.n)(hl:p.2.length<900):∃ω',fO [.rf 0,.fz (nd k)] ω=.ok (.fz .none) ω'/\HS b (uJ b p k) ω':=by
 obtain⟨O,N⟩:=pV Y P;have H:=Gd Y O N S;obtain⟨l,Q⟩:=nK Y O N S;obtain⟨ω1,h1,U7⟩:=mn C;have h5:=Y.n5;have eb:uJ b p k=kU b (gR p.1.ac p.1.oc) (cC p.1 (look b (gR p.1.ac p.1.oc) k),p.2) k (look b (gR p.1.ac p.1.oc) k):=rfl;rw[eb];have R:ie dh 1 (aj (aP "Hand" "stands" bH 1 (aq 0) aF) aF) [cL (.rf 0),-(nd k),lD,lD,lD] ω=.ok (.fz (.int (gR p.1.ac p.1.oc))) ω1:=sY (ai (bP C (by rfl) rfl az rfl h1) az) rfl (oV p.1);generalize gR p.1.ac p.1.oc=L at H l Q R O N;generalize look b L k=m at H l Q;obtain⟨Z,J,hp,rfl⟩:=U7;have lb:=l.lb;have c0:=jI m;have c1:=Ng m;have c2:=wB m;have c3:=fS m;have c4:=xP m;have eL:br (.int L) (.int 0)=-(.bool (decide (L=0))):=jo _ _;have z:(aG (bq (aH (ar (au jX (aa 4) (aN {pC (.str "layer"),pC (.str "once")})))) (T3 "Hand" "once" (aq 0) (af (pC .none))) bA) bA) [cL (.rf 0),-(nd k),-(.int L),-(mD m),-(.str (wd m))] (dW b p.1 p.2 Z J)=.ok (.nx [cL (.rf 0),-(nd k),-(.int L),-(mD m),-(.str (wd m))]) (dW b (cC p.1 m) p.2 Z J):=by
  have t:aH (ar (au jX (aa 4) (aN {pC (.str "layer"),pC (.str "once")}))) [cL (.rf 0),-(nd k),-(.int L),-(mD m),-(.str (wd m))] (dW b p.1 p.2 Z J)=.ok (!(m.V1||m.Yc)) (dW b p.1 p.2 Z J):=aK (by fail "ev");unfold cC;cases q:(m.V1||m.Yc)with
  |true=>rw[q]at t;rw[ax rfl];exact fM (lU t ko) ko
  |false=>rw[q]at t;rw[a3 Rh];exact fM (jT t (yF lD rfl (ag aw))) ko
 have T:=xM p.1 m;have G:SA b (cC p.1 m):=tO P;have E:Z.Perm (ei (cC p.1 m).ac):=by simp_all
 have y:HS b (cC p.1 m,p.2) (dW b (cC p.1 m) p.2 Z J):=⟨Z,J,E,rfl⟩;generalize cC p.1 m=s2 at z T G E y;have M:Tu ((bq (aH (ar (au br (aa 4) (pC (.str "tap"))))) (T3 "Hand" "waiting" (aq 0) (af (aN {aN {aa 1},~~~0,aa 3}))) (bq (gq (aH (ar (au br (aa 4) (pC (.str "letter"))))) (gq (aH (ar (au br (aa 2) (~~~0)))) (aO (g7 mY (ie bG 2 (aj (bE "Hand" "bed" (aq 0)) (aj (af (aN {aa 1})) aF))) (af (cz ap)))))) (T3 "Hand" "waiting" (aq 0) (af (aN {aN {aa 1},~~~0,pC (.tuple [(.str "chord")])}))) (bq (aH (ar (au br (aa 4) (pC (.str "once"))))) (aG (aY (aP "Hand" "come" bx 3 (aq 0) (aj (af (aa 1)) (aj (af (pC (.tuple [(.str "none")]))) aF))))
 (T3 "Hand" "once" (aq 0) (af (au aC (aa 3) (~~~1))))) (aY (aP "Hand" "come" bx 3 (aq 0) (aj (af (aa 1)) (aj (af (aa 3)) aF))))))) [cL (.rf 0),-(nd k),-(.int L),-(mD m),-(.str (wd m))] (dW b s2 p.2 Z J)) (λ_ ω'=>SV.fz .none=.fz .none/\HS b (kU b L (s2,p.2) k m) ω') (λ_ _=>False) (λr ω'=>r=.fz .none/\HS b (kU b L (s2,p.2) k m) ω'):=by
  have v:∀{ω:aW},aH (ar (au br (aa 4) (pC (.str "tap")))) [cL (.rf 0),-(nd k),-(.int L),-(mD m),-(.str (wd m))] ω=.ok m.isT ω:=aK (by fail "ev");have B:∀{ω:aW},aH (ar (au br (aa 4) (pC (.str "letter")))) [cL (.rf 0),-(nd k),-(.int L),-(mD m),-(.str (wd m))] ω=.ok m.YB ω:=aK (by fail "ev");have A:∀{ω:aW},aH (ar (au br (aa 4) (pC (.str "once")))) [cL (.rf 0),-(nd k),-(.int L),-(mD m),-(.str (wd m))] ω=.ok m.Yc ω:=aK (by fail "ev");have F:∀{ω:aW},aH (ar (au br (aa 2) (~~~0))) [cL (.rf 0),-(nd k),-(.int L),-(mD m),-(.str (wd m))] ω=.ok (decide (L=0)) ω:=aK (by fail "ev");have kt:∀{ω:aW},af (aN {aa 1}) [cL (.rf 0),-(nd k),-(.int L),-(mD m),-(.str (wd m))] ω=.ok (.fz (.tuple (aB [k]))) ω:=ag (eA (am (ah rfl) ay) rfl (QR rfl));have cm:∀{ω:aW},HS b (s2,p.2) ω->VA b.ls.length m->∃ω',aY (aP "Hand" "come" bx 3 (aq 0) (aj (af (aa 1)) (aj (af (aa 3)) aF))) [cL (.rf 0),-(nd k),-(.int L),-(mD m),-(.str (wd m))] ω=.ok (.nx [cL (.rf 0),-(nd k),-(.int L),-(mD m),-(.str (wd m))]) ω'/\HS b (dJ (s2,p.2) k m) ω':=λ{ω} C va=>by obtain⟨ω',j,e⟩:=nR (k:=k) C (G.ak Y) va.lb (by ext) (show p.2.length<1000 by ext);exact⟨ω',lj (bP C (by rfl) rfl (ai (ag (ah rfl)) (ai (ag (ah rfl)) az)) rfl j),e⟩
  cases m with
  |below=>simp_all
  |U8 c n=>refine fP v (i6 (j5 (cL ([k],0,cL (c,n))) rfl (ag (ρ':=bV [cL (.rf 0),-(nd k),-(.int L),-(mD (.U8 c n)),-(.str (wd (.U8 c n)))]) ?_)) ⟨rfl,Z,J,E,rfl⟩);rfl
  |Q6 c=>
   obtain⟨d1,d2⟩:VA b.ls.length (.Q6 c)/\True:=⟨l,trivial⟩;by_cases K:L=0
   .rw[a4 K]at F
    have ov:=xO Y (ω1:=dW b s2 p.2 Z J) ⟨Z,J,rfl⟩ rfl (QR rfl) kt;have I:HS b (s2,p.2) (dW b s2 p.2 Z J++[.lst (((bF b [k]).map a9).map .fz)]++[.lst []]):=⟨Z,_,E,rfl⟩;have u:kU b L (s2,p.2) k (.Q6 c)=if(!(bF b [k]).isEmpty)=QM then({s2 with wt:=cL ([k],0,lD)},p.2)else dJ (s2,p.2) k (.Q6 c):=by show(if(decide (L=0)&& !(bF b [k]).isEmpty)=QM then _ else _)=_;rw[a4 K,UA]
    rw[u];refine aV v (rp (cJ B (cJ F (aA ov))) (λq=>?_) λq=>?_)
    .rw[ax q];refine i6 (j5 (cL ([k],0,lD)) rfl (ag (ρ':=bV [cL (.rf 0),-(nd k),-(.int L),-(mD (.Q6 c)),-(.str (wd (.Q6 c)))]) ?_)) ⟨rfl,Z,_,E,rfl⟩;rfl
    .rw[a3 (by rw[q];simp)];obtain⟨ω',j,e⟩:=cm I l;exact aV A (i6 j ⟨rfl,e⟩)
   .rw[a5 K]at F
    have u:kU b L (s2,p.2) k (.Q6 c)=dJ (s2,p.2) k (.Q6 c):=by show(if(decide (L=0)&& !(bF b [k]).isEmpty)=QM then _ else _)=_;simp_all
    rw[u];obtain⟨ω',j,e⟩:=cm y l;exact aV v (aV (cJ B (bQ F)) (aV A (i6 j ⟨rfl,e⟩)))
  |Sr n=>obtain⟨ω',j,e⟩:=cm y l;exact aV v (aV (bQ B) (aV A (i6 j ⟨rfl,e⟩)))
  |none=>obtain⟨ω',j,e⟩:=cm y trivial;exact aV v (aV (bQ B) (aV A (i6 j ⟨rfl,e⟩)))
  |once n=>obtain⟨ω',j,e⟩:=nR (k:=k) (a:=.none) y (G.ak Y) trivial (by ext) (show p.2.length<1000 by ext);have i1:aC (mD (.once n)) (.int 1)=-(.int n):=ig;obtain⟨X,J2,hq,rfl⟩:=e;refine aV v (aV (bQ B) (fP A (jw (lj (bP y (by rfl) rfl (ai (ag (ah rfl)) (ai (ag aw) az)) rfl j)) (i6 (yF (cL n) rfl (ag (ρ':=bV [cL (.rf 0),-(nd k),-(.int L),-(mD (.once n)),-(.str (wd (.once n)))]) ?_)) ⟨rfl,X,J2,hq,rfl⟩))));rfl
 refine dI (ρ:=[cL (.rf 0),-(nd k),lD,lD,lD]) rfl (bU R rfl (bU (sY (ds:=[bD b,.int L,nd k]) (ai (mr rfl) (ai (ag (ah rfl)) (ai (ag (ah rfl)) az))) rfl H) rfl (bU (ag (d:=.str (wd m)) (ρ':=bV [cL (.rf 0),-(nd k),-(.int L),-(mD m),lD]) (av (rv:=.fz (.str (wd m))) (ah rfl) aw rfl rfl c0)) rfl ?_)));refine .eq ?_ M;have U:∀{f g:fw} {ρ:aZ} {ω ω':aW},aG f bA ρ ω=.ok (.nx ρ) ω'->aG f g ρ ω=g ρ ω':=λ{f g ρ ω ω'} h=>by
  unfold aG at h⊢;cases q:f ρ ω with
  |bad=>rw[q]at h;cases h
  |er x o=>rw[q]at h;cases h
  |ok fl o=>
   rw[q]at h;cases fl with
   |nx r=>cases h;rfl
   |_=>cases h
 exact U z
end
section
variable{b:Bd}(Z:VB b){s:SK}{sn:Sn}{Y:bb (Nat×Mn)}{J:aW}{ρ:aZ}{i:Nat}{ω:aW}{p:SK×Sn}{k:Nat}{a:Mn}{ks:bb Nat}{g:Int}{w:bg (Nat×Int)}
include Z
omit Z in
theorem yG(h:SA b s)(d:s.wt=lD):SW b s:=⟨h,λ_ _ _ e=>by rw[d]at e;cases e⟩
theorem KA(v:SA b p.1)(I:p.1.wt=lD)(C:(k:Int)<b.n)(ha:p.1.ac k=lD):SW b (uJ b p k).1:=by
 obtain⟨F,E⟩:=pV Z v;obtain⟨d,y⟩:=nK Z F E C;have M:uJ b p k=kU b (gR p.1.ac p.1.oc) (cC p.1 (look b (gR p.1.ac p.1.oc) k),p.2) k (look b (gR p.1.ac p.1.oc) k):=rfl;rw[M];generalize gR p.1.ac p.1.oc=L at d y F E;generalize look b L k=m at d y;have u:=xM p.1 m;have f:SA b (cC p.1 m):=tO v;have j:=u.2.trans I;have t:(cC p.1 m).ac k=lD:=by rw[u.1];exact ha
 generalize cC p.1 m=s2 at f j t;have Q:=Z.w1;have z:[k].Nodup:=Sw.mpr ⟨Sq,Vd⟩;have A:∀x∈[k],(x:Int)<b.n:=λx l=>by simp_all
 have B:∀x∈[k],s2.ac x=lD:=λx l=>by simp_all
 have cm:∀m,VA b.ls.length m->SW b (dJ (s2,p.2) k m).1:=λm G=>yG (f.cm C G) j;cases m with
 |below=>simp_all
 |U8 c n=>refine⟨⟨f.ac,f.oc⟩,λ_ _ _ e=>?_⟩;cases e;exact⟨⟨by simp,z,A,B,UB _,λP H e=>by cases e;exact⟨d.1,d.2,rfl⟩,λe=>by cases e⟩,by ext⟩
 |Q6 c=>
  show SW b (if(decide (L=0)&& !(bF b [k]).isEmpty)=QM then({s2 with wt:=cL ([k],0,lD)},p.2)else dJ (s2,p.2) k (.Q6 c)).1;split
  .rename_i q
   refine⟨⟨f.ac,f.oc⟩,λ_ _ _ e=>?_⟩;cases e;refine⟨⟨by simp,z,A,B,UB _,λP H e=>(by cases e),λ_ x l=>?_⟩,by ext⟩;have R:=(CL _ _▸q:_/\_).2;cases qo:bF b [k]with
   |nil=>simp_all
   |cons c r=>
    have K:c∈bF b [k]:=by simp_all
    obtain⟨O,N⟩:=RT.mp K;exact(Z.vc c O).2.2.1 x (a6 (Sg.mp N x l))
  .exact cm _ d
 |Sr n=>exact cm _ d
 |none=>exact cm _ trivial
 |once n=>have h:=cm .none trivial;exact⟨⟨h.sa.ac,λo e=>by cases e;exact d⟩,λks g w e=>by have e:s2.wt=cL (ks,g,w):=e;simp_all⟩
theorem SW.wd(h:SW b s):WD b s:=λks g w e=>(h.wt ks g w e).1
omit Z in
theorem vO(d:bb (Nat×Mn)):∀{p:SK×Sn},p.1.ac k=lD->k∉d.map (·.1)->(eh p d).1.ac k=lD:=by
 induction d with
 |nil=>exact λh _=>h
 |cons q r e=>intro p h hn;rw[Q7,Rm,not_or]at hn;exact e (p:=dJ p q.1 q.2) ((fV hn.1).trans h) hn.2
omit Z in
theorem oi(ha:p.1.ac k=lD)(hn:p8 p.1.wt k=QP):(bt b p).1.ac k=lD:=by
 unfold bt;split
 .exact ha
 .rename_i ks g w q;refine vO _ (p:=({p.1 with wt:=lD},p.2)) ha λz=>?_;rw[q]at hn;obtain⟨x,d,rfl⟩:=RP.mp z;exact of_decide_eq_false hn (T5 d).1
theorem Bt(e:SW b p.1)(f:(k:Int)<b.n):SW b (gK b p k).1:=by
 unfold gK;split
 .exact e
 .rename_i q
  rw[Sd,not_or]at q;have ha:p.1.ac k=lD:=by simp_all
  have hn:p8 p.1.wt k=QP:=by simp_all
  split
  .rename_i h;obtain⟨ks,g,e1,e2,e3,e4⟩:=pY Z e f ha hn h;exact FH Z e e1 e3 e4
  .have d:=eJ Z e.sa (SW.wd Z e);exact KA Z d.1.sa d.2.1 f (oi ha hn)
theorem CW(h:HS b p ω)(f:SW b p.1)(A:(k:Int)<b.n)(N:p.2.length<800):∃ω',gX [.rf 0,.fz (nd k)] ω=.ok (.fz .none) ω'/\HS b (gK b p k) ω':=by
 have O:=Z.n5;have z:k<5:=by ext
 have M:uU (aO (kT QP (af (aa 1)) (bE "Hand" "acts" (aq 0)))) (aO (aP "Hand" "is_waiting" b8 2 (aq 0) (aj (af (aa 1)) aF))) [cL (.rf 0),-(nd k)] ω=.ok ((p.1.ac k).isSome||p8 p.1.wt k) ω:=by
  have I:=bP (ρ:=[cL (.rf 0),-(nd k)]) (i:=0) (m:= "is_waiting") (fa:=aj (af (aa 1)) aF) h (by rfl) rfl (ai (ag (ah rfl)) az) rfl (DM h);obtain⟨Y,J,y,rfl⟩:=h
  have t:kT QP (af (aa 1)) (bE "Hand" "acts" (aq 0)) [cL (.rf 0),-(nd k)] (dW b p.1 p.2 Y J)=.ok (.fz (.bool (p.1.ac k).isSome)) (dW b p.1 p.2 Y J):=
   (pM (ag (ah rfl)) (gM rfl) rfl rfl).trans (by rw[show eD (Y.map iA) (.inl (k:Int))=_ from gO y z];simp_all)
  cases q:(p.1.ac k).isSome with
  |true=>rw[q]at t;rw[VF];exact jJ (aA t)
  |false=>rw[q]at t;rw[Uz];exact dE (aA t) (aA I)
 refine dI rfl (pS M (λq=>?_) λq=>cb ?_)
 .unfold gK;rw[ax q];exact lP ⟨rfl,h⟩
 rw[Ve]at q;have ha:p.1.ac k=lD:=by simp_all
 have L:gK b p k=if lB b p.1 k=QM then jz b p k else uJ b (bt b p) k:=by unfold gK;simp_all
 rw[L];obtain⟨u,H,l⟩:=Jz Z h f A q.2;refine pS (aA (bP h (by rfl) rfl (ai (ag (ah rfl)) az) rfl H)) (λo=>?_) λo=>cb ?_
 .rw[ax o];obtain⟨ks,g,e1,e2,e3,e4⟩:=pY Z f A ha q.2 o;obtain⟨e,B,j⟩:=HE Z l f e1 e3 (f.wt _ _ _ e1).1 (by ext);exact wv (dj (bP l (by rfl) rfl (ai (ag (ah rfl)) az) rfl B) (lP ⟨rfl,j⟩))
 .rw[a3 (by rw[o];simp)]
  have d:=eJ Z f.sa (SW.wd Z f);have E:∀e,HS b (bt b p) e->Tu (aY (aP "Hand" "begin" fO 2 (aq 0) (aj (af (aa 1)) aF)) [cL (.rf 0),-(nd k)] e) (λ_ ω'=>SV.fz .none=.fz .none/\HS b (uJ b (bt b p) k) ω') (λ_ _=>False) (λr ω'=>r=.fz .none/\HS b (uJ b (bt b p) k) ω'):=λe j=>by obtain⟨F,K,v⟩:=Jw Z j d.1.sa d.2.1 A (by ext);exact cg (bP j (by rfl) rfl (ai (ag (ah rfl)) az) rfl K) ⟨rfl,v⟩
  cases qw:p.1.wt with
  |none=>
   have P:bt b p=p:=by unfold bt;rw[qw]
   have e1:gS (fm p.1.wt) .none=-(.bool QP):=by rw[qw];rfl
   have C:=E u (by simp_all);obtain⟨Y,J,y,rfl⟩:=l;exact dg (aA (bz (bC rfl) (ag aw) (bi e1))) (cb C)
  |some x=>
   obtain⟨ks,g,w⟩:=x;have e1:gS (fm p.1.wt) .none=-(.bool QM):=by rw[qw];rfl
   obtain⟨e,B,j⟩:=j0 Z l f.sa qw (f.wt _ _ _ qw).1 (by ext);have G:=bP (ρ:=[cL (.rf 0),-(nd k)]) (i:=0) (m:= "decide") l (by rfl) rfl az rfl B;obtain⟨Y,J,y,rfl⟩:=l;exact eV (aA (bz (bC rfl) (ag aw) (bi e1))) (dj G (E e j))
theorem iU(e:SW b p.1)(f:p8 p.1.wt k=QM):SW b (bu b p k).1/\(bu b p k).2.length<=p.2.length+5:=by
 unfold bu;split
 .have d:=eJ Z e.sa (SW.wd Z e);simp_all
 .rename_i ks g c n q
  have v:=(e.wt _ _ _ q).1;rw[q]at f;have h:=v.kn k (a6 f);have j:=(v.tp c n rfl).1;refine⟨yG (SA.cm ⟨e.sa.ac,e.sa.oc⟩ h j) rfl,?_⟩;have:=lC (p:=({p.1 with wt:=lD},p.2)) (k:=k) (a:=.Q6 c)
  grind
 simp_all
theorem fT(f:HS b p ω)(d:SW b p.1)(e:p8 p.1.wt k=QM)(F:p.2.length<800):∃ω',fW [.rf 0,.fz (nd k)] ω=.ok (.fz .none) ω'/\HS b (bu b p k) ω':=by
 have H:=Z.n5;cases q:p.1.wt with
 |none=>rw[q]at e;cases e
 |some x=>
  obtain⟨ks,g,w⟩:=x;have v:=(d.wt _ _ _ q).1;have E:k∈ks:=by rw[q]at e;exact a6 e
  have e2:aC (fm p.1.wt) (.int 2)=-(iW w):=by rw[q];exact kA
  have B:=(rO λc n h=>(v.tp c n h).1).1;have r:∀{ω:aW},aH (ar (au br (aa 2) (pC (.tuple [.str "chord"])))) [cL (.rf 0),-(nd k),-(iW w)] ω=.ok w.isNone ω:=aK (aR (av (ah rfl) aw rfl rfl B) rfl);cases w with
  |none=>
   have es:bu b p k=bt b p:=by unfold bu;rw[q]
   rw[es];obtain⟨j,l,o⟩:=j0 Z f d.sa q v (by ext);have y:=bP (ρ:=[cL (.rf 0),-(nd k),-(iW lD)]) (i:=0) (m:= "decide") f (by left) rfl az rfl l;obtain⟨Y,J,t,rfl⟩:=f;exact dI rfl (bU (cA (bC rfl) (ag aw) e2) rfl (fP r (cg y ⟨rfl,o⟩)))
  |some C=>
   obtain⟨c,n⟩:=C;have es:bu b p k=dJ ({p.1 with wt:=lD},p.2) k (.Q6 c):=by unfold bu;rw[q]
   rw[es];have A:=(v.tp c n rfl).1;have G:=v.kn k E;obtain⟨Y,J,t,rfl⟩:=f;have u:HS b ({p.1 with wt:=lD},p.2) (dW b {p.1 with wt:=lD} p.2 Y J):=⟨Y,J,t,rfl⟩;obtain⟨j,l,o⟩:=nR (k:=k) (a:=.Q6 c) u (SA.ak Z ⟨d.sa.ac,d.sa.oc⟩) A (by ext) (show p.2.length<1000 by ext);have z:aC (iW (cL (c,n))) (.int 1)=-(.str (cW c)):=ig;exact dI rfl (bU (cA (bC rfl) (ag aw) e2) rfl (aV r (jw (j5 lD rfl (ag aw)) (cg (bP u (by left) rfl (ai (ag (ah rfl)) (ai (ag (eA (am aw (am (av (ah rfl) aw rfl rfl z) ay)) rfl (QR rfl))) az)) rfl l) ⟨rfl,o⟩))))
omit Z in
theorem HX(d:SW b p.1):SW b (go p k).1:=by
 refine⟨d.sa.gg,?_⟩;unfold go;split
 .intro ks g w e;obtain⟨v,h⟩:=d.wt ks g w e;exact⟨⟨v.ne,v.nd,v.kn,λx f=>by
   by_cases z:x=k
   .rw[z];exact dD
   .exact(fV z).trans (v.kf x f),v.g0,v.tp,v.ch⟩,h⟩
 .exact d.wt
theorem Gf(d:SW b p.1):SW b (qj b p k).1:=by
 unfold qj;split
 .rename_i q;exact HX (iU Z d q).1
 .exact HX d
theorem Ez(d:HS b p ω)(f:SW b p.1)(E:(k:Int)<b.n)(u:p.2.length<700):∃ω',iy [.rf 0,.fz (nd k)] ω=.ok (.fz .none) ω'/\HS b (qj b p k) ω':=by
 have F:=Z.n5;have h:k<5:=by ext
 have e:∀{p:SK×Sn} {ω:aW},HS b p ω->SW b p.1->p.2.length<800->Tu (bq (aO (kT QP (af (aa 1)) (bE "Hand" "acts" (aq 0)))) (aY (aP "Hand" "go" iX 2 (aq 0) (aj (af (aa 1)) aF))) bA [cL (.rf 0),-(nd k)] ω) (λ_ ω'=>SV.fz .none=.fz .none/\HS b (go p k) ω') (λ_ _=>False) (λr ω'=>r=.fz .none/\HS b (go p k) ω'):=λ{p ω} d f u=>by
  cases qa:p.1.ac k with
  |none=>
   have A:go p k=p:=by unfold go;rw[qa]
   rw[A];obtain⟨Y,J,j,rfl⟩:=d;refine aV (aA ((pM (ag (ah rfl)) (gM rfl) rfl rfl).trans (by rw[show eD (Y.map iA) (.inl (k:Int))=_ from gO j h,qa];rfl))) (eS ⟨rfl,Y,J,j,rfl⟩)
  |some a=>obtain⟨l,v,B⟩:=Mm d (f.sa.ak Z) qa (by ext);have t:=bP (ρ:=[cL (.rf 0),-(nd k)]) (i:=0) (m:= "go") (fa:=aj (af (aa 1)) aF) d (by rfl) rfl (ai (ag (ah rfl)) az) rfl v;obtain⟨Y,J,j,rfl⟩:=d;exact fP (aA ((pM (ag (ah rfl)) (gM rfl) rfl rfl).trans (by rw[show eD (Y.map iA) (.inl (k:Int))=_ from gO j h,qa];rfl))) (cg t ⟨rfl,B⟩)
 refine dI rfl (pS (aA (bP d (by rfl) rfl (ai (ag (ah rfl)) az) rfl (DM d))) (λq=>?_) λq=>?_)
 .unfold qj;rw[ax q];obtain⟨o,y,C⟩:=fT Z d f q (by ext);have z:=iU Z f q;exact dj (bP d (by rfl) rfl (ai (ag (ah rfl)) az) rfl y) (e C z.1 (by ext))
 .unfold qj;rw[a3 (by rw[q];simp)];exact cb (e d f (by ext))
theorem G8(d:SW b p.1):SW b (fR b p).1:=by
 unfold fR;split
 .exact d
 .rename_i ks g w q
  obtain⟨v,j⟩:=d.wt ks g w q;have f:WV b p.1.ac ks (g+1) w:=⟨v.ne,v.nd,v.kn,v.kf,by have:=v.g0;ext,v.tp,v.ch⟩;split
  .exact(eJ Z (p:=({p.1 with wt:=cL (ks,g+1,w)},p.2)) ⟨d.sa.ac,d.sa.oc⟩ λ_ _ _ e=>by simp_all).1
  .rename_i h;exact⟨⟨d.sa.ac,d.sa.oc⟩,λ_ _ _ e=>by cases e;exact⟨f,by ext⟩⟩
theorem F4(m:HS b p ω)(d:SW b p.1)(r:p.2.length<800):∃ω',fC [.rf 0] ω=.ok (.fz .none) ω'/\HS b (fR b p) ω':=by
 obtain⟨Y,J,h,rfl⟩:=m;cases q:p.1.wt with
 |none=>
  have e:fR b p=p:=by unfold fR;rw[q]
  rw[e];have e1:lG (fm p.1.wt) .none=-(.bool QM):=by rw[q];rfl
  exact dI rfl (eV (aA (bz (bC rfl) (ag aw) (bi e1))) (lP ⟨rfl,Y,J,h,rfl⟩))
 |some x=>
  obtain⟨ks,g,w⟩:=x;have v:=(d.wt _ _ _ q).1;have l:WV b p.1.ac ks (g+1) w:=⟨v.ne,v.nd,v.kn,v.kf,by have:=v.g0;ext,v.tp,v.ch⟩;have e:fR b p=if g+1=b.wt then bt b ({p.1 with wt:=cL (ks,g+1,w)},p.2)else({p.1 with wt:=cL (ks,g+1,w)},p.2):=by unfold fR;rw[q]
  rw[e];have e1:lG (fm p.1.wt) .none=-(.bool QP):=by rw[q];rfl
  have e0:aC (fm p.1.wt) (.int 0)=-(.tuple (aB ks)):=by rw[q];exact gQ
  have e2:aC (fm p.1.wt) (.int 2)=-(iW w):=by rw[q];exact kA
  have e3:aC (fm p.1.wt) (.int 1)=-(.int g):=by rw[q];exact ig
  have e4:aC (bD b) (.int 3)=-(.int b.wt):=Ex rfl;have f:HS b ({p.1 with wt:=cL (ks,g+1,w)},p.2) (dW b {p.1 with wt:=cL (ks,g+1,w)} p.2 Y J):=⟨Y,J,h,rfl⟩;refine dI rfl (dg (aA (bz (bC rfl) (ag aw) (bi e1))) (cb (bU (bz (cA (bC rfl) (ag aw) e3) (ag aw) (bi (gA _ _))) rfl (jw (j5 (cL (ks,g+1,w)) rfl (mO (ai (cA (bC rfl) (ag aw) e0) (ai (ag (ah rfl)) (ai (cA (bC rfl) (ag aw) e2) az))) (QR rfl))) (rp (aA (bz (ag (ah rfl)) (cA (mr rfl) (ag aw) e4) (bi (jo _ _)))) (λz=>?_) λz=>?_)))))
  .rw[ax (a6 z)];obtain⟨j,n,o⟩:=j0 Z f ⟨d.sa.ac,d.sa.oc⟩ rfl l (show p.2.length<900 by ext);exact cg (bP f (by rfl) rfl az rfl n) ⟨rfl,o⟩
  .rw[a3 (of_decide_eq_false z)];exact eS ⟨rfl,f⟩
def UR.Ys:UR->Bool
 |.turn=>QM
 |_=>QP
def UR.isDown:UR->Bool
 |.down _=>QM
 |_=>QP
def EV(b:Bd):UR->Prop
 |.down k=>(k:Int)<b.n
 |.up k=>(k:Int)<b.n
 |.turn=>True
theorem xK(d:SW b s)(f:EV b e):SW b (cQ b s e).1:=by
 cases e with
 |down k=>exact Bt Z d f
 |up k=>exact Gf Z d
 |turn=>exact G8 Z d
omit Z in
theorem qM:∀l:bb (Nat×Mn),aD pz (l.map pD)=cL (l.map iA)
 |[]=>rfl
 |q::r=>by rw[Q7];unfold aD;rw[qM r];rfl
omit Z in
theorem t6:∀(l acc:bb (Nat×Mn)),((acc++l).map (·.1)).Nodup->gH (acc.map iA) (l.map iA)=(acc++l).map iA
 |[],acc,_=>by rw[Ru];rfl
 |q::r,acc,h=>by
  have hn:∀x∈acc,x.1≠q.1:=λx d e=>by rw[RI,Ut]at h;exact h.2.2 _ (RP.mpr ⟨x,d,rfl⟩) q.1 Q2 e
  have e1:cH (acc.map iA) (iA q).1 (iA q).2=(acc++[q]).map iA:=by
   unfold cH;rw[a3 ?_,RI]
   .rfl
   .intro z;obtain⟨n,m,j⟩:=S0.mp z;obtain⟨x,f,rfl⟩:=RP.mp m;have:=Sum.inl.inj (a6 j);exact hn x f (by ext)
  show gH (cH (acc.map iA) (iA q).1 (iA q).2) (r.map iA)=_;rw[e1,t6 r (acc++[q]) (by rw[Sa];exact h),Sa];rfl
omit Z in
theorem GQ:dA [.rf 0,.fz (bD b),.fz (fu s)] [.obj "Hand" []]=.ok (.fz .none) (dW b s [] (ei s.ac) []):=by
 have e0:aC (fu s) (.int 0)=-(.tuple ((ei s.ac).map pD)):=gQ;have e1:aC (fu s) (.int 1)=-(fm s.wt):=ig;have e2:aC (fu s) (.int 2)=-(kS s.oc):=kA;have v:hU "bed" (.fz (bD b)) []=([("bed",.fz (bD b))]:bb (Str×SV)):=rfl;have q:hU "acts" (.rf 1) ([("bed",.fz (bD b))]:bb (Str×SV))=([("bed",.fz (bD b)),("acts",.rf 1)]:bb (Str×SV)):=by unfold hU;rw[a3 (by left)];rfl
 have o:hU "waiting" (.fz (fm s.wt)) ([("bed",.fz (bD b)),("acts",.rf 1)]:bb (Str×SV))=([("bed",.fz (bD b)),("acts",.rf 1),("waiting",.fz (fm s.wt))]:bb (Str×SV)):=by unfold hU;rw[a3 (by left)];unfold hU;rw[a3 (by left)];rfl
 have n:hU "once" (.fz (kS s.oc)) ([("bed",.fz (bD b)),("acts",.rf 1),("waiting",.fz (fm s.wt))]:bb (Str×SV))=([("bed",.fz (bD b)),("acts",.rf 1),("waiting",.fz (fm s.wt)),("once",.fz (kS s.oc))]:bb (Str×SV)):=by unfold hU;rw[a3 (by left)];unfold hU;rw[a3 (by left)];unfold hU;rw[a3 (by left)];rfl
 have m:hU "sent" (.rf 2) ([("bed",.fz (bD b)),("acts",.rf 1),("waiting",.fz (fm s.wt)),("once",.fz (kS s.oc))]:bb (Str×SV))=Hj b s:=by unfold hU;rw[a3 (by left)];unfold hU;rw[a3 (by left)];unfold hU;rw[a3 (by left)];unfold hU;rw[a3 (by left)];rfl
 have r:gH [] ((ei s.ac).map iA)=(ei s.ac).map iA:=t6 (ei s.ac) [] (oA s.ac);have j:∀{x:SV} {ρ:aZ} {fs:bb (Str×SV)} {ω:aW} {l:cR} {f:Str} {c:Cell} {e:aW},ρ[0]?=cL (cL (.rf 0))->l ρ ω=.ok x (.obj "Hand" fs::e)->fs.length<100->T3 "Hand" f (aq 0) l ρ ω=.ok (.nx ρ) (.obj "Hand" (hU f x fs)::e):=λh u t=>(vR u (aU h) rfl t).trans rfl
 have ha:ri (af (au aC (aa 2) (~~~0))) [cL (.rf 0),-(bD b),-(fu s)] [.obj "Hand" ([("bed",.fz (bD b))]:bb (Str×SV))]=.ok (.rf 1) [.obj "Hand" ([("bed",.fz (bD b))]:bb (Str×SV)),.Te ((ei s.ac).map iA)]:=
  (G5 (ag (d:=.tuple ((ei s.ac).map pD)) (av (rv:=.fz (.tuple ((ei s.ac).map pD))) (ah rfl) aw rfl rfl e0)) (qM _)).trans (by rw[r];rfl)
 refine lx (ρ:=[cL (.rf 0),-(bD b),-(fu s)]) (ρ1:=[cL (.rf 0),-(bD b),-(fu s)]) rfl (fM (j rfl (c:=.dead) (ag (d:=bD b) (ah rfl)) (QR rfl)) (fM (j rfl (c:=.dead) ha (QR rfl)) (fM (j rfl (c:=.dead) (ag (d:=fm s.wt) (av (rv:=.fz (fm s.wt)) (ah rfl) aw rfl rfl e1)) (QR rfl)) (fM (j rfl (c:=.dead) (ag (d:=kS s.oc) (av (rv:=.fz (kS s.oc)) (ah rfl) aw rfl rfl e2)) (QR rfl)) ?_))));rw[q,o,n];refine(j (fs:=([("bed",.fz (bD b)),("acts",.rf 1),("waiting",.fz (fm s.wt)),("once",.fz (kS s.oc))]:bb (Str×SV))) rfl (c:=.dead) (eE (ds:=[]) (iJ ay rfl (Rz _))) (QR rfl)).trans ?_;show RS.ok _ (Cell.obj "Hand" (hU "sent" (.rf 2) ([("bed",.fz (bD b)),("acts",.rf 1),("waiting",.fz (fm s.wt)),("once",.fz (kS s.oc))]:bb (Str×SV)))::_)=_;rw[m];rfl
omit Z in
theorem GF(e:UR):∃x:Str,aC (cZ e) (.int 0)=-(.str x)/\br (.str x) (.str "turn")=-(.bool (e.Ys))/\br (.str x) (.str "down")=-(.bool (e.isDown)):=by
 have f:QO.strOk "down"=QM:=by left
 have h:QO.strOk "up"=QM:=by left
 have d:QO.strOk "turn"=QM:=by left
 cases e with
 |down k=>exact⟨"down",gQ,kE f d (by left),uR f⟩
 |up k=>exact⟨"up",gQ,kE h d (by left),kE h f (by left)⟩
 |turn=>exact⟨"turn",gQ,uR d,kE d f (by left)⟩
theorem Fw(o:SW b s)(v:EV b e):∃ω',mq [.fz (bD b),.fz (fu s),.fz (cZ e)] []=.ok (.tp [.rf 2,.fz (fu (cQ b s e).1)]) ω'/\sh ω' (.rf 2)=cL (.list ((cQ b s e).2.map ja)):=by
 have d:HS b (s,[]) (dW b s [] (ei s.ac) []):=⟨ei s.ac,[],.refl _,rfl⟩;obtain⟨x,t,z,y⟩:=GF e;have n:∀{ω:aW},aH (ar (au br (au aC (aa 2) (~~~0)) (pC (.str "turn")))) [-(bD b),-(fu s),-(cZ e),cL (.rf 0)] ω=.ok (e.Ys) ω:=aK (aR (av (av (ah rfl) aw rfl rfl t) aw rfl rfl z) rfl);have u:∀{ω:aW},aH (ar (au br (au aC (aa 2) (~~~0)) (pC (.str "down")))) [-(bD b),-(fu s),-(cZ e),cL (.rf 0)] ω=.ok (e.isDown) ω:=aK (aR (av (av (ah rfl) aw rfl rfl t) aw rfl rfl y) rfl);have j:∀{ω:aW},HS b (cQ b s e) ω->Tu (gF (jk (aj (bE "Hand" "sent" (aq 3)) (aj (aP "Hand" "stands" bH 1 (aq 3) aF) aF))) [-(bD b),-(fu s),-(cZ e),cL (.rf 0)] ω) (λ_ ω'=>SV.fz .none=.tp [.rf 2,.fz (fu (cQ b s e).1)]/\sh ω' (.rf 2)=cL (.list ((cQ b s e).2.map ja))) (λ_ _=>False) (λr ω'=>r=.tp [.rf 2,.fz (fu (cQ b s e).1)]/\sh ω' (.rf 2)=cL (.list ((cQ b s e).2.map ja))):=λ{ω} hs=>by obtain⟨f,h,l⟩:=mn hs;have m:=bP (ρ:=[-(bD b),-(fu s),-(cZ e),cL (.rf 0)]) (i:=3) (m:= "stands") hs (by rfl) rfl az rfl h;obtain⟨Y,J,E,rfl⟩:=hs;obtain⟨B,F,C,rfl⟩:=l;exact mJ (Ib (ai (tt rfl) (ai m az)) (QR rfl) rfl rfl) ⟨rfl,fG rfl⟩
 have A:ph "Hand" dA 3 (aj (af (aa 0)) (aj (af (aa 1)) aF)) [-(bD b),-(fu s),-(cZ e),lD] []=.ok (.rf 0) (dW b s [] (ei s.ac) []):=LI (ai (ag (ah rfl)) (ai (ag (ah rfl)) az)) rfl GQ;refine dI rfl (bU A rfl ?_);cases e with
 |turn=>obtain⟨f,h,l⟩:=F4 Z d o (show 0<800 by decide);exact eV n (dj (bP d (by rfl) rfl az rfl h) (j l))
 |down k=>obtain⟨f,h,l⟩:=CW Z d o v (show 0<800 by decide);have q:aC (cZ (.down k)) (.int 1)=-(nd k):=ig;exact dg n (eV u (dj (bP d (by rfl) rfl (ai (ag (av (ah rfl) aw rfl rfl q)) az) rfl h) (j l)))
 |up k=>obtain⟨f,h,l⟩:=Ez Z d o v (show 0<700 by decide);have q:aC (cZ (.up k)) (.int 1)=-(nd k):=ig;exact dg n (dg u (dj (bP d (by rfl) rfl (ai (ag (av (ah rfl) aw rfl rfl q)) az) rfl h) (j l)))
theorem MN{e:UR}(f:SW b s)(j:EV b e):rq mq 3 [.fz (bD b),.fz (fu s),.fz (cZ e)] ω=.ok (.tp [.rf ω.length,.fz (fu (cQ b s e).1)]) (ω++[.lst (((cQ b s e).2.map ja).map .fz)]):=by
 obtain⟨d,m,l⟩:=Fw Z f j;unfold rq;rw[ax (show([.fz (bD b),.fz (fu s),.fz (cZ e)]:bb SV).length=3 from rfl),show aD rM [.fz (bD b),.fz (fu s),.fz (cZ e)]=cL [bD b,fu s,cZ e]from rfl];dsimp only;rw[show[bD b,fu s,cZ e].map SV.fz=[.fz (bD b),.fz (fu s),.fz (cZ e)]from rfl,m];show(match zX d ω.length [.rf 2,.fz (fu (cQ b s e).1)]with
  |some (l',cs,js)=>if js.Nodup then RS.ok (SV.tp l') (ω++cs.map Ot)else .bad
  |none=>.bad)=_
 have h:zX d ω.length [.rf 2,.fz (fu (cQ b s e).1)]=cL ([.rf ω.length,.fz (fu (cQ b s e).1)],[(cQ b s e).2.map ja],[2]):=by unfold zX;rw[l];rfl
 rw[h];dsimp only;rw[ax (by decide)];rfl
end
def kK:SK:=⟨λ_=>lD,lD,lD⟩
theorem GN(b:Bd):SW b kK:=⟨⟨λk a e=>(by cases e),λo e=>(by cases e)⟩,λd g w e=>(by cases e)⟩
theorem kg{α:Type}{f:α->D}:∀{l:bb α},(∀a∈l,QO.canLay0 (f a)=QM)->QO.canLayAll0 (l.map f)=QM
 |[],_=>rfl
 |a::r,h=>by show(QO.canLay0 (f a)&&QO.canLayAll0 (r.map f))=QM;rw[h a Q2,kg λx b=>h x (Q0 _ b)];rfl
theorem ji{α:Type}{f:α->D}{n:Nat}:∀{l:bb α},(∀a∈l,QO.depth (f a)<=n)->QO.depthAll (l.map f)<=n
 |[],_=>Rz _
 |a::r,h=>acG.mpr ⟨h a Q2,ji λx b=>h x (Q0 _ b)⟩
theorem AZ{d:D}(b:QO.canLay0 d=QM)(a:QO.depth d<=64):i7 d=QM:=by unfold i7;simp_all
theorem sE{d:D}(h:i7 d=QM):QO.canLay0 d=QM:=by unfold i7 at h;simp_all
theorem r8{d:D}(h:i7 d=QM):mY d d=-(.bool QP):=by unfold mY;rw[h,sE h,SS,ax rfl,acH d (sE h)];rfl
def Uc(sn:Sn):Prop:=∀q∈sn,q.1<26
theorem G0{q:Nat×Bool}(h:q.1<26):QO.canLay0 (ja q)=QM:=by show(QO.strOk (cW q.1)&&(QO.strOk (if q.2=QM then "down" else "up")&&QM))=QM;rw[mS h];cases q.2<;>left
theorem xR(q:Nat×Bool):QO.depth (ja q)<=1:=QR rfl
theorem CP{sn:Sn}(h:Uc sn):i7 (.list (sn.map ja))=QM:=by refine AZ (kg λq a=>G0 (h q a)) ?_;show QO.depthAll (sn.map ja)+1<=64;have:=ji (f:=ja) (l:=sn) λq _=>xR q;ext
theorem Am{b:Bd}{s:SK}(h:SW b s):i7 (fu s)=QM:=by
 have j:QO.canLayAll0 ((ei s.ac).map pD)=QM:=kg λq i=>by show(QM&&(QO.canLay0 (mD q.2)&&QM))=QM;rw[oz (h.sa.ac _ _ (jr.mp i).2).2.lb];rfl
 have o:∀m:Mn,QO.depth (mD m)<=1:=λm=>by cases m<;>exact QR rfl
 have l:QO.depthAll ((ei s.ac).map pD)<=2:=ji λq _=>by show max 0 (max (QO.depth (mD q.2)) 0)+1<=2;simp_all
 have f:QO.canLay0 (fm s.wt)=QM/\QO.depth (fm s.wt)<=2:=by
  cases q:s.wt with
  |none=>exact⟨rfl,Rz _⟩
  |some x=>
   obtain⟨a,g,w⟩:=x;have v:=(h.wt a g w q).1;constructor
   .show(QO.canLayAll0 (aB a)&&(QM&&(QO.canLay0 (iW w)&&QM)))=QM
    rw[fZ];cases w with
    |none=>show QO.canLay0 (.tuple [.str "chord"])&&QM=QM;left
    |some d=>obtain⟨c,n⟩:=d;have lb:LB (.U8 c n):=(v.tp c n rfl).1;show(QO.canLay0 (mD (.U8 c n))&&QM)=QM;rw[oz lb];rfl
   .show max (QO.depthAll (aB a)+1) (max 0 (max (QO.depth (iW w)) 0))+1<=2
    rw[jt];cases w with
    |none=>exact QR rfl
    |some d=>exact QR rfl
 have e:QO.canLay0 (kS s.oc)=QM/\QO.depth (kS s.oc)=0:=by cases s.oc<;>exact⟨rfl,rfl⟩
 refine AZ ?_ ?_
 .show(QO.canLayAll0 ((ei s.ac).map pD)&&(QO.canLay0 (fm s.wt)&&(QO.canLay0 (kS s.oc)&&QM)))=QM;simp_all
 .show max (QO.depthAll ((ei s.ac).map pD)+1) (max (QO.depth (fm s.wt)) (max (QO.depth (kS s.oc)) 0))+1<=64;rw[e.2];have:=f.2;ext
section
variable{b:Bd}(Z:VB b){s:SK}{p:SK×Sn}{k:Nat}{a:Mn}
theorem Uc.app{x y:Sn}(e:Uc x)(d:Uc y):Uc (x++y):=λq f=>(R9.mp f).elim (e q) (d q)
theorem kb(h:Uc p.2)(ha:LB a):Uc (dJ p k a).2:=by
 refine h.app λq d=>?_;cases a with
 |Q6 c=>
  have d:q∈(if gC p.1.ac (.Q6 c)=QM then[]else[(c,QM)]:Sn):=d;split at d
  .cases d
  .rw[Rn.mp d];exact ha
 |_=>cases d
theorem Ap(d:bb (Nat×Mn)):∀{p:SK×Sn},Uc p.2->(∀q∈d,LB q.2)->Uc (eh p d).2:=by
 induction d with
 |nil=>exact λh _=>h
 |cons q r f=>exact λh e=>f (kb h (e q Q2)) λx g=>e x (Q0 _ g)
theorem IX(h:Uc p.2)(ha:SA b p.1):Uc (go p k).2:=by
 unfold go;split
 .rename_i a q
  have lb:=(ha.ac k a q).2.lb;refine h.app λx d=>?_;cases a with
  |Q6 c=>
   have d:x∈(if gC (gJ p.1.ac k lD) (.Q6 c)=QM then[]else[(c,QP)]:Sn):=d;split at d
   .cases d
   .rw[Rn.mp d];exact lb
  |_=>cases d
 .exact h
include Z
theorem lS(h:Uc p.2)(f:WD b p.1):Uc (bt b p).2:=by
 unfold bt;split
 .exact h
 .rename_i d g w q;exact Ap _ (p:=({p.1 with wt:=lD},p.2)) h λx e=>(nO Z (f d g w q) x e).2.lb
theorem LR(h:Uc p.2)(e:SA b p.1)(g:(k:Int)<b.n):Uc (uJ b p k).2:=by
 obtain⟨l,j⟩:=pV Z e;obtain⟨d,f⟩:=nK Z (k:=k) l j g;have i:uJ b p k=kU b (gR p.1.ac p.1.oc) (cC p.1 (look b (gR p.1.ac p.1.oc) k),p.2) k (look b (gR p.1.ac p.1.oc) k):=rfl;rw[i];generalize look b (gR p.1.ac p.1.oc) k=m at d f;generalize gR p.1.ac p.1.oc=L at d;have lb:=d.lb;cases m with
 |U8 c n=>exact h
 |Q6 c=>
  show Uc (if(decide (L=0)&& !(bF b [k]).isEmpty)=QM then({cC p.1 (.Q6 c)with wt:=cL ([k],0,lD)},p.2)else dJ (cC p.1 (.Q6 c),p.2) k (.Q6 c)).2;split
  .exact h
  .exact kb (p:=(cC p.1 (.Q6 c),p.2)) h lb
 |Sr n=>exact kb (p:=(cC p.1 (.Sr n),p.2)) h lb
 |once n=>exact kb (p:=(cC p.1 (.once n),p.2)) (k:=k) (a:=.none) h trivial
 |none=>exact kb (p:=(cC p.1 .none,p.2)) h lb
 |below=>simp_all
theorem HA{e:UR}(h:SW b s)(j:EV b e):Uc (cQ b s e).2:=by
 have f:Uc []:=λq m=>by cases m
 cases e with
 |turn=>
  show Uc (fR b (s,[])).2;unfold fR;split
  .exact f
  .rename_i i g w q
   have v:=(h.wt i g w q).1;split
   .exact lS Z (p:=({s with wt:=cL (i,g+1,w)},[])) f λ_ _ _ e=>by cases e;exact⟨v.ne,v.nd,v.kn,v.kf,by have:=v.g0;ext,v.tp,v.ch⟩
   .exact f
 |up k=>
  show Uc (qj b (s,[]) k).2;unfold qj;split
  .rename_i q
   have z:=iU Z (p:=(s,[])) h q;refine IX ?_ z.1.sa;unfold bu;split
   .exact lS Z (p:=(s,[])) f (SW.wd Z h)
   .rename_i c n e;have o:c<26:=((h.wt _ _ _ e).1.tp c n rfl).1;exact kb (p:=({s with wt:=lD},[])) f o
   .exact f
  .exact IX (p:=(s,[])) f h.sa
 |down k=>
  show Uc (gK b (s,[]) k).2;unfold gK;split
  .exact f
  .rename_i q
   rw[Sd,not_or]at q;have ha:s.ac k=lD:=by simp_all
   have hn:p8 s.wt k=QP:=by simp_all
   split
   .rename_i l
    obtain⟨i,g,e1,e2,e3,e4⟩:=pY Z (p:=(s,[])) h j ha hn l;have e1:s.wt=cL (i,g,lD):=e1;unfold jz;dsimp only;rw[e1];dsimp only;split
    .exact lS Z (p:=({s with wt:=cL (i++[k],g,lD)},[])) f λ_ _ _ e=>by cases e;exact e3
    .exact f
   .have d:=eJ Z (p:=(s,[])) h.sa (SW.wd Z h);exact LR Z (lS Z (p:=(s,[])) f (SW.wd Z h)) d.1.sa j
end
def pF(b:Bd):SK->bb UR->SK×bb Sn
 |s,[]=>(s,[])
 |s,e::r=>((pF b (cQ b s e).1 r).1,(cQ b s e).2::(pF b (cQ b s e).1 r).2)
theorem xD(b:Bd):∀(xs:bb UR) (s:SK) (i:Nat) (e:UR),xs[i]?=cL e->(pF b s (xs.take (i+1))).1=(cQ b (pF b s (xs.take i)).1 e).1/\(pF b s xs).2[i]?=cL (cQ b (pF b s (xs.take i)).1 e).2
 |[],_,_,_,h=>by cases h
 |x::r,s,0,e,h=>by cases h;exact⟨rfl,rfl⟩
 |x::r,s,i+1,e,h=>by have:=xD b r (cQ b s x).1 i e h;exact this
theorem xL{b:Bd}(a:VB b):∀(xs:bb UR) {s:SK},SW b s->(∀e∈xs,EV b e)->SW b (pF b s xs).1
 |[],_,h,_=>h
 |e::r,s,h,he=>xL a r (xK a h (he e Q2)) λx d=>he x (Q0 _ d)
end STP
namespace K35
open PySem L2 L3 STP
def ip:FS:=(cY (Ih (ar (au Eg (aa 1) (dR de {aa 0}))) (au aC (aa 0) (aa 1)) (~~~0)))
def bB:FN:=fx 2 ip
def iw:FS:=(a8 (cE (au dC (au dS (au ci (au dC (aa 0) (~~~1000033)) (aa 1)) (au ci (aa 1) (~~~521))) (~~~1000033)) (gN 3))
 (a8 (cE (au dC (au ci (au ci (au dS (aa 3) (aa 3)) (au dZ (aa 0) (~~~1000033))) (au dS (~~~7) (aa 1))) (~~~999983)) (gN 3))
 (cY (au dC (au dZ (aa 3) (~~~3)) (aa 2)))))
def bp:FN:=fx 4 iw
def c8:FS:=(a8 (cE (au iK (pC (.str "abcd")) (dF bp 3 {aa 0,~~~5,~~~4})) (gN 3))
 (a8 (cE (au ci (~~~1) (dF bp 3 {aa 0,~~~7,dR rE {~~~1,au mG (aa 2) (~~~1)}})) (gN 4))
 (a8 (cE (dF bp 3 {aa 0,~~~3,~~~9}) (gN 5))
 (a8 (jb (gI (ar (au pG (aa 1) (~~~0))) (ar (au pG (aa 5) (~~~6)))) (cY (aN {pC (.str "below")})) c9)
 (a8 (jb (ar (au br (aa 5) (~~~3))) (cY (aN {pC (.str "none")})) c9)
 (a8 (jb (gI (ar (au pG (aa 2) (~~~1))) (ar (au br (aa 5) (~~~4)))) (cY (aN {pC (.str "layer"),aa 4})) c9)
 (a8 (jb (gI (ar (au pG (aa 2) (~~~1))) (ar (au br (aa 5) (~~~5)))) (cY (aN {pC (.str "tap"),aa 3,aa 4})) c9)
 (a8 (jb (gI (ar (au pG (aa 2) (~~~1))) (ar (au br (aa 5) (~~~6)))) (cY (aN {pC (.str "once"),aa 4})) c9)
 (cY (aN {pC (.str "letter"),aa 3}))))))))))
def dU:FN:=fx 6 c8
def dH:FS:=(a8 (cE (cG 1 [2] (kz gl {dR de {aa 2}}) (gN 0) (ar (au br (au aC (au aC (aa 1) (aa 0)) (~~~0)) (pC (.str "letter")))) (aa 0)) (gN 3))
 (a8 (cE (cz ap) (gN 4))
 (a8 (kN (kz gl {~~~4}) (gN 5) (a8 (cE (dF bB 2 {aa 0,au ci (aa 1) (aa 5)}) (gN 6))
 (a8 (cE (dR hV {cG 1 [6] (gn (aa 3)) (gN 0) (ar (au pG (dF bp 3 {au ci (aa 1) (au dS (~~~31) (aa 0)),~~~13,~~~3}) (~~~0))) (aa 0)}) (gN 7))
 (jb (gI (ar (au pG (dR de {aa 7}) (~~~1))) (gI (ar (au pG (dF bp 3 {aa 6,~~~17,~~~3}) (~~~0))) (ar (au jX (aa 7) (cG 1 [] (qD 4) (gN 0) ef (au aC (aa 0) (~~~0))))))) (fQ (ky 4 (aN {aa 7,au iK (pC (.str "abxy")) (dF bp 3 {aa 6,~~~19,~~~4})}))) c9))))
 (cY (dR hV {aa 4})))))
def fX:FN:=fx 8 dH
def fU:FS:=(a8 (cE (dF bB 2 {aa 0,~~~0}) (gN 2))
 (a8 (cE (au ci (~~~1) (dF bp 3 {aa 2,~~~1,aa 1})) (gN 3))
 (a8 (cE (au ci (~~~1) (dF bp 3 {aa 2,~~~2,~~~3})) (gN 4))
 (a8 (cE (cz ap) (gN 5))
 (a8 (kN (kz gl {aa 4}) (gN 6) (a8 (cE (cG 1 [0,3,6] (kz gl {aa 3}) (gN 0) ef (dF bB 2 {aa 1,au ci (au ci (~~~1) (au dS (aa 2) (aa 3))) (aa 0)})) (gN 7))
 (fQ (ky 5 (dR hV {cG 1 [6,4] (gn (aa 7)) (gN 0) ef (dF dU 3 {aa 0,aa 1,aa 2})})))))
 (cY (aN {aa 3,dR hV {aa 5},dF fX 3 {aa 0,~~~16,au aC (aa 5) (~~~0)},au ci (~~~1) (dF bp 3 {aa 2,~~~23,~~~4})})))))))
def jl:FN:=fx 8 fU
def bR:FS:=(a8 (cE (au iK (pC (.str "abcdefghijklmnopqrstuvwxyz")) (au dC (au dZ (aa 0) (~~~7)) (~~~26))) (gN 3))
 (a8 (cE (au ci (~~~1) (au dC (au dZ (aa 0) (~~~182)) (dR rE {~~~1,au mG (aa 2) (~~~1)}))) (gN 4))
 (a8 (jb (gI (ar (au br (au dC (aa 0) (~~~7)) (~~~1))) (ar (au pG (aa 1) (~~~0)))) (cY (aN {pC (.str "below")})) c9)
 (a8 (jb (ar (au br (au dC (aa 0) (~~~7)) (~~~2))) (cY (aN {pC (.str "none")})) c9)
 (a8 (jb (gI (ar (au br (au dC (aa 0) (~~~7)) (~~~3))) (ar (au pG (aa 2) (~~~1)))) (cY (aN {pC (.str "layer"),aa 4})) c9)
 (a8 (jb (gI (ar (au br (au dC (aa 0) (~~~7)) (~~~4))) (ar (au pG (aa 2) (~~~1)))) (cY (aN {pC (.str "tap"),aa 3,aa 4})) c9)
 (a8 (jb (gI (ar (au br (au dC (aa 0) (~~~7)) (~~~5))) (ar (au pG (aa 2) (~~~1)))) (cY (aN {pC (.str "once"),aa 4})) c9)
 (cY (aN {pC (.str "letter"),aa 3})))))))))
def cS:FN:=fx 5 bR
def cK:FS:=(a8 (cE (au ci (~~~1) (au dC (aa 0) (aa 1))) (gN 4))
 (a8 (cE (au ci (~~~1) (au dC (au dZ (aa 0) (aa 1)) (aa 2))) (gN 5))
 (a8 (cE (au dZ (au dZ (aa 0) (aa 1)) (aa 2)) (gN 0))
 (a8 (cE (au ci (~~~1) (au dC (aa 0) (aa 3))) (gN 6))
 (a8 (cE (au dZ (aa 0) (aa 3)) (gN 0))
 (a8 (cE (cz ap) (gN 7))
 (a8 (kN (kz gl {aa 5}) (gN 8) (a8 (cE (cz ap) (gN 9))
 (a8 (kN (kz gl {aa 4}) (gN 10) (a8 (fQ (ky 9 (dF cS 3 {au dC (aa 0) (~~~364),aa 8,aa 5})))
 (cE (au dZ (aa 0) (~~~364)) (gN 0))))
 (fQ (ky 7 (dR hV {aa 9}))))))
 (a8 (cE (cz ap) (gN 11))
 (a8 (kN (kz gl {~~~4}) (gN 12) (a8 (cE (dR hV {cG 1 [0,7] (kz gl {aa 4}) (gN 0) (gI (ar (au br (au qO (au yS (aa 1) (aa 0)) (~~~1)) (~~~1))) (ar (au br (au aC (au aC (au aC (aa 2) (~~~0)) (aa 0)) (~~~0)) (pC (.str "letter"))))) (aa 0)}) (gN 13))
 (a8 (jb (gI (ar (au pG (dR de {aa 13}) (~~~1))) (ar (au jX (aa 13) (cG 1 [] (qD 11) (gN 0) ef (au aC (aa 0) (~~~0)))))) (fQ (ky 11 (aN {aa 13,au iK (pC (.str "abcdefghijklmnopqrstuvwxyz")) (au dC (au dZ (aa 0) (~~~32)) (~~~26))}))) c9)
 (cE (au dZ (aa 0) (~~~832)) (gN 0)))))
 (cY (aN {aa 4,dR hV {aa 7},dR hV {aa 11},aa 6})))))))))))
def eO:FN:=fx 14 cK
def bW:FS:=(a8 (cE (cz ap) (gN 2))
 (a8 (cE (au dC (aa 0) (~~~41)) (gN 3))
 (a8 (cE (au dZ (aa 0) (~~~41)) (gN 0))
 (a8 (kN (kz gl {aa 3}) (gN 4) (a8 (cE (au dC (aa 0) (au ci (au dS (~~~2) (aa 1)) (~~~1))) (gN 5))
 (a8 (cE (au dZ (aa 0) (au ci (au dS (~~~2) (aa 1)) (~~~1))) (gN 0))
 (fQ (ky 2 (au aC (cz {aN {pC (.str "down"),au dC (aa 5) (aa 1)},aN {pC (.str "up"),au dC (aa 5) (aa 1)},aN {pC (.str "turn"),~~~0}}) (au dZ (aa 5) (aa 1))))))))
 (cY (aa 2))))))
def cx:FN:=fx 6 bW
def dG:FS:=(a8 (cE (cz ap) (gN 3))
 (a8 (kN (gn (L5 Na (aa 0) (oN (aa 1)) (oN (~~~63)))) (gN 4) (a8 (cE (dF bp 3 {aa 4,~~~29,au ci (au dS (~~~5) (aa 2)) (~~~3)}) (gN 5))
 (jb (ar (au Eg (aa 5) (au dS (~~~2) (aa 2)))) (fQ (ky 3 (aN {pC (.str "down"),au dZ (aa 5) (~~~2)}))) (jb (ar (au Eg (aa 5) (au dS (~~~4) (aa 2)))) (fQ (ky 3 (aN {pC (.str "up"),au mG (au dZ (aa 5) (~~~2)) (aa 2)}))) (jb (ar (au Eg (aa 5) (au dS (~~~5) (aa 2)))) (fQ (ky 3 (aN {pC (.str "down"),au mG (aa 5) (au dS (~~~4) (aa 2))}))) (fQ (ky 3 (aN {pC (.str "turn"),~~~0}))))))))
 (cY (aa 3))))
def eG:FN:=fx 6 dG
def d4:FS:=(a8 (cE (dF jl 2 {aa 0,~~~5}) (gN 1))
 (a8 (jb (uV (ar (jO LY Eg (~~~0) (dF bB 2 {aa 0,~~~1}) (au wx (~~~10) (~~~18))))) (cE (dF eO 4 {dR ud {dF bB 2 {aa 0,~~~1}},~~~5,~~~3,~~~4}) (gN 1)) c9)
 (a8 (jb (uV (ar (jO LY Eg (~~~0) (dF bB 2 {aa 0,~~~2}) (au wx (~~~10) (~~~18))))) (cY (aN {aa 1,dF cx 2 {dR ud {dF bB 2 {aa 0,~~~2}},au aC (aa 1) (~~~0)}})) c9)
 (cY (aN {aa 1,dF eG 3 {aa 0,~~~20,au aC (aa 1) (~~~0)}})))))
def gW:FN:=fx 2 d4
end K35
namespace K35
open PySem L2 L3 L10 STP
def fF:fw:=(aG (bq (aO (g7 gS (aX (aq 0) (af (pC (.str "once")))) (af (pC .none)))) (gF (aX (aq 0) (af (pC (.str "once"))))) bA)
 (gF (z7 uv (aj (g7 ci (af (cz {~~~0})) (mh 1 [] (aX (aq 0) (af (pC (.str "acts")))) (eI 0) (aH (ar (au br (au aC (aa 0) (~~~0)) (pC (.str "layer"))))) (af (au aC (aa 0) (~~~1))))) aF))))
def b6:g9:=dQ 1 fF
def gv:fw:=(aG (bq (gq (aH (ar (au br (au aC (aa 2) (~~~0)) (pC (.str "letter"))))) (aO (g7 jX (af (aa 2)) (kF (aX (aq 0) (af (pC (.str "acts")))))))) (aY (oK (aX (aq 0) (af (pC (.str "sent")))) (af (aN {au aC (aa 2) (~~~1),pC (.str "down")})))) bA)
 (dM (aX (aq 0) (af (pC (.str "acts")))) (af (aa 1)) (af (aa 2))))
def bT:g9:=dQ 3 gv
def iQ:fw:=(aG (cX (nZ (aX (aq 0) (af (pC (.str "acts")))) (af (aa 1))) (eI 2))
 (bq (gq (aH (ar (au br (au aC (aa 2) (~~~0)) (pC (.str "letter"))))) (aO (g7 jX (af (aa 2)) (kF (aX (aq 0) (af (pC (.str "acts")))))))) (aY (oK (aX (aq 0) (af (pC (.str "sent")))) (af (aN {au aC (aa 2) (~~~1),pC (.str "up")})))) bA))
def g8:g9:=dQ 3 iQ
def dY:fw:=(aG (cX (aX (aq 1) (af (pC (.str "waiting")))) (zW 3 (iI (eI 2) (iI (eI 3) (iI (eI 4) qk)))))
 (aG (dM (aq 1) (af (pC (.str "waiting"))) (af (pC .none)))
 (aG (bq (aH (ar (au br (au aC (aa 4) (~~~0)) (pC (.str "tap"))))) (aG (aY (cw bT 3 (aj (aq 1) (aj (af (au aC (aa 2) (~~~0))) (aj (af (aN {pC (.str "layer"),au aC (aa 4) (~~~2)})) aF)))))
 lR) bA)
 (aG (cX (qA (af (cG 1 [2] (gn (au aC (aa 0) (~~~2))) (gN 0) (ar (au br (dR mU {au aC (aa 0) (~~~0)}) (dR L9.eP {aa 1}))) (au aC (aa 0) (~~~1))))) (eI 5))
 (rV (lh (kz gl {dR de {aa 2}})) (eI 6) (bq (aH (ar (au br (aa 5) (cz ap)))) (aY (cw bT 3 (aj (aq 1) (aj (af (au aC (aa 2) (aa 6))) (aj (af (au aC (au aC (au aC (aa 0) (~~~1)) (~~~0)) (au aC (aa 2) (aa 6)))) aF))))) (aY (cw bT 3 (aj (aq 1) (aj (af (au aC (aa 2) (aa 6))) (aj (af (au aC (cz {aN {pC (.str "letter"),au aC (aa 5) (~~~0)},aN {pC (.str "none")}}) (dR D5 {au pG (aa 6) (~~~0)}))) aF)))))))))))
def cy:g9:=dQ 7 dY
def eK:fw:=(aG (bq (uU (aO (g7 lG (aX (aq 1) (af (pC (.str "waiting")))) (af (pC .none)))) (uU (aO (g7 mY (iK (aX (aq 1) (af (pC (.str "waiting")))) (af (~~~2))) (af (aN {pC (.str "chord")})))) (aO (g7 pG (cw b6 1 (aj (aq 1) aF)) (af (~~~0)))))) (gF (af (pC (.bool QP)))) bA)
 (aG (cX (aX (aq 1) (af (pC (.str "waiting")))) (zW 3 (iI (eI 3) (iI (eI 4) (iI (eI 5) qk)))))
 (aG (cX (qA (af (au ci (dR mU {aa 3}) (cz {aa 2})))) (eI 6))
 (aG (cX (qA (af (cG 1 [6] (gn (au aC (aa 0) (~~~2))) (gN 0) (ar (au br (dR de {aa 1}) (dR de {cG 1 [1] (gn (au aC (aa 0) (~~~0))) (gN 0) (ar (au nN (aa 0) (aa 1))) (aa 0)}))) (au aC (aa 0) (~~~0))))) (eI 7))
 (aG (bq (aH (ar (au br (aa 7) (cz ap)))) (gF (af (pC (.bool QP)))) bA)
 (aG (dM (aq 1) (af (pC (.str "waiting"))) (af (aN {au ci (aa 3) (aN {aa 2}),aa 4,aa 5})))
 (aG (bq (aH (ar (au br (cG 1 [] (gn (aa 7)) (gN 0) ef (dR de {aa 0})) (cz {dR de {aa 6}})))) (aY (cw cy 2 (aj (af (aa 0)) (aj (aq 1) aF)))) bA)
 (gF (af (pC (.bool QM)))))))))))
def fY:g9:=dQ 8 eK
def gp:fw:=(aG (bq (aO (cw fY 3 (aj (af (aa 0)) (aj (aq 1) (aj (af (aa 2)) aF))))) lR bA)
 (aG (bq (aO (g7 gS (aX (aq 1) (af (pC (.str "waiting")))) (af (pC .none)))) (aY (cw cy 2 (aj (af (aa 0)) (aj (aq 1) aF)))) bA)
 (aG (cX (cw b6 1 (aj (aq 1) aF)) (eI 3))
 (aG (cX (af (au aC (au aC (au aC (aa 0) (~~~1)) (aa 3)) (aa 2))) (eI 4))
 (aG (bq (aH (ar (au br (aa 4) (aN {pC (.str "below")})))) (cX (af (au aC (au aC (au aC (aa 0) (~~~1)) (~~~0)) (aa 2))) (eI 4)) bA)
 (aG (bq (aH (ar (au nN (au aC (aa 4) (~~~0)) (aN {pC (.str "letter"),pC (.str "tap"),pC (.str "none")})))) (dM (aq 1) (af (pC (.str "once"))) (af (pC .none))) bA)
 (bq (aH (ar (au br (au aC (aa 4) (~~~0)) (pC (.str "tap"))))) (dM (aq 1) (af (pC (.str "waiting"))) (af (aN {aN {aa 2},~~~0,aa 4}))) (bq (aH (gI (ar (au br (au aC (aa 4) (~~~0)) (pC (.str "letter")))) (gI (ar (au br (aa 3) (~~~0))) (ar (dR wu {cG 1 [2] (gn (au aC (aa 0) (~~~2))) (gN 0) ef (au nN (aa 1) (au aC (aa 0) (~~~0)))}))))) (dM (aq 1) (af (pC (.str "waiting"))) (af (aN {aN {aa 2},~~~0,aN {pC (.str "chord")}}))) (bq (aH (ar (au br (au aC (aa 4) (~~~0)) (pC (.str "once"))))) (aG (aY (cw bT 3 (aj (aq 1) (aj (af (aa 2)) (aj (af (aN {pC (.str "none")})) aF)))))
 (dM (aq 1) (af (pC (.str "once"))) (af (au aC (aa 4) (~~~1))))) (aY (cw bT 3 (aj (aq 1) (aj (af (aa 2)) (aj (af (aa 4)) aF))))))))))))))
def iH:g9:=dQ 5 gp
def iq:fw:=(gF (Oy (kT QP (af (aa 1)) (aX (aq 0) (af (pC (.str "acts"))))) (u8 (g7 gS (aX (aq 0) (af (pC (.str "waiting")))) (af (pC .none))) (g7 nN (af (aa 1)) (iK (aX (aq 0) (af (pC (.str "waiting")))) (af (~~~0)))))))
def dX:g9:=dQ 2 iq
def gr:fw:=(aG (cX (aX (aq 1) (af (pC (.str "waiting")))) (zW 3 (iI (eI 2) (iI (eI 3) (iI (eI 4) qk)))))
 (aG (dM (aq 1) (af (pC (.str "waiting"))) (af (aN {aa 2,au ci (aa 3) (~~~1),aa 4})))
 (bq (aH (ar (au N6 (au ci (aa 3) (~~~1)) (au aC (aa 0) (~~~3))))) (aY (cw cy 2 (aj (af (aa 0)) (aj (aq 1) aF)))) bA)))
def im:g9:=dQ 5 gr
def gj:fw:=(aG (cX (af (aa 2)) (zW 2 (iI (eI 3) (iI (eI 4) qk))))
 (aG (dM (aq 1) (af (pC (.str "sent"))) (af (cz ap)))
 (bq (gq (aH (ar (au br (aa 3) (pC (.str "down"))))) (mC (aO (cw dX 2 (aj (aq 1) (aj (af (aa 4)) aF)))))) (aY (cw iH 3 (aj (af (aa 0)) (aj (aq 1) (aj (af (aa 4)) aF))))) (bq (gq (aH (ar (au br (aa 3) (pC (.str "up"))))) (aO (kT QP (af (aa 4)) (aX (aq 1) (af (pC (.str "acts"))))))) (aY (cw g8 2 (aj (aq 1) (aj (af (aa 4)) aF)))) (bq (gq (aH (ar (au br (aa 3) (pC (.str "up"))))) (aO (cw dX 2 (aj (aq 1) (aj (af (aa 4)) aF))))) (aG (cX (iK (aX (aq 1) (af (pC (.str "waiting")))) (af (~~~2))) (eI 5))
 (aG (bq (aH (ar (au br (au aC (aa 5) (~~~0)) (pC (.str "tap"))))) (aG (dM (aq 1) (af (pC (.str "waiting"))) (af (pC .none)))
 (aY (cw bT 3 (aj (aq 1) (aj (af (aa 4)) (aj (af (aN {pC (.str "letter"),au aC (aa 5) (~~~1)})) aF)))))) (aY (cw cy 2 (aj (af (aa 0)) (aj (aq 1) aF)))))
 (aY (cw g8 2 (aj (aq 1) (aj (af (aa 4)) aF)))))) (bq (gq (aH (ar (au br (aa 3) (pC (.str "turn"))))) (aO (g7 gS (aX (aq 1) (af (pC (.str "waiting")))) (af (pC .none))))) (aY (cw im 2 (aj (af (aa 0)) (aj (aq 1) aF)))) bA))))))
def ij:g9:=dQ 6 gj
def uA:fw:=(aG (cX (af (dF gW 1 {aa 0})) (zW 2 (iI (eI 1) (iI (eI 2) qk))))
 (aG (cX (qG [((af (pC (.str "acts"))),DU),((af (pC (.str "waiting"))),(af (pC .none))),((af (pC (.str "once"))),(af (pC .none))),((af (pC (.str "sent"))),(af (cz ap)))]) (eI 3))
 (aG (cX (af (aN {aN ap,pC .none,pC .none})) (eI 4))
 (aG (rV (lh (gn (aa 2))) (eI 5) (aG (aY (cw ij 3 (aj (af (aa 1)) (aj (aq 3) (aj (af (aa 5)) aF)))))
 (aG (cX (qR STP.mq 3 (aj (af (aa 1)) (aj (af (aa 4)) (aj (af (aa 5)) aF)))) (eI 6))
 (aG (bq (uU (mC (aO (zn "tuple" (aq 6)))) (uU (aO (g7 mY (z7 de (aj (aq 6) aF)) (af (~~~2)))) (aO (g7 mY (iK (aq 6) (af (~~~0))) (aX (aq 3) (af (pC (.str "sent")))))))) (gF (af (pC (.bool QP)))) bA)
 (aG (cX (z7 hV (aj (kB 1 [3] (iR (kG (aX (aq 3) (af (pC (.str "acts")))))) (eI 0) jU (jk (aj (af (aa 0)) (aj (aX (aX (aq 1) (af (pC (.str "acts")))) (af (aa 0))) aF)))) aF)) (eI 7))
 (aG (bq (uU (mC (aO (zn "list" (iK (aq 6) (af (~~~0)))))) (aO (g7 mY (iK (aq 6) (af (~~~1))) (jk (aj (af (aa 7)) (aj (aX (aq 3) (af (pC (.str "waiting")))) (aj (aX (aq 3) (af (pC (.str "once")))) aF))))))) (gF (af (pC (.bool QP)))) bA)
 (aG (bq (aO (g7 mY (ie dh 1 (aj (iK (aq 6) (af (~~~1))) aF)) (cw b6 1 (aj (aq 3) aF)))) (gF (af (pC (.bool QP)))) bA)
 (aG (aY (oK (iK (aq 6) (af (~~~0))) (af (pC .none))))
 (aG (bq (aO (g7 mY (qR STP.mq 3 (aj (af (aa 1)) (aj (af (aa 4)) (aj (af (aa 5)) aF)))) (jk (aj (aX (aq 3) (af (pC (.str "sent")))) (aj (iK (aq 6) (af (~~~1))) aF))))) (gF (af (pC (.bool QP)))) bA)
 (cX (iK (aq 6) (af (~~~1))) (eI 4)))))))))))
 (gF (af (pC (.bool QM))))))))
def F_law:g9:=dQ 8 uA
abbrev zf(d:D):bg PV:=-(d)
abbrev zo(l:bb D):bg PV:=cL (.ow l)
theorem lF(ns:bb Int)(k:Int)(b:0<=k):∃c:Int,bB [.list (ns.map .int),.int k]=.ok (.fz (.int c)):=by
 obtain⟨n,rfl⟩:∃n:Nat,k=(n:Int):=⟨k.toNat,by ext⟩;have a:de [.list (ns.map .int)]=-(nd ns.length):=(jK _).trans (by simp_all);by_cases h:n<ns.length
 .refine⟨ns[n],kL (ρ:=[-(.list (ns.map .int)),-(nd n)]) rfl (ez (pv:=.fz (.int ns[n])) (rv:=.fz (.int ns[n])) (K5 (aR (av (rv:=.fz (.bool QM)) (ah rfl) (bX (rv:=.fz (nd ns.length)) (am (ah rfl) ay) rfl a) rfl rfl ?_) rfl) (av (rv:=.fz (.int ns[n])) (ah rfl) (ah rfl) rfl rfl (Pg ?_))) rfl rfl)⟩
  .rw[tM,a4 (by ext)]
  simp_all
 .refine⟨0,kL (ρ:=[-(.list (ns.map .int)),-(nd n)]) rfl (ez (pv:=.fz (.int 0)) (rv:=.fz (.int 0)) (Kx (aR (av (rv:=.fz (.bool QP)) (ah rfl) (bX (rv:=.fz (nd ns.length)) (am (ah rfl) ay) rfl a) rfl rfl ?_) rfl) aw) rfl rfl)⟩;rw[tM,a5 (by ext)]
theorem Lu{i j:Int}(h: -2^64<i/\i<2^64):dS (.int i) (.int j)=-(.int (i*j)):=FC h
theorem PF{i j:Int}(h: -2^64<j/\j<2^64):dS (.int i) (.int j)=-(.int (i*j)):=ER h
def rC(x s m:Int):Int:=((x % 1000033+s)*(s+521) % 1000033*((x % 1000033+s)*(s+521) % 1000033)+x/1000033+7*s) % 999983/3 % m
theorem kH{x s m:Int}(hm:0<m):0<=rC x s m/\rC x s m<m:=⟨T7 _ (by ext),TC _ hm⟩
theorem gc(x:Int){s m:Int}(o:0<=s)(n:s<1000)(hm:0<m):bp [.int x,.int s,.int m]=.ok (.fz (.int (rC x s m))):=by unfold rC;have l:dC (.int x) (.int 1000033)=-(.int (x % 1000033)):=eU (by decide);have e:dS (.int (x % 1000033+s)) (.int (s+521))=-(.int ((x % 1000033+s)*(s+521))):=PF ⟨by ext,by ext⟩;generalize (x % 1000033+s)*(s+521)=y at e;have d:dC (.int y) (.int 1000033)=-(.int (y % 1000033)):=eU (by decide);have f:0<=y % 1000033/\y % 1000033<1000033:=⟨T7 _ (by decide),TC _ (by decide)⟩;generalize y % 1000033=z at d f;have b:dS (.int z) (.int z)=-(.int (z*z)):=PF ⟨by ext,by ext⟩;have j:dZ (.int x) (.int 1000033)=-(.int (x/1000033)):=fA ⟨by decide,by decide⟩;have i:dS (.int 7) (.int s)=-(.int (7*s)):=Lu ⟨by decide,by decide⟩;generalize z*z=u at b;have a:dC (.int (u+x/1000033+7*s)) (.int 999983)=-(.int ((u+x/1000033+7*s) % 999983)):=eU (by decide);generalize (u+x/1000033+7*s) % 999983=v at a;have h:dZ (.int v) (.int 3)=-(.int (v/3)):=fA ⟨by decide,by decide⟩;have g:dC (.int (v/3)) (.int m)=-(.int (v/3 % m)):=eU hm;exact kL (ρ:=[-(.int x),-(.int s),-(.int m),lD]) rfl (wG (Ay (by fail "ev") rfl (wG (Ay (by fail "ev") rfl (ez (by fail "ev") rfl rfl)))))
theorem LW{z:Str}{cs:bb Nat}(hz:z.cps.toList=cs.map (97+·))(a:z.length<=1000000){r:Int}{c:Nat}(b:0<=r)(h:cs[r.toNat]?=cL c):L3.iK (.str z) (.int r)=-(.str (cW c)):=by show(if z.length<=1000000 then(kY z.cps.toList r).map (λc=>RV.fz (.str ⟨#[c]⟩))else lD)=_;rw[ax a,hz,yr (v:=97+c) b (by simp_all)];rfl
theorem vS{z:Str}(cs:bb Nat)(hz:z.cps.toList=cs.map (97+·))(b:z.length<=1000000)(d:∀c∈cs,c<26){r:Int}(e:0<=r)(f:r<cs.length):∃c,c<26/\L3.iK (.str z) (.int r)=-(.str (cW c)):=by
 have a:r.toNat<cs.length:=by ext
 exact⟨cs[r.toNat],d _ (UJ a),LW hz b e (QY a)⟩
theorem DY(ns:bb Int)(lo hi:bg Int):∃ms:bb Int,ms.length<=ns.length/\Na (.list (ns.map .int)) lo hi=cL (.ow (ms.map .int)):=by
 refine⟨(ns.drop (HT.sIx ns.length 0 lo)).take (HT.sIx ns.length ns.length hi - HT.sIx ns.length 0 lo),?_,?_⟩
 .rw[Sf,VR];ext
 .show cL (RV.ow (zm (ns.map .int) lo hi))=_;unfold zm;simp_all
def HZ(a:bb (bb Nat)):bb D:=a.map λK=>.tuple (aB K)
theorem xI:∀Ks:bb (bb Nat),QO.canLayAll0 (HZ Ks)=QM
 |[]=>rfl
 |K::r=>by show(QO.canLayAll0 (aB K)&&QO.canLayAll0 (HZ r))=QM;rw[fZ,xI r];rfl
theorem xu(s:bb Nat):∀Ks:bb (bb Nat),((HZ Ks).any λe=>QO.eqv e (.tuple (aB s)))=decide (s∈Ks)
 |[]=>rfl
 |K::r=>by
  show(QO.eqvAll (aB K) (aB s)||(HZ r).any λe=>QO.eqv e (.tuple (aB s)))=_;rw[xu s r,sX]
  grind
theorem yM(s:bb Nat)(a:bb (bb Nat)):jX (.tuple (aB s)) (.list (HZ a))=-(.bool (!decide (s∈a))):=by show(if(i7 (.tuple (aB s))&&QO.canLayAll0 (HZ a))=QM then _ else _)=_;rw[JM,xI,SS,ax rfl,xu]
theorem rc(cs:bb (bb Nat×Nat))(b:cs.length<=1000)(a:aQ)(d:cN a=a):iZ (cP (gN 0) ef (au aC (aa 0) (~~~0)) (cs.map a9) (lD::a) [])=.ok (HZ (cs.map (·.1))):=by unfold HZ;rw[Rv];exact l7 a9 (λc=>.tuple (aB c.1)) cs b d λc _=>av (rv:=.fz (.tuple (aB c.1))) (ah rfl) aw rfl rfl gQ
theorem iS{n i k:Nat}(h:(Rc n)[i]?=cL k):k=i/\i<n:=by obtain⟨b,a⟩:=QU.mp h;rw[X7]at a;rw[RJ]at b;exact⟨a.symm,b⟩
theorem x9{n a:Int}{d:bb (bb Mn)}{b:bb Mn}(h:VL n a d)(f:(b.length:Int)=n)(e:∀m∈b,VM d.length a m):VL n a (d++[b]):=by
 intro i l hi;rcases L10.bc hi with h'|⟨rfl,rfl⟩
 .exact h i l h'
 .exact⟨f,e⟩
theorem A9{a:Int}(b:1<=a):∃M:Int,rE [.int 1,.int (a - 1)]=-(.int M)/\1<=M/\(1<a->M=a - 1):=by refine⟨_,rfl,?_⟩;split<;>ext
theorem FB(c:Int)(L:Nat)(a:Int)(j:1<=a):∃m:Mn,VM L a m/\dU [.int c,nd L,.int a]=.ok (.fz (mD m)):=by
 have p:=gc c (s:=5) (m:=4) (by decide) (by decide) (by decide);have f:=kH (x:=c) (s:=5) (m:=4) (by decide);generalize rC c 5 4=r5 at p f;obtain⟨l,g,v⟩:=vS (z:= "abcd") [0,1,2,3] (by rfl) (by left) (by decide) f.1 (show r5<4 from f.2);obtain⟨M,u,M1,M2⟩:=A9 j;have o:=gc c (s:=7) (m:=M) (by decide) (by decide) (by ext);have t:=kH (x:=c) (s:=7) (m:=M) (by ext);generalize rC c 7 M=r7 at o t;have r:=gc c (s:=3) (m:=9) (by decide) (by decide) (by decide);generalize rC c 3 9=r3 at r;have n:pG (nd L) (.int 0)=-(.bool (decide ((0:Int)<L))):=rfl;have e:∃rv,fx 6 c8 [.int c,nd L,.int a]=.ok rv/\∃m:Mn,VM L a m/\rv=.fz (mD m):=by
  refine i8 (T:=λrv=>∃m:Mn,VM L a m/\rv=.fz (mD m)) (ρ:=[zf (.int c),zf (nd L),zf (.int a),lD,lD,lD]) rfl ?_;unfold c8;refine bv (ρ3:=[zf (.int c),zf (nd L),zf (.int a),zf (.str (cW l)),lD,lD]) (by fail "ev") rfl rfl ?_;refine bv (ρ3:=[zf (.int c),zf (nd L),zf (.int a),zf (.str (cW l)),zf (.int (1+r7)),lD]) (by fail "ev") rfl rfl ?_;refine bv (ρ3:=[zf (.int c),zf (nd L),zf (.int a),zf (.str (cW l)),zf (.int (1+r7)),zf (.int r3)]) (by fail "ev") rfl rfl ?_;refine iB (b:=(decide ((0:Int)<L)&&decide (6<r3))) (ρ1:=[zf (.int c),zf (nd L),zf (.int a),zf (.str (cW l)),zf (.int (1+r7)),zf (.int r3)]) (by fail "ev") (λq=>?_) (λ_=>cT ?_)
  .rw[CL]at q;have d:=a6 q.1;exact fK (pv:=.fz (mD .below)) (ρ1:=[zf (.int c),zf (nd L),zf (.int a),zf (.str (cW l)),zf (.int (1+r7)),zf (.int r3)]) (show _=Res.ok (PV.fz (.tuple [.str "below"]),_) by fail "ev") rfl ⟨.below,by show(L:Int)≠0;ext,rfl⟩
  refine iB (b:=decide (r3=3)) (ρ1:=[zf (.int c),zf (nd L),zf (.int a),zf (.str (cW l)),zf (.int (1+r7)),zf (.int r3)]) (by fail "ev") (λq=>?_) (λ_=>cT ?_)
  .exact fK (pv:=.fz (mD .none)) (ρ1:=[zf (.int c),zf (nd L),zf (.int a),zf (.str (cW l)),zf (.int (1+r7)),zf (.int r3)]) (show _=Res.ok (PV.fz (.tuple [.str "none"]),_) by fail "ev") rfl ⟨.none,trivial,rfl⟩
  refine iB (b:=(decide (1<a)&&decide (r3=4))) (ρ1:=[zf (.int c),zf (nd L),zf (.int a),zf (.str (cW l)),zf (.int (1+r7)),zf (.int r3)]) (by fail "ev") (λq=>?_) (λ_=>cT ?_)
  .rw[CL]at q;have d:=M2 (a6 q.1);exact fK (pv:=.fz (mD (.Sr (1+r7)))) (ρ1:=[zf (.int c),zf (nd L),zf (.int a),zf (.str (cW l)),zf (.int (1+r7)),zf (.int r3)]) (show _=Res.ok (PV.fz (.tuple [.str "layer",.int (1+r7)]),_) by fail "ev") rfl ⟨.Sr (1+r7),⟨by ext,by ext⟩,rfl⟩
  refine iB (b:=(decide (1<a)&&decide (r3=5))) (ρ1:=[zf (.int c),zf (nd L),zf (.int a),zf (.str (cW l)),zf (.int (1+r7)),zf (.int r3)]) (by fail "ev") (λq=>?_) (λ_=>cT ?_)
  .rw[CL]at q;have d:=M2 (a6 q.1);exact fK (pv:=.fz (mD (.U8 l (1+r7)))) (ρ1:=[zf (.int c),zf (nd L),zf (.int a),zf (.str (cW l)),zf (.int (1+r7)),zf (.int r3)]) (show _=Res.ok (PV.fz (.tuple [.str "tap",.str (cW l),.int (1+r7)]),_) by fail "ev") rfl ⟨.U8 l (1+r7),⟨g,by ext,by ext⟩,rfl⟩
  refine iB (b:=(decide (1<a)&&decide (r3=6))) (ρ1:=[zf (.int c),zf (nd L),zf (.int a),zf (.str (cW l)),zf (.int (1+r7)),zf (.int r3)]) (by fail "ev") (λq=>?_) (λ_=>cT ?_)
  .rw[CL]at q;have d:=M2 (a6 q.1);exact fK (pv:=.fz (mD (.once (1+r7)))) (ρ1:=[zf (.int c),zf (nd L),zf (.int a),zf (.str (cW l)),zf (.int (1+r7)),zf (.int r3)]) (show _=Res.ok (PV.fz (.tuple [.str "once",.int (1+r7)]),_) by fail "ev") rfl ⟨.once (1+r7),⟨by ext,by ext⟩,rfl⟩
  exact ez (pv:=.fz (mD (.Q6 l))) (ρ1:=[zf (.int c),zf (nd L),zf (.int a),zf (.str (cW l)),zf (.int (1+r7)),zf (.int r3)]) (show _=Res.ok (PV.fz (.tuple [.str "letter",.str (cW l)]),_) by fail "ev") rfl ⟨.Q6 l,g,rfl⟩
 obtain⟨rv,h,m,i,rfl⟩:=e;exact⟨m,i,h⟩
theorem DB{r:Int}(b:0<=r)(a:r<26):∃c,c<26/\L3.iK (.str "abcdefghijklmnopqrstuvwxyz") (.int r)=-(.str (cW c)):=
 vS (z:= "abcdefghijklmnopqrstuvwxyz") (Rc 26) (by left) (by left) (by decide) b (by rw[RJ];exact a)
theorem A3(x:Int)(L:Nat)(a:Int)(i:1<=a)(o:a<=3):∃m:Mn,VM L a m/\cS [.int x,nd L,.int a]=.ok (.fz (mD m)):=by
 have e1:dZ (.int x) (.int 7)=-(.int (x/7)):=fA ⟨by decide,by decide⟩;have e2:dC (.int (x/7)) (.int 26)=-(.int (x/7 % 26)):=eU (by decide);obtain⟨l,f,t⟩:=DB (r:=x/7 % 26) (by ext) (by ext);obtain⟨M,p,M1,M2⟩:=A9 i;have e3:dZ (.int x) (.int 182)=-(.int (x/182)):=fA ⟨by decide,by decide⟩;have e4:dC (.int (x/182)) (.int M)=-(.int (x/182 % M)):=eU (by ext);have n:0<=x/182 % M/\x/182 % M<M:=⟨T7 _ (by ext),TC _ (by ext)⟩;generalize x/182 % M=r7 at e4 n;have e5:dC (.int x) (.int 7)=-(.int (x % 7)):=eU (by decide);generalize x % 7=r3 at e5;have j:pG (nd L) (.int 0)=-(.bool (decide ((0:Int)<L))):=rfl;have e:∃rv,fx 5 bR [.int x,nd L,.int a]=.ok rv/\∃m:Mn,VM L a m/\rv=.fz (mD m):=by
  refine i8 (T:=λrv=>∃m:Mn,VM L a m/\rv=.fz (mD m)) (ρ:=[zf (.int x),zf (nd L),zf (.int a),lD,lD]) rfl ?_;unfold bR;refine bv (ρ3:=[zf (.int x),zf (nd L),zf (.int a),zf (.str (cW l)),lD]) (by fail "ev") rfl rfl ?_;refine bv (ρ3:=[zf (.int x),zf (nd L),zf (.int a),zf (.str (cW l)),zf (.int (1+r7))]) (by fail "ev") rfl rfl ?_;refine iB (b:=(decide (r3=1)&&decide ((0:Int)<L))) (ρ1:=[zf (.int x),zf (nd L),zf (.int a),zf (.str (cW l)),zf (.int (1+r7))]) (by fail "ev") (λq=>?_) (λ_=>cT ?_)
  .rw[CL]at q;have d:=a6 q.2;exact fK (pv:=.fz (mD .below)) (ρ1:=[zf (.int x),zf (nd L),zf (.int a),zf (.str (cW l)),zf (.int (1+r7))]) (show _=Res.ok (PV.fz (.tuple [.str "below"]),_) by fail "ev") rfl ⟨.below,by show(L:Int)≠0;ext,rfl⟩
  refine iB (b:=decide (r3=2)) (ρ1:=[zf (.int x),zf (nd L),zf (.int a),zf (.str (cW l)),zf (.int (1+r7))]) (by fail "ev") (λq=>?_) (λ_=>cT ?_)
  .exact fK (pv:=.fz (mD .none)) (ρ1:=[zf (.int x),zf (nd L),zf (.int a),zf (.str (cW l)),zf (.int (1+r7))]) (show _=Res.ok (PV.fz (.tuple [.str "none"]),_) by fail "ev") rfl ⟨.none,trivial,rfl⟩
  refine iB (b:=(decide (r3=3)&&decide (1<a))) (ρ1:=[zf (.int x),zf (nd L),zf (.int a),zf (.str (cW l)),zf (.int (1+r7))]) (by fail "ev") (λq=>?_) (λ_=>cT ?_)
  .rw[CL]at q;have d:=M2 (a6 q.2);exact fK (pv:=.fz (mD (.Sr (1+r7)))) (ρ1:=[zf (.int x),zf (nd L),zf (.int a),zf (.str (cW l)),zf (.int (1+r7))]) (show _=Res.ok (PV.fz (.tuple [.str "layer",.int (1+r7)]),_) by fail "ev") rfl ⟨.Sr (1+r7),⟨by ext,by ext⟩,rfl⟩
  refine iB (b:=(decide (r3=4)&&decide (1<a))) (ρ1:=[zf (.int x),zf (nd L),zf (.int a),zf (.str (cW l)),zf (.int (1+r7))]) (by fail "ev") (λq=>?_) (λ_=>cT ?_)
  .rw[CL]at q;have d:=M2 (a6 q.2);exact fK (pv:=.fz (mD (.U8 l (1+r7)))) (ρ1:=[zf (.int x),zf (nd L),zf (.int a),zf (.str (cW l)),zf (.int (1+r7))]) (show _=Res.ok (PV.fz (.tuple [.str "tap",.str (cW l),.int (1+r7)]),_) by fail "ev") rfl ⟨.U8 l (1+r7),⟨f,by ext,by ext⟩,rfl⟩
  refine iB (b:=(decide (r3=5)&&decide (1<a))) (ρ1:=[zf (.int x),zf (nd L),zf (.int a),zf (.str (cW l)),zf (.int (1+r7))]) (by fail "ev") (λq=>?_) (λ_=>cT ?_)
  .rw[CL]at q;have d:=M2 (a6 q.2);exact fK (pv:=.fz (mD (.once (1+r7)))) (ρ1:=[zf (.int x),zf (nd L),zf (.int a),zf (.str (cW l)),zf (.int (1+r7))]) (show _=Res.ok (PV.fz (.tuple [.str "once",.int (1+r7)]),_) by fail "ev") rfl ⟨.once (1+r7),⟨by ext,by ext⟩,rfl⟩
  exact ez (pv:=.fz (mD (.Q6 l))) (ρ1:=[zf (.int x),zf (nd L),zf (.int a),zf (.str (cW l)),zf (.int (1+r7))]) (show _=Res.ok (PV.fz (.tuple [.str "letter",.str (cW l)]),_) by fail "ev") rfl ⟨.Q6 l,f,rfl⟩
 obtain⟨rv,h,m,g,rfl⟩:=e;exact⟨m,g,h⟩
structure Xd(l0:bb Mn)(cs:bb (bb Nat×Nat)):Prop where
 vc:∀c∈cs,VC l0 c
 un:cs.Pairwise λa c=>a.1≠c.1
theorem Xd.nil(l0:bb Mn):Xd l0 []:=⟨λc a=>(by cases a),UX⟩
theorem Xd.add(h:Xd l0 cs)(i:2<=s.length)(e:s.Pairwise (·<·))(g:∀k∈s,mN l0 k=QM)(f:l<26)(d:s∉cs.map (·.1)):Xd l0 (cs++[(s,l)]):=by
 refine⟨λc b=>(R9.mp b).elim (h.vc c) λz=>?_,List.pairwise_append.mpr ⟨h.un,List.pairwise_singleton _ _,λa ha c b=>?_⟩⟩
 .rw[Rn.mp z];exact⟨i,e,g,f⟩
 .rw[Rn.mp b];exact λz=>d (RP.mpr ⟨a,ha,z⟩)
theorem DN(a:k<l0.length):∃d,aC (cj l0) (nd k)=-(d)/\∃w,aC d (.int 0)=-(.str w)/\br (.str w) (.str "letter")=-(.bool (mN l0 k)):=by
 have e5:mN l0 k=l0[k].YB:=by unfold mN;rw[QY a];rfl
 rw[e5];exact⟨mD l0[k],Ex (by rw[Q5,QY a];rfl),_,jI _,fS _⟩
theorem zq(ns:bb Int)(l0:bb Mn)(hl:l0.length<=5):∃cs,Xd l0 cs/\cs.length<=4/\fX [.list (ns.map .int),.int 16,cj l0]=.ok (.fz (.tuple (cs.map a9))):=by
 have O:gl [.int 4]=cL (aB (Rc 4)):=ke (n:=4) (by decide);have R:de [cj l0]=-(nd l0.length):=(fJ _).trans (by simp_all);have B:gl [nd l0.length]=cL (aB (Rc l0.length)):=ke (by ext);have K:iZ (cP (gN 0) (ar (au br (au aC (au aC (aa 1) (aa 0)) (~~~0)) (pC (.str "letter")))) (aa 0) (aB (Rc l0.length)) [lD,-(cj l0)] [])=.ok (((Rc l0.length).filter (mN l0)).map nd):=iz nd nd (mN l0) (Rc l0.length) (by grind) rfl (λk t=>by obtain⟨d,e1,w,e2,e3⟩:=DN (SH.mp t);fail "ev") λk _ _=>ah rfl;have sp:((Rc l0.length).filter (mN l0)).Pairwise (·<·):=Uu _ UQ;have so:∀k∈(Rc l0.length).filter (mN l0),mN l0 k=QM:=λk t=>(RT.mp t).2;have N:((Rc l0.length).filter (mN l0)).length<=5:=by
  grind
 generalize (Rc l0.length).filter (mN l0)=ps at K sp so N;have F:∃rv,fx 8 dH [.list (ns.map .int),.int 16,cj l0]=.ok rv/\∃cs,Xd l0 cs/\cs.length<=4/\rv=.fz (.tuple (cs.map a9)):=by
  refine i8 (T:=λrv=>∃cs,Xd l0 cs/\cs.length<=4/\rv=.fz (.tuple (cs.map a9))) (ρ:=[zf (.list (ns.map .int)),zf (.int 16),zf (cj l0),lD,lD,lD,lD,lD]) rfl ?_;unfold dH;refine bv (ρ3:=[zf (.list (ns.map .int)),zf (.int 16),zf (cj l0),zo (aB ps),lD,lD,lD,lD]) (cB (cs:=[cj l0]) (ds:=aB (Rc l0.length)) (lJ (ds:=[nd l0.length]) (am (bX (rv:=.fz (nd l0.length)) (ds:=[cj l0]) (am (ah rfl) ay) rfl R) ay) rfl B) rfl K) rfl rfl ?_;refine bv (ρ3:=[zf (.list (ns.map .int)),zf (.int 16),zf (cj l0),zo (aB ps),zo [],lD,lD,lD]) (by fail "ev") rfl rfl ?_;refine kQ (λi ρ=>∃(cs:bb (bb Nat×Nat)) (a A r e:bg PV),Xd l0 cs/\cs.length<=i/\(a=zo (aB ps)\/a=zf (.list (aB ps)))/\ρ=[zf (.list (ns.map .int)),zf (.int 16),zf (cj l0),a,zo (cs.map a9),A,r,e]) (ds:=aB (Rc 4)) (ρ1:=[zf (.list (ns.map .int)),zf (.int 16),zf (cj l0),zo (aB ps),zo [],lD,lD,lD]) (by fail "ev") ⟨[],_,lD,lD,lD,Xd.nil _,QV _,.inl rfl,rfl⟩ ?_ ?_
  .rintro i d ρ hi ⟨cs,a,A,r,e,y,C,H,rfl⟩
   obtain⟨k,t,rfl⟩:=ik hi;obtain⟨rfl,S⟩:=iS t;refine⟨[zf (.list (ns.map .int)),zf (.int 16),zf (cj l0),a,zo (cs.map a9),zf (nd k),r,e],rfl,?_⟩;obtain⟨c,Y⟩:=lF ns (16+(k:Int)) (by ext);refine bv (ρ3:=[zf (.list (ns.map .int)),zf (.int 16),zf (cj l0),a,zo (cs.map a9),zf (nd k),zf (.int c),e]) (eW (rv:=.fz (.int c)) (ds:=[.list (ns.map .int),.int (16+(k:Int))]) (am (ah rfl) (am (av (rv:=.fz (.int (16+(k:Int)))) (ah rfl) (ah rfl) rfl rfl (gA _ _)) ay)) rfl rfl Y) rfl rfl ?_;have f:iZ (cP (gN 0) (ar (au pG (dF bp 3 {au ci (aa 1) (au dS (~~~31) (aa 0)),~~~13,~~~3}) (~~~0))) (aa 0) (aB ps) [lD,-(.int c)] [])=.ok ((ps.filter λj:Nat=>decide ((0:Int)<rC (c+31*(j:Int)) 13 3)).map nd):=iz nd nd (λj:Nat=>decide ((0:Int)<rC (c+31*(j:Int)) 13 3)) ps (by ext) rfl (λj J=>by have Q:dS (.int 31) (nd j)=-(.int (31*(j:Int))):=Lu ⟨by decide,by decide⟩;have dd:=gc (c+31*(j:Int)) (s:=13) (m:=3) (by decide) (by decide) (by decide);exact aR (av (rv:=.fz (.bool (decide ((0:Int)<rC (c+31*(j:Int)) 13 3)))) (eW (rv:=.fz (.int (rC (c+31*(j:Int)) 13 3))) (ds:=[.int (c+31*(j:Int)),.int 13,.int 3]) (am (av (rv:=.fz (.int (c+31*(j:Int)))) (ah rfl) (av (rv:=.fz (.int (31*(j:Int)))) aw (ah rfl) rfl rfl Q) rfl rfl (gA _ _)) (am aw (am aw ay))) rfl rfl dd) aw rfl rfl (nj _ _)) rfl) λj _ _=>ah rfl;have o:(ps.filter λj:Nat=>decide ((0:Int)<rC (c+31*(j:Int)) 13 3)).Pairwise (·<·):=Uu _ sp;have p:∀j∈ps.filter (λj:Nat=>decide ((0:Int)<rC (c+31*(j:Int)) 13 3)),mN l0 j=QM:=λj J=>so j (RT.mp J).1;generalize ps.filter (λj:Nat=>decide ((0:Int)<rC (c+31*(j:Int)) 13 3))=s at f o p;have Z:dR hV {cG 1 [6] (gn (aa 3)) (gN 0) (ar (au pG (dF bp 3 {au ci (aa 1) (au dS (~~~31) (aa 0)),~~~13,~~~3}) (~~~0))) (aa 0)} [zf (.list (ns.map .int)),zf (.int 16),zf (cj l0),a,zo (cs.map a9),zf (nd k),zf (.int c),e]=.ok (.fz (.tuple (aB s)),[zf (.list (ns.map .int)),zf (.int 16),zf (cj l0),zf (.list (aB ps)),zo (cs.map a9),zf (nd k),zf (.int c),e]):=by
    rcases H with rfl|rfl
    .exact bX (rv:=.fz (.tuple (aB s))) (ds:=[.list (aB s)]) (am (cB (cs:=[.int c]) (ds:=aB ps) (fL (gz rfl) rfl rfl) rfl f) ay) rfl rfl
    .exact bX (rv:=.fz (.tuple (aB s))) (ds:=[.list (aB s)]) (am (cB (cs:=[.int c]) (ds:=aB ps) (fL (ah rfl) rfl rfl) rfl f) ay) rfl rfl
   refine bv (ρ3:=[zf (.list (ns.map .int)),zf (.int 16),zf (cj l0),zf (.list (aB ps)),zo (cs.map a9),zf (nd k),zf (.int c),zf (.tuple (aB s))]) Z rfl rfl ?_;have G:de [.tuple (aB s)]=-(nd s.length):=(fJ _).trans (by rw[b9]);have E:=yM s (cs.map (·.1));have v:=gc c (s:=17) (m:=3) (by decide) (by decide) (by decide);generalize rC c 17 3=r17 at v;have u:=gc c (s:=19) (m:=4) (by decide) (by decide) (by decide);have g:=kH (x:=c) (s:=19) (m:=4) (by decide);generalize rC c 19 4=r19 at u g;obtain⟨l,Z3,X⟩:=vS (z:= "abxy") [0,1,23,24] (by rfl) (by left) (by decide) g.1 (show r19<4 from g.2);refine uz (b:=decide ((1:Int)<(s.length:Int))&&(decide ((0:Int)<r17)&& !decide (s∈cs.map (·.1)))) (ρ1:=[zf (.list (ns.map .int)),zf (.int 16),zf (cj l0),zf (.list (aB ps)),zo (cs.map a9),zf (nd k),zf (.int c),zf (.tuple (aB s))])
    (jv (aR (av (rv:=.fz (.bool (decide ((1:Int)<(s.length:Int))))) (bX (rv:=.fz (nd s.length)) (am (ah rfl) ay) rfl G) aw rfl rfl (nj _ _)) rfl) λ_=>jv (aR (av (rv:=.fz (.bool (decide ((0:Int)<r17)))) (eW (rv:=.fz (.int r17)) (ds:=[.int c,.int 17,.int 3]) (am (ah rfl) (am aw (am aw ay))) rfl rfl v) aw rfl rfl (nj _ _)) rfl) λ_=>aR (av (rv:=.fz (.bool (!decide (s∈cs.map (·.1))))) (ah rfl) (cB (cs:=[]) (ds:=cs.map a9) (by rfl) rfl (rc cs (by ext) [] rfl)) rfl rfl E) rfl) (λq=>?_) λ_=>xT ⟨cs,_,_,_,_,y,by ext,.inr rfl,rfl⟩
   have I:=(CL _ _▸q:_/\_);have g1:=a6 I.1;have P:=(CL _ _▸I.2:_/\_).2;have U:s∉cs.map (·.1):=λz=>by simp_all
   exact j7 (pv:=.fz .none) (ρ1:=[zf (.list (ns.map .int)),zf (.int 16),zf (cj l0),zf (.list (aB ps)),zo (cs.map a9++[a9 (s,l)]),zf (nd k),zf (.int c),zf (.tuple (aB s))]) (jQ (ds:=cs.map a9) (d:=a9 (s,l)) rfl (eA (ds:=[.tuple (aB s),.str (cW l)]) (am (ah rfl) (am (av (rv:=.fz (.str (cW l))) aw (eW (rv:=.fz (.int r19)) (ds:=[.int c,.int 19,.int 4]) (am (ah rfl) (am aw (am aw ay))) rfl rfl u) rfl rfl X) ay)) rfl (QR rfl)) rfl rfl (by grind) rfl) ⟨cs++[(s,l)],_,_,_,_,y.add (by ext) o p Z3 U,by simp_all,.inr rfl,by rw[RI];rfl⟩
  .rintro ρ ⟨cs,a,A,r,e,y,C,H,rfl⟩;rw[b9,RJ]at C;exact ez (pv:=.fz (.tuple (cs.map a9))) (ρ1:=[zf (.list (ns.map .int)),zf (.int 16),zf (cj l0),a,zo (cs.map a9),A,r,e]) (bX (rv:=.fz (.tuple (cs.map a9))) (ds:=[.list (cs.map a9)]) (am (gz rfl) ay) rfl rfl) rfl ⟨cs,y,C,rfl⟩
 obtain⟨rv,h,cs,M,L,rfl⟩:=F;exact⟨cs,M,L,h⟩
theorem IW(g:1<=n)(f:n<=5)(i:rs.length<=3)(b:rs[0]?=cL l0)(h:VL n rs.length rs)(a:Xd l0 cs)(j:cs.length<=4)(e:1<=w)(d:w<=4):VB ⟨n,rs,cs,w⟩:=by
 cases rs with
 |nil=>cases b
 |cons x r=>cases Ra b;exact⟨g,f,by simp_all,i,h,j,a.vc,a.un,e,d⟩
theorem K3(ns:bb Int):∃b:Bd,VB b/\jl [.list (ns.map .int),.int 5]=.ok (.fz (bD b)):=by
 obtain⟨g,e0⟩:=lF ns 0 (by decide);have d1:=gc g (s:=1) (m:=5) (by decide) (by decide) (by decide);have b1:=kH (x:=g) (s:=1) (m:=5) (by decide);generalize rC g 1 5=r1 at d1 b1;have d2:=gc g (s:=2) (m:=3) (by decide) (by decide) (by decide);have b2:=kH (x:=g) (s:=2) (m:=3) (by decide);generalize rC g 2 3=r2 at d2 b2;have I:=gc g (s:=23) (m:=4) (by decide) (by decide) (by decide);have J:=kH (x:=g) (s:=23) (m:=4) (by decide);generalize rC g 23 4=r23 at I J;obtain⟨n,hn⟩:∃n:Nat,1+r1=(n:Int):=⟨(1+r1).toNat,by ext⟩;obtain⟨K,F⟩:∃n:Nat,1+r2=(n:Int):=⟨(1+r2).toNat,by ext⟩;have O:gl [.int (1+r1)]=cL (aB (Rc n)):=by rw[hn];exact ke (by ext)
 have P:gl [.int (1+r2)]=cL (aB (Rc K)):=by rw[F];exact ke (by ext)
 have E:∃rv,fx 8 fU [.list (ns.map .int),.int 5]=.ok rv/\∃b:Bd,VB b/\rv=.fz (bD b):=by
  refine i8 (T:=λrv=>∃b:Bd,VB b/\rv=.fz (bD b)) (ρ:=[zf (.list (ns.map .int)),zf (.int 5),lD,lD,lD,lD,lD,lD]) rfl ?_;unfold fU;refine bv (ρ3:=[zf (.list (ns.map .int)),zf (.int 5),zf (.int g),lD,lD,lD,lD,lD]) (by fail "ev") rfl rfl ?_;refine bv (ρ3:=[zf (.list (ns.map .int)),zf (.int 5),zf (.int g),zf (.int (1+r1)),lD,lD,lD,lD]) (by fail "ev") rfl rfl ?_;refine bv (ρ3:=[zf (.list (ns.map .int)),zf (.int 5),zf (.int g),zf (.int (1+r1)),zf (.int (1+r2)),lD,lD,lD]) (by fail "ev") rfl rfl ?_;refine bv (ρ3:=[zf (.list (ns.map .int)),zf (.int 5),zf (.int g),zf (.int (1+r1)),zf (.int (1+r2)),zo [],lD,lD]) (by fail "ev") rfl rfl ?_;refine kQ (λi ρ=>∃(e:bb (bb Mn)) (w v:bg PV),e.length=i/\VL (1+r1) (1+r2) e/\ρ=[zf (.list (ns.map .int)),zf (.int 5),zf (.int g),zf (.int (1+r1)),zf (.int (1+r2)),zo (e.map cj),w,v]) (ds:=aB (Rc K)) (ρ1:=[zf (.list (ns.map .int)),zf (.int 5),zf (.int g),zf (.int (1+r1)),zf (.int (1+r2)),zo [],lD,lD]) (by fail "ev") ⟨[],lD,lD,rfl,(λj r h=>by cases h),rfl⟩ ?_ ?_
  .rintro i d ρ hi ⟨e,w,v,z,y,rfl⟩
   obtain⟨L,hL,rfl⟩:=ik hi;obtain⟨rfl,Z⟩:=iS hL;refine⟨[zf (.list (ns.map .int)),zf (.int 5),zf (.int g),zf (.int (1+r1)),zf (.int (1+r2)),zo (e.map cj),zf (nd L),v],rfl,?_⟩;have S:dS (.int (1+r1)) (nd L)=-(.int ((1+r1)*L)):=Lu ⟨by ext,by ext⟩;obtain⟨xs,c1,c2,c3⟩:=tW (gt:=gN 0) (ft:=ef) (fe:=dF bB 2 {aa 1,au ci (au ci (~~~1) (au dS (aa 2) (aa 3))) (aa 0)}) (ds:=aB (Rc n)) (ρ:=[lD,-(.list (ns.map .int)),-(.int (1+r1)),-(nd L)]) (λρ=>∃o,ρ=[o,-(.list (ns.map .int)),-(.int (1+r1)),-(nd L)]) (λ_ x=>∃a:Int,x=.int a/\True) ⟨lD,rfl⟩ (by rw[b9,RJ];ext) (by rintro j d u ρ ⟨o,rfl⟩;obtain⟨k,hk,rfl⟩:=ik u;obtain⟨c,H⟩:=lF ns (1+(1+r1)*L+k) (by have:=Int.mul_nonneg (show 0<=1+r1 by ext) (show(0:Int)<=L by ext);ext);refine⟨.int c,_,Gj (ρ1:=[-(nd k),-(.list (ns.map .int)),-(.int (1+r1)),-(nd L)]) rfl rfl (eW (rv:=.fz (.int c)) (ds:=[.list (ns.map .int),.int (1+(1+r1)*L+k)]) (am (ah rfl) (am (av (rv:=.fz (.int (1+(1+r1)*L+k))) (av (rv:=.fz (.int (1+(1+r1)*L))) aw (av (rv:=.fz (.int ((1+r1)*L))) (ah rfl) (ah rfl) rfl rfl S) rfl rfl (gA _ _)) (ah rfl) rfl rfl (gA _ _)) ay)) rfl rfl H) rfl rfl,⟨_,rfl⟩,c,rfl,trivial⟩);obtain⟨cs,rfl,_⟩:=sW (f:=QO.int) (Q:=λ_ (_:Int)=>True) xs 0 c3;rw[b9,RJ,QQ]at c2;refine bv (pv:=.ow (cs.map .int)) (ρ3:=[zf (.list (ns.map .int)),zf (.int 5),zf (.int g),zf (.int (1+r1)),zf (.int (1+r2)),zo (e.map cj),zf (nd L),zo (cs.map .int)]) (cB (cs:=[.list (ns.map .int),.int (1+r1),nd L]) (ds:=aB (Rc n)) (by fail "ev") rfl c1) rfl rfl ?_;obtain⟨M,c4,c5,c6⟩:=tW (gt:=gN 0) (ft:=ef) (fe:=dF dU 3 {aa 0,aa 1,aa 2}) (ds:=cs.map .int) (ρ:=[lD,-(nd L),-(.int (1+r2))]) (λρ=>∃o,ρ=[o,-(nd L),-(.int (1+r2))]) (λ_ x=>∃a:Mn,x=mD a/\VM L (1+r2) a) ⟨lD,rfl⟩ (by rw[QQ];ext) (by
    rintro j d u ρ ⟨o,rfl⟩;obtain⟨c,rfl⟩:∃c:Int,d=.int c:=by
     rw[Q5]at u;cases q:cs[j]? with
     |none=>rw[q]at u;cases u
     |some x=>rw[q]at u;exact⟨x,(Ra u).symm⟩
    obtain⟨m,A,em⟩:=FB c L (1+r2) (by ext);exact⟨mD m,_,Gj (ρ1:=[-(.int c),-(nd L),-(.int (1+r2))]) rfl rfl (eW (rv:=.fz (mD m)) (ds:=[.int c,nd L,.int (1+r2)]) (am (ah rfl) (am (ah rfl) (am (ah rfl) ay))) rfl rfl em) rfl rfl,⟨_,rfl⟩,m,rfl,A⟩)
   obtain⟨l,rfl,R⟩:=sW (f:=mD) (Q:=λ_ a=>VM L (1+r2) a) M 0 c6;rw[QQ,QQ]at c5;have C:hV [.list (l.map mD)]=-(cj l):=rfl;have Zd:(e.map cj).length<1000000:=by rw[QQ];ext
   refine j7 (pv:=.fz .none) (ρ1:=[zf (.list (ns.map .int)),zf (.int 5),zf (.int g),zf (.int (1+r1)),zf (.int (1+r2)),zo (e.map cj++[cj l]),zf (nd L),zf (.list (cs.map .int))]) (jQ (pa:=.fz (cj l)) (d:=cj l) rfl (bX (rv:=.fz (cj l)) (ds:=[.list (l.map mD)]) (am (cB (cs:=[nd L,.int (1+r2)]) (ds:=cs.map .int) (fL (gz rfl) rfl rfl) rfl c4) ay) rfl C) rfl rfl Zd rfl) ⟨e++[l],_,_,by rw[Q1,z];rfl,x9 y (by ext) (λm hm=>?_),by rw[RI];rfl⟩;obtain⟨t,X⟩:=T1.mp hm;rw[z];exact R t m X
  .rintro ρ ⟨e,w,v,z,y,rfl⟩;rw[b9,RJ]at z;obtain⟨p,G⟩:∃p,e[0]?=cL p:=⟨_,QY (show 0<e.length by ext)⟩;have Y:=(y 0 p G).1;obtain⟨cs,A,N,H⟩:=zq ns p (by ext);have U:aC (.list (e.map cj)) (.int 0)=-(cj p):=Mj (by decide) (by show(e.map cj)[0]?=_;rw[Q5,G];rfl);have C:hV [.list (e.map cj)]=-(.tuple (e.map cj)):=rfl;refine ez (pv:=.fz (bD ⟨1+r1,e,cs,1+r23⟩)) (ρ1:=[zf (.list (ns.map .int)),zf (.int 5),zf (.int g),zf (.int (1+r1)),zf (.int (1+r2)),zo (e.map cj),w,v]) (eA (ds:=[.int (1+r1),.tuple (e.map cj),.tuple (cs.map a9),.int (1+r23)]) (am (ah rfl) (am (bX (rv:=.fz (.tuple (e.map cj))) (ds:=[.list (e.map cj)]) (am (gz rfl) ay) rfl C) (am (eW (rv:=.fz (.tuple (cs.map a9))) (ds:=[.list (ns.map .int),.int 16,cj p]) (am (ah rfl) (am aw (am (av (rv:=.fz (cj p)) (dx:=.list (e.map cj)) (gz rfl) aw rfl rfl U) ay))) rfl rfl H) (am (av (rv:=.fz (.int (1+r23))) aw (by fail "ev") rfl rfl (gA _ _)) ay)))) rfl (QR rfl)) rfl ⟨_,IW (by ext) (by ext) (by ext) G (by rw[show((e.length:Nat):Int)=1+r2 by ext];exact y) A N (by ext) (by ext),rfl⟩
 obtain⟨rv,h,b,B,rfl⟩:=E;exact⟨b,B,h⟩
theorem Nc(i:Int)(k:Nat):yS (.int i) (nd k)=-(.int (i/2^k)):=by show(if Pa i (k:Int)=QM then cL (RV.fz (.int (i/2^((k:Nat):Int).toNat)))else lD)=_;rw[ax (by unfold Pa;exact a4 (by ext)),Sx]
def y8(x:Int)(k:Nat):Bool:=decide (RD.bitAnd (x/2^k) 1=1)
abbrev RE(x n f w:Int)(b e d i a h g:bg PV):aQ:=[zf (.int x),zf (.int 5),zf (.int 3),zf (.int 4),zf (.int n),zf (.int f),zf (.int w),b,e,d,i,a,h,g]
theorem EC(x:Int):∃b:Bd,VB b/\eO [.int x,.int 5,.int 3,.int 4]=.ok (.fz (bD b)):=by
 have m1:dC (.int x) (.int 5)=-(.int (x % 5)):=eU (by decide);have m2:dZ (.int x) (.int 5)=-(.int (x/5)):=fA ⟨by decide,by decide⟩;have m3:dC (.int (x/5)) (.int 3)=-(.int (x/5 % 3)):=eU (by decide);have m4:dZ (.int (x/5)) (.int 3)=-(.int (x/5/3)):=fA ⟨by decide,by decide⟩;have bn:1<=1+x % 5/\1+x % 5<=5:=by ext
 have bl:1<=1+x/5 % 3/\1+x/5 % 3<=3:=by ext
 have Q:∃rv,fx 14 cK [.int x,.int 5,.int 3,.int 4]=.ok rv/\∃b:Bd,VB b/\rv=.fz (bD b):=by
  refine i8 (T:=λrv=>∃b:Bd,VB b/\rv=.fz (bD b)) (ρ:=[zf (.int x),zf (.int 5),zf (.int 3),zf (.int 4),lD,lD,lD,lD,lD,lD,lD,lD,lD,lD]) rfl ?_;unfold cK;refine bv (ρ3:=[zf (.int x),zf (.int 5),zf (.int 3),zf (.int 4),zf (.int (1+x % 5)),lD,lD,lD,lD,lD,lD,lD,lD,lD]) (by fail "ev") rfl rfl ?_;refine bv (ρ3:=[zf (.int x),zf (.int 5),zf (.int 3),zf (.int 4),zf (.int (1+x % 5)),zf (.int (1+x/5 % 3)),lD,lD,lD,lD,lD,lD,lD,lD]) (by fail "ev") rfl rfl ?_;generalize 1+x % 5=n at bn;generalize 1+x/5 % 3=nl at bl;refine bv (ρ3:=[zf (.int (x/5/3)),zf (.int 5),zf (.int 3),zf (.int 4),zf (.int n),zf (.int nl),lD,lD,lD,lD,lD,lD,lD,lD]) (by fail "ev") rfl rfl ?_;generalize x/5/3=y;have m5:dC (.int y) (.int 4)=-(.int (y % 4)):=eU (by decide);have m6:dZ (.int y) (.int 4)=-(.int (y/4)):=fA ⟨by decide,by decide⟩;have bw:1<=1+y % 4/\1+y % 4<=4:=by ext
  refine bv (ρ3:=RE y n nl (1+y % 4) lD lD lD lD lD lD lD) (by fail "ev") rfl rfl ?_;generalize 1+y % 4=w at bw;refine bv (ρ3:=RE (y/4) n nl w lD lD lD lD lD lD lD) (by fail "ev") rfl rfl ?_;generalize y/4=z;refine bv (ρ3:=RE z n nl w (zo []) lD lD lD lD lD lD) (by fail "ev") rfl rfl ?_;have F:gl [.int n]=cL (aB (Rc n.toNat)):=wR (by ext) (by ext);have rgl:gl [.int nl]=cL (aB (Rc nl.toNat)):=wR (by ext) (by ext);have rg4:gl [.int 4]=cL (aB (Rc 4)):=ke (n:=4) (by decide);refine kQ (λi ρ=>∃(z:Int) (a:bb (bb Mn)) (o g e:bg PV),a.length=i/\VL n nl a/\ρ=RE z n nl w (zo (a.map cj)) o g e lD lD lD) (ds:=aB (Rc nl.toNat)) (ρ1:=RE z n nl w (zo []) lD lD lD lD lD lD) (by fail "ev") ⟨z,[],lD,lD,lD,rfl,(λj r h=>by cases h),rfl⟩ ?_ ?_
  .rintro i d ρ hi ⟨z,a,o,g,e,K,J,rfl⟩
   obtain⟨L,hL,rfl⟩:=ik hi;obtain⟨rfl,hin⟩:=iS hL;refine⟨RE z n nl w (zo (a.map cj)) (zf (nd L)) g e lD lD lD,rfl,?_⟩;refine bv (ρ3:=RE z n nl w (zo (a.map cj)) (zf (nd L)) (zo []) e lD lD lD) (by fail "ev") rfl rfl ?_;refine kQ (λi ρ=>∃(z:Int) (p:bb Mn) (e:bg PV),p.length=i/\(∀m∈p,VM L nl m)/\ρ=RE z n nl w (zo (a.map cj)) (zf (nd L)) (zo (p.map mD)) e lD lD lD) (ds:=aB (Rc n.toNat)) (ρ1:=RE z n nl w (zo (a.map cj)) (zf (nd L)) (zo []) e lD lD lD) (by fail "ev") ⟨z,[],e,rfl,(λm h=>by cases h),rfl⟩ ?_ ?_
   .rintro j d ρ U ⟨z,p,e,hm,R,rfl⟩
    obtain⟨k,G,rfl⟩:=ik U;obtain⟨rfl,hjn⟩:=iS G;refine⟨RE z n nl w (zo (a.map cj)) (zf (nd L)) (zo (p.map mD)) (zf (nd k)) lD lD lD,rfl,?_⟩;have e1:dC (.int z) (.int 364)=-(.int (z % 364)):=eU (by decide);have e2:dZ (.int z) (.int 364)=-(.int (z/364)):=fA ⟨by decide,by decide⟩;obtain⟨m,Z,em⟩:=A3 (z % 364) L nl bl.1 bl.2;have Y:(p.map mD).length<1000000:=by rw[QQ];ext
    refine rK (pv:=.fz .none) (ρ1:=RE z n nl w (zo (a.map cj)) (zf (nd L)) (zo (p.map mD++[mD m])) (zf (nd k)) lD lD lD) (jQ (pa:=.fz (mD m)) (d:=mD m) rfl (eW (rv:=.fz (mD m)) (ds:=[.int (z % 364),nd L,.int nl]) (am (av (rv:=.fz (.int (z % 364))) (ah rfl) aw rfl rfl e1) (am (ah rfl) (am (ah rfl) ay))) rfl rfl em) rfl rfl Y rfl) ?_;refine .eq (pT (ρ3:=RE (z/364) n nl w (zo (a.map cj)) (zf (nd L)) (zo (p.map mD++[mD m])) (zf (nd k)) lD lD lD) (by fail "ev") rfl rfl) ⟨⟨z/364,p++[m],_,by rw[Q1,hm];rfl,λx hx=>(R9.mp hx).elim (R x) λq=>by rw[Rn.mp q];exact Z,by rw[RI];rfl⟩⟩
   .rintro ρ ⟨z,p,e,hm,R,rfl⟩
    rw[b9,RJ]at hm;have Y:(a.map cj).length<1000000:=by rw[QQ];ext
    have tu:hV [.list (p.map mD)]=-(cj p):=rfl;exact j7 (pv:=.fz .none) (ρ1:=RE z n nl w (zo (a.map cj++[cj p])) (zf (nd L)) (zo (p.map mD)) e lD lD lD) (jQ (pa:=.fz (cj p)) (d:=cj p) rfl (bX (rv:=.fz (cj p)) (ds:=[.list (p.map mD)]) (am (gz rfl) ay) rfl tu) rfl rfl Y rfl) ⟨z,a++[p],_,_,_,by rw[Q1,K];rfl,x9 J (by ext) (by rw[K];exact R),by rw[RI];rfl⟩
  .rintro ρ ⟨z,a,o,g,e,K,J,rfl⟩
   rw[b9,RJ]at K;obtain⟨l0,X⟩:∃l0,a[0]?=cL l0:=⟨_,QY (show 0<a.length by ext)⟩;have hl0:=(J 0 l0 X).1;have i0:aC (.list (a.map cj)) (.int 0)=-(cj l0):=Mj (by decide) (by show(a.map cj)[0]?=_;rw[Q5,X];rfl);refine bv (ρ3:=RE z n nl w (zo (a.map cj)) o g e (zo []) lD lD) (by fail "ev") rfl rfl ?_;refine kQ (λi ρ=>∃(z:Int) (cs:bb (bb Nat×Nat)) (f v u:bg PV),Xd l0 cs/\cs.length<=i/\(f=zo (a.map cj)\/f=zf (.list (a.map cj)))/\ρ=RE z n nl w f o g e (zo (cs.map a9)) v u) (ds:=aB (Rc 4)) (ρ1:=RE z n nl w (zo (a.map cj)) o g e (zo []) lD lD) (by fail "ev") ⟨z,[],_,lD,lD,Xd.nil _,QV _,.inl rfl,rfl⟩ ?_ ?_
   .rintro i d ρ hi ⟨z,cs,f,v,u,I,N,M,rfl⟩
    obtain⟨j,U,rfl⟩:=ik hi;obtain⟨rfl,hil⟩:=iS U;refine⟨RE z n nl w f o g e (zo (cs.map a9)) (zf (nd j)) u,rfl,?_⟩;have A:iZ (cP (gN 0) (gI (ar (au br (au qO (au yS (aa 1) (aa 0)) (~~~1)) (~~~1))) (ar (au br (au aC (au aC (au aC (aa 2) (~~~0)) (aa 0)) (~~~0)) (pC (.str "letter"))))) (aa 0) (aB (Rc n.toNat)) [lD,-(.int z),-(.list (a.map cj))] [])=.ok (((Rc n.toNat).filter λk=>y8 z k&&mN l0 k).map nd):=iz nd nd (λk=>y8 z k&&mN l0 k) (Rc n.toNat) (by rw[RJ];ext) rfl (λk G=>by have hk':=SH.mp G;obtain⟨d,e1,wd,e2,e3⟩:=DN (l0:=l0) (k:=k) (by ext);have s1:=Nc z k;have s2:qO (.int (z/2^k)) (.int 1)=-(.int (RD.bitAnd (z/2^k) 1)):=rfl;exact jv (aR (av (rv:=.fz (.bool (y8 z k))) (av (rv:=.fz (.int (RD.bitAnd (z/2^k) 1))) (av (rv:=.fz (.int (z/2^k))) (ah rfl) (ah rfl) rfl rfl s1) aw rfl rfl s2) aw rfl rfl (jo _ _)) rfl) λ_=>aR (av (rv:=.fz (.bool (mN l0 k))) (av (rv:=.fz (.str wd)) (av (rv:=.fz d) (av (rv:=.fz (cj l0)) (ah rfl) aw rfl rfl i0) (ah rfl) rfl rfl e1) aw rfl rfl e2) aw rfl rfl e3) rfl) λk _ _=>ah rfl;have C:((Rc n.toNat).filter λk=>y8 z k&&mN l0 k).Pairwise (·<·):=Uu _ UQ;have E:∀k∈(Rc n.toNat).filter (λk=>y8 z k&&mN l0 k),mN l0 k=QM:=λk G=>(CL _ _▸(RT.mp G).2:_/\_).2;generalize (Rc n.toNat).filter (λk=>y8 z k&&mN l0 k)=s at A C E;have a2:dR hV {cG 1 [0,7] (kz gl {aa 4}) (gN 0) (gI (ar (au br (au qO (au yS (aa 1) (aa 0)) (~~~1)) (~~~1))) (ar (au br (au aC (au aC (au aC (aa 2) (~~~0)) (aa 0)) (~~~0)) (pC (.str "letter"))))) (aa 0)} (RE z n nl w f o g e (zo (cs.map a9)) (zf (nd j)) u)=.ok (.fz (.tuple (aB s)),RE z n nl w (zf (.list (a.map cj))) o g e (zo (cs.map a9)) (zf (nd j)) u):=by
     rcases M with rfl|rfl
     .exact bX (rv:=.fz (.tuple (aB s))) (ds:=[.list (aB s)]) (am (cB (cs:=[.int z,.list (a.map cj)]) (ds:=aB (Rc n.toNat)) (lJ (ds:=[.int n]) (am (ah rfl) ay) rfl F) rfl A) ay) rfl rfl
     .exact bX (rv:=.fz (.tuple (aB s))) (ds:=[.list (aB s)]) (am (cB (cs:=[.int z,.list (a.map cj)]) (ds:=aB (Rc n.toNat)) (lJ (ds:=[.int n]) (am (ah rfl) ay) rfl F) rfl A) ay) rfl rfl
    refine bv (ρ3:=RE z n nl w (zf (.list (a.map cj))) o g e (zo (cs.map a9)) (zf (nd j)) (zf (.tuple (aB s)))) a2 rfl rfl ?_;have S:de [.tuple (aB s)]=-(nd s.length):=(fJ _).trans (by rw[b9]);have P:=yM s (cs.map (·.1));have f1:dZ (.int z) (.int 32)=-(.int (z/32)):=fA ⟨by decide,by decide⟩;have f2:dC (.int (z/32)) (.int 26)=-(.int (z/32 % 26)):=eU (by decide);have f3:dZ (.int z) (.int 832)=-(.int (z/832)):=fA ⟨by decide,by decide⟩;obtain⟨l,Z3,el⟩:=DB (r:=z/32 % 26) (by ext) (by ext);have H:∀(t:bb (bb Nat×Nat)),Xd l0 t->t.length<=j+1->Go (cE (au dZ (aa 0) (~~~832)) (gN 0) (RE z n nl w (zf (.list (a.map cj))) o g e (zo (t.map a9)) (zf (nd j)) (zf (.tuple (aB s))))) (λρ=>∃(z:Int) (cs:bb (bb Nat×Nat)) (f v u:bg PV),Xd l0 cs/\cs.length<=j+1/\(f=zo (a.map cj)\/f=zf (.list (a.map cj)))/\ρ=RE z n nl w f o g e (zo (cs.map a9)) v u) (λρ=>∃(z:Int) (cs:bb (bb Nat×Nat)) (f v u:bg PV),Xd l0 cs/\cs.length<=j+1/\(f=zo (a.map cj)\/f=zf (.list (a.map cj)))/\ρ=RE z n nl w f o g e (zo (cs.map a9)) v u) (λrv=>∃b:Bd,VB b/\rv=.fz (bD b)):=λt h1 h2=>
     .eq (pT (ρ3:=RE (z/832) n nl w (zf (.list (a.map cj))) o g e (zo (t.map a9)) (zf (nd j)) (zf (.tuple (aB s)))) (by fail "ev") rfl rfl) ⟨⟨z/832,t,_,_,_,h1,h2,.inr rfl,rfl⟩⟩
    refine iB (b:=decide ((1:Int)<(s.length:Int))&& !decide (s∈cs.map (·.1))) (ρ1:=RE z n nl w (zf (.list (a.map cj))) o g e (zo (cs.map a9)) (zf (nd j)) (zf (.tuple (aB s))))
     (jv (aR (av (rv:=.fz (.bool (decide ((1:Int)<(s.length:Int))))) (bX (rv:=.fz (nd s.length)) (am (ah rfl) ay) rfl S) aw rfl rfl (nj _ _)) rfl) λ_=>aR (av (rv:=.fz (.bool (!decide (s∈cs.map (·.1))))) (ah rfl) (cB (cs:=[]) (ds:=cs.map a9) (by unfold qD;rfl) rfl (rc cs (by ext) [] rfl)) rfl rfl P) rfl) (λq=>?_) λ_=>cT (H cs I (by ext))
    have O:=(CL _ _▸q:_/\_);have g1:=a6 O.1;have g2:s∉cs.map (·.1):=λz=>by rw[a4 z]at O;cases O.2
    exact rK (pv:=.fz .none) (ρ1:=RE z n nl w (zf (.list (a.map cj))) o g e (zo ((cs++[(s,l)]).map a9)) (zf (nd j)) (zf (.tuple (aB s)))) (jQ (ds:=cs.map a9) (d:=a9 (s,l)) rfl (eA (ds:=[.tuple (aB s),.str (cW l)]) (am (ah rfl) (am (av (rv:=.fz (.str (cW l))) aw (av (rv:=.fz (.int (z/32 % 26))) (av (rv:=.fz (.int (z/32))) (ah rfl) aw rfl rfl f1) aw rfl rfl f2) rfl rfl el) ay)) rfl (QR rfl)) rfl rfl (by rw[QQ];ext) (by rw[RI];rfl)) (H _ (I.add (by ext) C E Z3 g2) (by rw[Q1];show cs.length+1<=_;ext))
   .rintro ρ ⟨z,cs,f,v,u,I,N,M,rfl⟩
    rw[b9,RJ]at N;have vb:VB ⟨n,a,cs,w⟩:=IW (by ext) (by ext) (by ext) X (by rw[show((a.length:Nat):Int)=nl by ext];exact J) I N (by ext) (by ext);have tr:∀f,(f=zo (a.map cj)\/f=zf (.list (a.map cj)))->aN {aa 4,dR hV {aa 7},dR hV {aa 11},aa 6} (RE z n nl w f o g e (zo (cs.map a9)) v u)=.ok (.fz (.tuple [.int n,.tuple (a.map cj),.tuple (cs.map a9),.int w]),RE z n nl w f o g e (zo (cs.map a9)) v u):=by
     rintro f (rfl|rfl)
     .exact eA (am (ah rfl) (am (bX (rv:=.fz (.tuple (a.map cj))) (ds:=[.list (a.map cj)]) (am (gz rfl) ay) rfl rfl) (am (bX (rv:=.fz (.tuple (cs.map a9))) (ds:=[.list (cs.map a9)]) (am (gz rfl) ay) rfl rfl) (am (ah rfl) ay)))) rfl (QR rfl)
     .exact eA (am (ah rfl) (am (bX (rv:=.fz (.tuple (a.map cj))) (ds:=[.list (a.map cj)]) (am (ah rfl) ay) rfl rfl) (am (bX (rv:=.fz (.tuple (cs.map a9))) (ds:=[.list (cs.map a9)]) (am (gz rfl) ay) rfl rfl) (am (ah rfl) ay)))) rfl (QR rfl)
    exact ez (pv:=.fz (bD ⟨n,a,cs,w⟩)) (ρ1:=RE z n nl w f o g e (zo (cs.map a9)) v u) (tr f M) rfl ⟨_,vb,rfl⟩
 obtain⟨rv,h,b,B,rfl⟩:=Q;exact⟨b,B,h⟩
theorem NP{n r:Int}(hn:1<=n/\n<=5)(a:0<=r/\r<2*n+1):r/n=0\/r/n=1\/r/n=2:=by
 have:n=1\/n=2\/n=3\/n=4\/n=5:=by ext
 rcases this with rfl|rfl|rfl|rfl|rfl<;>ext
abbrev VE(ns:bb Int)(n:Int)(es:bb UR)(b a:bg PV):aQ:=[zf (.list (ns.map .int)),zf (.int 20),zf (.int n),zo (es.map cZ),b,a]
theorem zD{b:Bd}(B:VB b)(ns:bb Int)(S:ns.length<=63):∃es:bb UR,es.length<=63/\(∀e∈es,EV b e)/\eG [.list (ns.map .int),.int 20,.int b.n]=.ok (.ow (es.map cZ)):=by
 have O:=B.n1;have N:=B.n5;obtain⟨j,C,u⟩:=DY ns (cL 20) (cL 63);have l:∃rv,fx 6 dG [.list (ns.map .int),.int 20,.int b.n]=.ok rv/\∃es:bb UR,es.length<=63/\(∀e∈es,EV b e)/\rv=.ow (es.map cZ):=by
  refine i8 (T:=λrv=>∃es:bb UR,es.length<=63/\(∀e∈es,EV b e)/\rv=.ow (es.map cZ)) (ρ:=[zf (.list (ns.map .int)),zf (.int 20),zf (.int b.n),lD,lD,lD]) rfl ?_;unfold dG;refine bv (ρ3:=VE ns b.n [] lD lD) (by fail "ev") rfl rfl ?_;refine kQ (λi ρ=>∃(es:bb UR) (g a:bg PV),es.length=i/\(∀e∈es,EV b e)/\ρ=VE ns b.n es g a) (ds:=j.map .int) (ρ1:=VE ns b.n [] lD lD) (fL (pa:=.ow (j.map .int)) (IH (rv:=.ow (j.map .int)) (ah rfl) (uZ (ah rfl) rfl) (by fail "ev") rfl u) rfl rfl) ⟨[],lD,lD,rfl,(λe h=>by cases h),rfl⟩ ?_ ?_
  .rintro i d ρ hi ⟨es,g,a,o,p,rfl⟩
   have E:i<j.length:=by have:=(QU.mp hi).1;rwa [QQ]at this
   obtain⟨x,rfl⟩:∃x:Int,d=.int x:=by
    rw[Q5]at hi;cases q:j[i]? with
    |none=>rw[q]at hi;cases hi
    |some x=>rw[q]at hi;exact⟨x,(Ra hi).symm⟩
   refine⟨VE ns b.n es (zf (.int x)) a,rfl,?_⟩;have y:dS (.int 5) (.int b.n)=-(.int (5*b.n)):=Lu ⟨by decide,by decide⟩;have Q:dS (.int 2) (.int b.n)=-(.int (2*b.n)):=Lu ⟨by decide,by decide⟩;have P:dS (.int 4) (.int b.n)=-(.int (4*b.n)):=Lu ⟨by decide,by decide⟩;have dd:=gc x (s:=29) (m:=5*b.n+3) (by decide) (by decide) (by ext);have J:=kH (x:=x) (s:=29) (m:=5*b.n+3) (by ext);generalize rC x 29 (5*b.n+3)=r at dd J;have R:dZ (.int r) (.int 2)=-(.int (r/2)):=fA ⟨by ext,by ext⟩;have K:(es.map cZ).length<1000000:=by rw[QQ];ext
   refine bv (ρ3:=VE ns b.n es (zf (.int x)) (zf (.int r))) (eW (rv:=.fz (.int r)) (ds:=[.int x,.int 29,.int (5*b.n+3)]) (am (ah rfl) (am aw (am (av (rv:=.fz (.int (5*b.n+3))) (av (rv:=.fz (.int (5*b.n))) aw (ah rfl) rfl rfl y) aw rfl rfl (gA _ _)) ay))) rfl rfl dd) rfl rfl ?_;have f:∀(e:UR) (d:D) (t:FE),EV b e->d=cZ e->t (VE ns b.n es (zf (.int x)) (zf (.int r)))=.ok (.fz d,VE ns b.n es (zf (.int x)) (zf (.int r)))->Go (fQ (ky 3 t) (VE ns b.n es (zf (.int x)) (zf (.int r)))) (λρ=>∃(es:bb UR) (g a:bg PV),es.length=i+1/\(∀e∈es,EV b e)/\ρ=VE ns b.n es g a) (λρ=>∃(es:bb UR) (g a:bg PV),es.length=i+1/\(∀e∈es,EV b e)/\ρ=VE ns b.n es g a) (λrv=>∃es:bb UR,es.length<=63/\(∀e∈es,EV b e)/\rv=.ow (es.map cZ)):=λe d t L G F=>by subst G;exact j7 (pv:=.fz .none) (ρ1:=VE ns b.n (es++[e]) (zf (.int x)) (zf (.int r))) (jQ (pa:=.fz (cZ e)) (d:=cZ e) (ds:=es.map cZ) rfl F rfl rfl K (by show[_,_,_,zo (es.map cZ++[cZ e]),_,_]=_;rw[show es.map cZ++[cZ e]=(es++[e]).map cZ by rw[RI];rfl])) ⟨es++[e],_,_,by rw[Q1,o];rfl,λx A=>(R9.mp A).elim (p x) λz=>by rw[Rn.mp z];exact L,rfl⟩
   refine uz (b:=decide (r<2*b.n)) (ρ1:=VE ns b.n es (zf (.int x)) (zf (.int r))) (by fail "ev") (λq=>?_) λw=>uz (b:=decide (r<4*b.n)) (ρ1:=VE ns b.n es (zf (.int x)) (zf (.int r))) (by fail "ev") (λq=>?_) λv=>uz (b:=decide (r<5*b.n)) (ρ1:=VE ns b.n es (zf (.int x)) (zf (.int r))) (by fail "ev") (λq=>?_) λM=>?_
   .have q:=a6 q;exact f (.down (r/2).toNat) (.tuple [.str "down",.int (r/2)]) _ (by show(((r/2).toNat:Nat):Int)<b.n;ext) (by show _=QO.tuple [.str "down",.int (((r/2).toNat:Nat):Int)];rw[Tn (by ext)]) (by fail "ev")
   .have q:=a6 q;have w:=of_decide_eq_false w;exact f (.up (r/2 - b.n).toNat) (.tuple [.str "up",.int (r/2 - b.n)]) _ (by show(((r/2 - b.n).toNat:Nat):Int)<b.n;ext) (by show _=QO.tuple [.str "up",.int (((r/2 - b.n).toNat:Nat):Int)];rw[Tn (by ext)]) (by fail "ev")
   .have q:=a6 q;have v:=of_decide_eq_false v;exact f (.down (r - 4*b.n).toNat) (.tuple [.str "down",.int (r - 4*b.n)]) _ (by show(((r - 4*b.n).toNat:Nat):Int)<b.n;ext) (by show _=QO.tuple [.str "down",.int (((r - 4*b.n).toNat:Nat):Int)];rw[Tn (by ext)]) (by fail "ev")
   .exact f .turn (.tuple [.str "turn",.int 0]) _ trivial rfl (by fail "ev")
  .rintro ρ ⟨es,g,a,o,p,rfl⟩;rw[QQ]at o;exact ez (pv:=.pl 3) (ρ1:=VE ns b.n es g a) (gz rfl) rfl ⟨es,by ext,p,rfl⟩
 obtain⟨rv,h,es,I,H,rfl⟩:=l;exact⟨es,I,H,h⟩
abbrev WE(y n:Int)(es:bb UR)(m:Int)(b a:bg PV):aQ:=[zf (.int y),zf (.int n),zo (es.map cZ),zf (.int m),b,a]
theorem v4{b:Bd}(B:VB b)(x:Int):∃es:bb UR,es.length<=63/\(∀e∈es,EV b e)/\cx [.int x,.int b.n]=.ok (.ow (es.map cZ)):=by
 have C:=B.n1;have A:=B.n5;have g:dC (.int x) (.int 41)=-(.int (x % 41)):=eU (by decide);have P:dZ (.int x) (.int 41)=-(.int (x/41)):=fA ⟨by decide,by decide⟩;have M:0<=x % 41/\x % 41<41:=by ext
 have l:∃rv,fx 6 bW [.int x,.int b.n]=.ok rv/\∃es:bb UR,es.length<=63/\(∀e∈es,EV b e)/\rv=.ow (es.map cZ):=by
  refine i8 (T:=λrv=>∃es:bb UR,es.length<=63/\(∀e∈es,EV b e)/\rv=.ow (es.map cZ)) (ρ:=[zf (.int x),zf (.int b.n),lD,lD,lD,lD]) rfl ?_;unfold bW;refine bv (ρ3:=[zf (.int x),zf (.int b.n),zo [],lD,lD,lD]) (by fail "ev") rfl rfl ?_;refine bv (ρ3:=WE x b.n [] (x % 41) lD lD) (by fail "ev") rfl rfl ?_;generalize x % 41=m at M;refine bv (ρ3:=WE (x/41) b.n [] m lD lD) (by fail "ev") rfl rfl ?_;generalize x/41=y;have O:gl [.int m]=cL (aB (Rc m.toNat)):=wR (by ext) (by ext);refine kQ (λi ρ=>∃(y:Int) (es:bb UR) (f a:bg PV),es.length=i/\(∀e∈es,EV b e)/\ρ=WE y b.n es m f a) (ds:=aB (Rc m.toNat)) (ρ1:=WE y b.n [] m lD lD) (by fail "ev") ⟨y,[],lD,lD,rfl,(λe h=>by cases h),rfl⟩ ?_ ?_
  .rintro i d ρ hi ⟨y,es,f,a,o,t,rfl⟩
   obtain⟨j,H,rfl⟩:=ik hi;obtain⟨rfl,I⟩:=iS H;refine⟨WE y b.n es m (zf (nd j)) a,rfl,?_⟩;have u:dS (.int 2) (.int b.n)=-(.int (2*b.n)):=Lu ⟨by decide,by decide⟩;have e1:dC (.int y) (.int (2*b.n+1))=-(.int (y % (2*b.n+1))):=eU (by ext);have e2:dZ (.int y) (.int (2*b.n+1))=-(.int (y/(2*b.n+1))):=fA ⟨by ext,by ext⟩;have v:0<=y % (2*b.n+1)/\y % (2*b.n+1)<2*b.n+1:=⟨T7 _ (by ext),TC _ (by ext)⟩;generalize y % (2*b.n+1)=r at e1 v;generalize y/(2*b.n+1)=y2 at e2;have N:(es.map cZ).length<1000000:=by rw[QQ];ext
   refine bv (ρ3:=WE y b.n es m (zf (nd j)) (zf (.int r))) (av (rv:=.fz (.int r)) (ah rfl) (av (rv:=.fz (.int (2*b.n+1))) (av (rv:=.fz (.int (2*b.n))) aw (ah rfl) rfl rfl u) aw rfl rfl (gA _ _)) rfl rfl e1) rfl rfl ?_;refine bv (ρ3:=WE y2 b.n es m (zf (nd j)) (zf (.int r))) (av (rv:=.fz (.int y2)) (ah rfl) (av (rv:=.fz (.int (2*b.n+1))) (av (rv:=.fz (.int (2*b.n))) aw (ah rfl) rfl rfl u) aw rfl rfl (gA _ _)) rfl rfl e2) rfl rfl ?_;have E:dC (.int r) (.int b.n)=-(.int (r % b.n)):=eU (by ext);have Q:dZ (.int r) (.int b.n)=-(.int (r/b.n)):=fA ⟨by ext,by ext⟩;have F:=T7 r (show b.n≠0 by ext);have g:=TC r (show 0<b.n by ext);generalize r % b.n=k at E F g;obtain⟨k,rfl⟩:∃j:Nat,k=(j:Int):=⟨k.toNat,by ext⟩;have w:=NP (n:=b.n) (r:=r) ⟨C,A⟩ v;obtain⟨e,p,L⟩:∃e:UR,EV b e/\aC (.list [.tuple [.str "down",.int (k:Int)],.tuple [.str "up",.int (k:Int)],.tuple [.str "turn",.int 0]]) (.int (r/b.n))=-(cZ e):=by
    rcases w with q|q|q
    .exact⟨.down k,g,by rw[q];rfl⟩
    .exact⟨.up k,g,by rw[q];rfl⟩
    .exact⟨.turn,trivial,by rw[q];rfl⟩
   exact j7 (pv:=.fz .none) (ρ1:=[zf (.int y2),zf (.int b.n),zo (es.map cZ++[cZ e]),zf (.int m),zf (nd j),zf (.int r)]) (jQ (pa:=.fz (cZ e)) (d:=cZ e) rfl (av (rv:=.fz (cZ e)) (show _=Res.ok (PV.ow [.tuple [.str "down",.int (k:Int)],.tuple [.str "up",.int (k:Int)],.tuple [.str "turn",.int 0]],_) by fail "ev") (by fail "ev") rfl rfl L) rfl rfl N rfl) ⟨y2,es++[e],_,_,by rw[Q1,o];rfl,λx G=>(R9.mp G).elim (t x) λz=>by rw[Rn.mp z];exact p,by unfold WE;rw[RI];rfl⟩
  .rintro ρ ⟨y,es,f,a,o,t,rfl⟩;rw[b9,RJ]at o;exact ez (pv:=.pl 2) (ρ1:=WE y b.n es m f a) (gz rfl) rfl ⟨es,by ext,t,rfl⟩
 obtain⟨rv,h,es,K,J,rfl⟩:=l;exact⟨es,K,J,h⟩
theorem Dm(ns:bb Int)(F:ns.length<=63):∃(b:Bd) (es:bb UR),VB b/\es.length<=63/\(∀e∈es,EV b e)/\gW [.list (ns.map .int)]=.ok (.fz (.tuple [bD b,.list (es.map cZ)])):=by
 obtain⟨j,H,e0⟩:=K3 ns;obtain⟨d,e1⟩:=lF ns 1 (by decide);obtain⟨a,e2⟩:=lF ns 2 (by decide);obtain⟨m,G,A⟩:=EC (if d<0 then -d else d);have E:ud [.int d]=-(.int (if d<0 then -d else d)):=rfl;have C:ud [.int a]=-(.int (if a<0 then -a else a)):=rfl;have l:∃rv,fx 2 d4 [.list (ns.map .int)]=.ok rv/\∃(b:Bd) (es:bb UR),VB b/\es.length<=63/\(∀e∈es,EV b e)/\rv=.fz (.tuple [bD b,.list (es.map cZ)]):=by
  refine i8 (T:=λrv=>∃(b:Bd) (es:bb UR),VB b/\es.length<=63/\(∀e∈es,EV b e)/\rv=.fz (.tuple [bD b,.list (es.map cZ)])) (ρ:=[zf (.list (ns.map .int)),lD]) rfl ?_;have i:∀b:Bd,VB b->Go ((a8 (jb (uV (ar (jO LY Eg (~~~0) (dF bB 2 {aa 0,~~~2}) (au wx (~~~10) (~~~18))))) (cY (aN {aa 1,dF cx 2 {dR ud {dF bB 2 {aa 0,~~~2}},au aC (aa 1) (~~~0)}})) c9) (cY (aN {aa 1,dF eG 3 {aa 0,~~~20,au aC (aa 1) (~~~0)}}))) [zf (.list (ns.map .int)),zf (bD b)]) (λ_=>∃(b:Bd) (es:bb UR),VB b/\es.length<=63/\(∀e∈es,EV b e)/\RV.fz .none=.fz (.tuple [bD b,.list (es.map cZ)])) (λ_=>False) (λrv=>∃(b:Bd) (es:bb UR),VB b/\es.length<=63/\(∀e∈es,EV b e)/\rv=.fz (.tuple [bD b,.list (es.map cZ)])):=λb B=>by
   have o:aC (bD b) (.int 0)=-(.int b.n):=gQ;obtain⟨g,v,u,t⟩:=v4 B (if a<0 then -a else a);obtain⟨f,r,q,p⟩:=zD B ns F;refine iB (b:= !(decide (0<=a)&&decide (a<10^18))) (ρ1:=[zf (.list (ns.map .int)),zf (bD b)]) (by fail "ev") (λ_=>?_) λ_=>cT ?_
   .exact fK (pv:=.fz (.tuple [bD b,.list (g.map cZ)])) (ρ1:=[zf (.list (ns.map .int)),zf (bD b)]) (eA (am (ah rfl) (am (eW (rv:=.ow (g.map cZ)) (ds:=[.int (if a<0 then -a else a),.int b.n]) (am (bX (rv:=.fz (.int (if a<0 then -a else a))) (by fail "ev") rfl C) (am (av (rv:=.fz (.int b.n)) (ah rfl) aw rfl rfl o) ay)) rfl rfl t) ay)) rfl (QR rfl)) rfl ⟨b,g,B,v,u,rfl⟩
   .exact ez (pv:=.fz (.tuple [bD b,.list (f.map cZ)])) (ρ1:=[zf (.list (ns.map .int)),zf (bD b)]) (eA (am (ah rfl) (am (eW (rv:=.ow (f.map cZ)) (ds:=[.list (ns.map .int),.int 20,.int b.n]) (am (ah rfl) (am aw (am (av (rv:=.fz (.int b.n)) (ah rfl) aw rfl rfl o) ay))) rfl rfl p) ay)) rfl (QR rfl)) rfl ⟨b,f,B,r,q,rfl⟩
  unfold d4;refine bv (ρ3:=[zf (.list (ns.map .int)),zf (bD j)]) (eW (rv:=.fz (bD j)) (ds:=[.list (ns.map .int),.int 5]) (am (ah rfl) (am aw ay)) rfl rfl e0) rfl rfl ?_;refine iB (b:= !(decide (0<=d)&&decide (d<10^18))) (ρ1:=[zf (.list (ns.map .int)),zf (bD j)]) (by fail "ev") (λ_=>?_) λ_=>cT (i j H);exact bv (ρ3:=[zf (.list (ns.map .int)),zf (bD m)]) (eW (rv:=.fz (bD m)) (ds:=[.int (if d<0 then -d else d),.int 5,.int 3,.int 4]) (am (bX (rv:=.fz (.int (if d<0 then -d else d))) (by fail "ev") rfl E) (am aw (am aw (am aw ay)))) rfl rfl A) rfl rfl (i m G)
 obtain⟨rv,h,b,es,z,y,w,rfl⟩:=l;exact⟨b,es,z,y,w,h⟩
def kO(s:SK)(t:Nat):bb (bK×SV):=[(.inr "acts",.rf 0),(.inr "waiting",.fz (fm s.wt)),(.inr "once",.fz (kS s.oc)),(.inr "sent",.rf t)]
structure SX(p:SK×Sn)(t:Nat)(ω:aW):Prop where
 ex:∃ps:bb (Nat×Mn),ps.Perm (ei p.1.ac)/\ω[0]?=cL (.Te (ps.map iA))
 sp:ω[2]?=cL (.Te (kO p.1 t))
 sn:ω[t]?=cL (.lst ((p.2.map ja).map .fz))
 t0:t≠0
 t2:t≠2
theorem eR{x y:Str}{v:SV}{r:bb (bK×SV)}(h:(x==y)=QP):eD ((.inr x,v)::r) (.inr y)=eD r (.inr y):=by unfold eD;rw[List.find?_cons_of_neg];intro z;have:=Sum.inr.inj (a6 z);rw[this]at h;simp at h
theorem nM{y:Str}{v:SV}{r:bb (bK×SV)}:eD ((.inr y,v)::r) (.inr y)=cL v:=by unfold eD;rw[List.find?_cons_of_pos (p:=λa:bK×SV=>decide (a.1=.inr y)) (a4 rfl)];rfl
theorem C4(s:SK)(t:Nat):eD (kO s t) (.inr "acts")=cL (.rf 0):=nM
theorem ve(s:SK)(t:Nat):eD (kO s t) (.inr "waiting")=-(fm s.wt):=(eR (by left)).trans nM
theorem vi(s:SK)(t:Nat):eD (kO s t) (.inr "once")=-(kS s.oc):=(eR (by left)).trans ((eR (by left)).trans nM)
theorem uc(s:SK)(t:Nat):eD (kO s t) (.inr "sent")=cL (.rf t):=(eR (by left)).trans ((eR (by left)).trans ((eR (by left)).trans nM))
theorem jq{x y:Str}{A:Type}{a c:A}(h:(x==y)=QP):(if(Sum.inr x:bK)=Sum.inr y then a else c)=c:=a3 λz=>by have:=Sum.inr.inj z;rw[this]at h;simp at h
theorem rP{kvs:bb (bK×SV)}{k:bK}{x y:SV}(h:eD kvs k=cL y):cH kvs k x=kvs.map λkv=>if kv.1=k then(kv.1,x)else kv:=by
 unfold cH;rw[ax];unfold eD at h;cases q:kvs.find? λkv=>decide (kv.1=k)with
 |none=>rw[q]at h;cases h
 |some kv=>exact S0.mpr ⟨kv,Uo q,Y2 (p:=λkv:bK×SV=>decide (kv.1=k)) q⟩
theorem BC(s:SK)(t:Nat)(w:Wq):cH (kO s t) (.inr "waiting") (.fz (fm w))=kO {s with wt:=w} t:=by rw[rP (ve s t)];unfold kO;simp only[Q7,S7];rw[jq (by left),ax trivial,jq (by left),jq (by left)]
theorem Db(s:SK)(t:Nat)(o:bg Int):cH (kO s t) (.inr "once") (.fz (kS o))=kO {s with oc:=o} t:=by rw[rP (vi s t)];unfold kO;simp only[Q7,S7];rw[jq (by left),jq (by left),ax trivial,jq (by left)]
theorem DA(s:SK)(t t':Nat):cH (kO s t) (.inr "sent") (.rf t')=kO s t':=by rw[rP (uc s t)];unfold kO;simp only[Q7,S7];rw[jq (by left),jq (by left),jq (by left),ax trivial]
section
variable{b:Bd}{p:SK×Sn}{t i:Nat}{ω ω1 ω2:aW}{ρ:aZ}{k:Nat}{a:Mn}{x y z:SV}{d dx dy:D}{ds:bb D}
theorem SX.app(h:SX p t ω)(K:aW):SX p t (ω++K):=
 ⟨let⟨ps,h1,h2⟩:=h.ex;⟨ps,h1,dL h2⟩,dL h.sp,dL h.sn,h.t0,h.t2⟩
theorem ff{A:Type}{l:bb A}{i j:Nat}{x:A}(h:i≠j):(l.set i x)[j]?=l[j]? :=Tg h
theorem mB{A:Type}{l:bb A}{i:Nat}{x y:A}(h:l[i]?=cL y):(l.set i x)[i]?=cL x:=S5 (QU.mp h).1
theorem SX.adF(h:SX p t ω)(w:Wq):SX ({p.1 with wt:=w},p.2) t (ω.set 2 (.Te (cH (kO p.1 t) (.inr "waiting") (.fz (fm w))))):=
 ⟨let⟨ps,h1,h2⟩:=h.ex;⟨ps,h1,by rw[ff (by decide)];exact h2⟩,by rw[mB h.sp,BC],by rw[ff (dt h.t2)];exact h.sn,h.t0,h.t2⟩
theorem SX.ZP(h:SX p t ω)(o:bg Int):SX ({p.1 with oc:=o},p.2) t (ω.set 2 (.Te (cH (kO p.1 t) (.inr "once") (.fz (kS o))))):=
 ⟨let⟨ps,h1,h2⟩:=h.ex;⟨ps,h1,by rw[ff (by decide)];exact h2⟩,by rw[mB h.sp,Db],by rw[ff (dt h.t2)];exact h.sn,h.t0,h.t2⟩
theorem jE(h:SX p t ω)(e:ρ[i]?=cL (cL (.rf 2))):aX (aq i) (af (pC (.str "acts"))) ρ ω=.ok (.rf 0) ω:=km (aU e) (ag (d:=.str "acts") aw) rfl h.sp (C4 _ _)
theorem eT(h:SX p t ω)(e:ρ[i]?=cL (cL (.rf 2))):aX (aq i) (af (pC (.str "waiting"))) ρ ω=.ok (.fz (fm p.1.wt)) ω:=km (aU e) (ag (d:=.str "waiting") aw) rfl h.sp (ve _ _)
theorem sg(h:SX p t ω)(e:ρ[i]?=cL (cL (.rf 2))):aX (aq i) (af (pC (.str "once"))) ρ ω=.ok (.fz (kS p.1.oc)) ω:=km (aU e) (ag (d:=.str "once") aw) rfl h.sp (vi _ _)
theorem tD(h:SX p t ω)(e:ρ[i]?=cL (cL (.rf 2))):aX (aq i) (af (pC (.str "sent"))) ρ ω=.ok (.rf t) ω:=km (aU e) (ag (d:=.str "sent") aw) rfl h.sp (uc _ _)
theorem mH(h:SX p t ω)(f:ρ[i]?=cL (cL (.rf 2))){fv:cR}{w:Wq}(e:fv ρ ω=.ok (.fz (fm w)) ω):∃ω',dM (aq i) (af (pC (.str "waiting"))) fv ρ ω=.ok (.nx ρ) ω'/\SX ({p.1 with wt:=w},p.2) t ω':=
 ⟨_,l4 e (aU f) (ag (d:=.str "waiting") aw) rfl h.sp (by show 4<1000000;decide),h.adF w⟩
theorem AJ(h:SX p t ω)(f:ρ[i]?=cL (cL (.rf 2))){fv:cR}{o:bg Int}(e:fv ρ ω=.ok (.fz (kS o)) ω):∃ω',dM (aq i) (af (pC (.str "once"))) fv ρ ω=.ok (.nx ρ) ω'/\SX ({p.1 with oc:=o},p.2) t ω':=
 ⟨_,l4 e (aU f) (ag (d:=.str "once") aw) rfl h.sp (by show 4<1000000;decide),h.ZP o⟩
theorem Fg{f:D->D->bg RV}(g:sh ω x=cL dx)(e:sh ω y=cL dy)(h:f dx dy=cL (.ow ds)):kX f x y ω=.ok (.rf ω.length) (ω++[.lst (ds.map .fz)]):=by unfold kX;rw[g,e];show((RS.RK ω (f dx dy)).bind λrv ω1=>jD ω1 rv)=_;rw[h];rfl
theorem bj{F:g9}{n:Nat}{fa:xp}{xs:bb SV}(ha:fa ρ ω=.ok xs ω1)(hn:xs.length=n)(e:F xs ω1=.ok x ω2):cw F n fa ρ ω=.ok x ω2:=by unfold cw;rw[ha,ee,ax hn,e];rfl
theorem oM{α:Type}{gt:tG}{ft:oa}{fe:cR}(e:α->D)(f:α->bg SV)(ω:aW)(I:aZ->Prop):∀(xs:bb α) (ρ:aZ) (acc:bb SV),I ρ->acc.length+xs.length<=1000000->(∀x∈xs,∀ρ,I ρ->∃ρ',gt (.fz (e x)) ρ ω=.ok ρ' ω/\I ρ'/\((∃y,f x=cL y/\ft ρ' ω=.ok QM ω/\fe ρ' ω=.ok y ω)\/(f x=lD/\ft ρ' ω=.ok QP ω)))->ce gt ft fe (xs.map e) ρ ω acc=.ok (acc++xs.filterMap f) ω
 |[],ρ,acc,_,_,_=>by show RS.ok acc ω=_;rw[List.filterMap_nil,Ru]
 |x::r,ρ,acc,h0,hl,hs=>by
  obtain⟨ρ',m,l,h⟩:=hs x Q2 ρ h0;rw[QZ]at hl;show((gt (.fz (e x)) ρ ω).bind _)=_;rcases h with⟨y,g,j,n⟩|⟨g,j⟩
  .rw[m,ee,j,ee,ax rfl,n,ee,ax (by ext),oM e f ω I r ρ' _ l (by rw[Q1,TZ];ext) λy g=>hs y (Q0 _ g),Sa,UE g];rfl
  .rw[m,ee,j,ee,a3 Rh,oM e f ω I r ρ' _ l (by ext) λy g=>hs y (Q0 _ g),UD g]
theorem JT(g:VB b){s:SK}(l:SA b s){ps:bb (Nat×Mn)}(o:ps.Perm (ei s.ac)):vq (0::ps.filterMap vv)=ny s.ac:=by
 obtain⟨q,m⟩:=wS (ns:=0::ps.filterMap vv) (by rw[QZ];ext);obtain⟨v,w,u,r⟩:=xh g l;have mem:∀n:Int,n∈ps.filterMap vv↔∃k,k<5/\s.ac k=cL (.Sr n):=λn=>by
  constructor
  .intro h
   obtain⟨⟨k,a⟩,f,e⟩:=S6.mp h;have:=(ia o).mp f;cases a with
   |Sr j=>cases e;exact⟨k,this⟩
   |_=>cases e
  .rintro⟨k,f,e⟩;exact S6.mpr ⟨(k,.Sr n),(ia o).mpr ⟨f,e⟩,rfl⟩
 have B:vq (0::ps.filterMap vv)<=ny s.ac:=by
  rcases Rm.mp q with h|h
  .rw[h];exact v
  .obtain⟨k,_,e⟩:=(mem _).mp h;exact u k _ e
 have A:ny s.ac<=vq (0::ps.filterMap vv):=by
  rcases r with h|⟨k,h⟩
  .rw[h];exact m 0 Q2
  .refine m _ (Q0 _ ((mem _).mpr ⟨k,?_,h⟩));have:=(l.ac k _ h).1;have:=g.n5;ext
 ext
theorem zz{kvs:bb (bK×SV)}{xs:bb SV}{ω:aW}(h:ω[0]?=cL (.Te kvs)):Xz (ω.set 0 .dead++[Cell.lst xs]) 0 (Cell.Te kvs)=ω++[Cell.lst xs]:=by
 cases ω with
 |nil=>cases h
 |cons c r=>cases Ra h;rfl
theorem yk(u:VB b)(h:SX p t ω)(w:SA b p.1):∃ω',b6 [.rf 2] ω=.ok (.fz (.int (gR p.1.ac p.1.oc))) ω'/\∃K,ω'=ω++K:=by
 refine dI (v:=.fz (.int (gR p.1.ac p.1.oc))) (W:=λω'=>∃K,ω'=ω++K) (ρ:=[cL (.rf 2)]) rfl ?_;unfold fF;cases q:p.1.oc with
 |some o=>
  have e1:gS (kS p.1.oc) .none=-(.bool QM):=by rw[q];rfl
  refine eV (ω1:=ω) (aA (bz (sg h rfl) (ag aw) (bi e1))) (C2 (sg h rfl) ⟨?_,[],(Ru _).symm⟩);rw[q];rfl
 |none=>
  have e1:gS (kS p.1.oc) .none=-(.bool QP):=by rw[q];rfl
  refine dg (ω1:=ω) (aA (bz (sg h rfl) (ag aw) (bi e1))) (cb ?_);obtain⟨ps,l,m⟩:=h.ex;have f:=oQ l;have B:(ps.map iA).map (·.2)=(ps.map λp=>mD p.2).map SV.fz:=by rw[Rv,Rv];rfl
  have A:(ps.filterMap vv).length<=5:=Rp (WN _ _) f;have g:=JT u w l;have r:∀ω:aW,ce (eI 0) (aH (ar (au br (au aC (aa 0) (~~~0)) (pC (.str "layer"))))) (af (au aC (aa 0) (~~~1))) (ps.map λp=>mD p.2) [lD] ω []=.ok (((ps.filterMap vv).map QO.int).map SV.fz) ω:=λω=>by
   refine(oM (λp:Nat×Mn=>mD p.2) (λp=>(vv p).map λn=>SV.fz (.int n)) ω (λρ=>∃o,ρ=[o]) ps [lD] [] ⟨lD,rfl⟩ (by rw[Sz];ext) ?_).trans (by rw[Ta,Rv,X5];rfl);rintro⟨k,a⟩ _ ρ ⟨o,rfl⟩;refine⟨[-(mD a)],rfl,⟨_,rfl⟩,?_⟩;have e1:=jI a;have e2:=vk a;have j:aH (ar (au br (au aC (aa 0) (~~~0)) (pC (.str "layer")))) [-(mD a)] ω=.ok a.V1 ω:=aK (by fail "ev");cases a with
   |Sr n=>exact .inl ⟨.fz (.int n),rfl,j,ag (av (rv:=.fz (.int n)) (ah rfl) aw rfl rfl ig)⟩
   |_=>exact .inr ⟨rfl,j⟩
  generalize ps.filterMap vv=e at A g r;have H:ci (.list [.int 0]) (.list (e.map .int))=cL (.ow ((0::e).map .int)):=by show(if 1+(e.map QO.int).length<=1000000 then cL (RV.ow ([.int 0]++e.map QO.int))else lD)=_;rw[QQ,ax (by ext)];rfl
  have hm:uv [.list ((0::e).map .int)]=-(.int (ny p.1.ac)):=by show(match jB ((0::e).map QO.int)with|some e=>if 0<e.length then cL (RV.fz (.int (vq e)))else lD|none=>lD)=_;rw[L3.jG];show(if 0<(0::e).length then cL (RV.fz (.int (vq (0::e))))else lD)=_;rw[ax (by rw[QZ];ext),g]
  have G:af (cz {~~~0}) [cL (.rf 2)] ω=.ok (.rf ω.length) (ω++[Cell.lst ([QO.int 0].map .fz)]):=eE (ds:=[.int 0]) (by fail "ev");have C:=h.app [Cell.lst ([QO.int 0].map .fz)]
  have F:mh 1 [] (aX (aq 0) (af (pC (.str "acts")))) (eI 0) (aH (ar (au br (au aC (aa 0) (~~~0)) (pC (.str "layer"))))) (af (au aC (aa 0) (~~~1))) [cL (.rf 2)] (ω++[Cell.lst ([QO.int 0].map .fz)])=.ok (.rf (ω++[Cell.lst ([QO.int 0].map .fz)]).length) (ω++[Cell.lst ([QO.int 0].map .fz)]++[Cell.lst ((e.map QO.int).map .fz)]):=
   (Au (i:=0) (kvs:=ps.map iA) (ω2:=(ω++[Cell.lst ([QO.int 0].map .fz)]).set 0 .dead) (jE C rfl) (dL m) B (r _)).trans (by rw[zz (dL m),RU])
  have E:kX ci (.rf ω.length) (.rf (ω++[Cell.lst ([QO.int 0].map .fz)]).length) (ω++[Cell.lst ([QO.int 0].map .fz)]++[Cell.lst ((e.map QO.int).map .fz)])=_:=Fg (fG (ds:=[.int 0]) (dL aM)) (fG (ds:=e.map .int) aM) H;refine mJ (Bf (ds:=[.list ((0::e).map .int)]) (ai (bz G F E) az) (jc (fG aM)) hm) ⟨?_,_,by rw[Sa,Sa]⟩;rfl
theorem DG(e:VB b)(h:SX p t ω)(f:SA b p.1):∃ω',b6 [.rf 2] ω=.ok (.fz (.int (gR p.1.ac p.1.oc))) ω'/\SX p t ω':=by obtain⟨ω',g,K,rfl⟩:=yk e h f;exact⟨_,g,h.app K⟩
theorem SX.put(h:SX p t ω)(j:k<5):∃kvs,ω[0]?=cL (.Te kvs)/\kvs.length<1000000/\SX ({p.1 with ac:=gJ p.1.ac k (cL a)},p.2) t (ω.set 0 (.Te (cH kvs (.inl (k:Int)) (.fz (mD a))))):=by obtain⟨ps,e,f⟩:=h.ex;obtain⟨g,m,l⟩:=ya e (k:=k) (a:=a) j;refine⟨_,f,by rw[QQ];have:=oQ e;ext,⟨g,l,by rw[mB f,m]⟩,by rw[ff (by decide)];exact h.sp,by rw[ff (dt h.t0)];exact h.sn,h.t0,h.t2⟩
theorem SX.snd(h:SX p t ω)(q:Nat×Bool):SX (p.1,p.2++[q]) t (ω.set t (.lst ((p.2.map ja).map .fz++[.fz (ja q)]))):=
 ⟨let⟨ps,h1,h2⟩:=h.ex;⟨ps,h1,by rw[ff h.t0];exact h2⟩,by rw[ff h.t2];exact h.sp,by rw[mB h.sn,RI,RI];rfl,h.t0,h.t2⟩
theorem Cf(h:SX p t ω)(f:ρ[i]?=cL (cL (.rf 2)))(j:AK p.1.ac)(ha:LB a):∃r ω',kF (aX (aq i) (af (pC (.str "acts")))) ρ ω=.ok r ω'/\SX p t ω'/\kX jX (.fz (mD a)) r ω'=.ok (.fz (.bool (!gC p.1.ac a))) ω':=by
 obtain⟨ps,e,g⟩:=h.ex;have e1:gC p.1.ac a=decide (a∈ps.map (·.2)):=decide_eq_decide.mpr (e.map (·.2)).symm.mem_iff;have lb:∀m∈ps.map (·.2),LB m:=λm hm=>by obtain⟨q,l,rfl⟩:=RP.mp hm;exact(j _ _ ((ia e).mp l).2).2
 refine⟨_,_,xc (jE h f) g,h.app _,?_⟩;rw[e1];exact p7 rfl (fG (by rw[uh];exact aM)) (B8 ha lb)
theorem lK(h:SX p t ω)(q:AK p.1.ac)(o:k<5)(ha:LB a)(C:p.2.length<1000):∃ω',bT [.rf 2,.fz (nd k),.fz (mD a)] ω=.ok (.fz .none) ω'/\SX (dJ p k a) t ω':=by
 refine dI (W:=λω'=>SX (dJ p k a) t ω') (ρ:=[cL (.rf 2),-(nd k),-(mD a)]) rfl ?_;unfold gv;have A:=jI a;have j:=fS a;have e:∀ω',SX (p.1,p.2++jH p.1.ac a) t ω'->Tu (dM (aX (aq 0) (af (pC (.str "acts")))) (af (aa 1)) (af (aa 2)) [cL (.rf 2),-(nd k),-(mD a)] ω') (λ_ ω'=>SV.fz .none=.fz .none/\SX (dJ p k a) t ω') (λ_ _=>False) (λr ω'=>r=.fz .none/\SX (dJ p k a) t ω'):=λω' l=>by obtain⟨kvs,w,v,u⟩:=l.put (k:=k) (a:=a) o;exact i6 (l4 (k:=.inl (k:Int)) (y:=.fz (mD a)) (i:=0) (ag (ah rfl)) (jE l rfl) (ag (d:=nd k) (ah rfl)) rfl w v) ⟨rfl,u⟩
 cases qm:a.YB with
 |false=>
  rw[qm]at j;refine dg (ω1:=ω) (bQ (aK (b:=QP) (by fail "ev"))) (cb (e ω ?_));have:jH p.1.ac a=[]:=by
   cases a with
   |Q6 c=>cases qm
   |_=>rfl
  rw[this,Ru];exact h
 |true=>
  rw[qm]at j;obtain⟨r,ω',n,f,m⟩:=Cf (ρ:=[cL (.rf 2),-(nd k),-(mD a)]) (i:=0) h rfl q ha;have g:gq (aH (ar (au br (au aC (aa 2) (~~~0)) (pC (.str "letter"))))) (aO (g7 jX (af (aa 2)) (kF (aX (aq 0) (af (pC (.str "acts"))))))) [cL (.rf 2),-(nd k),-(mD a)] ω=.ok (!gC p.1.ac a) ω':=cJ (aK (b:=QM) (by fail "ev")) (aA (bz (x:=.fz (mD a)) (ag (ah rfl)) n m));cases a with
  |Q6 c=>
   cases qh:gC p.1.ac (.Q6 c)with
   |true=>
    rw[qh]at g;refine dg g (cb (e ω' ?_));have:jH p.1.ac (.Q6 c)=[]:=by show(if gC p.1.ac (.Q6 c)=QM then[]else _)=[];rw[qh,ax rfl]
    rw[this,Ru];exact f
   |false=>
    rw[qh]at g;have B:aC (mD (.Q6 c)) (.int 1)=-(.str (cW c)):=ig;refine eV g (dj (tJ (i:=t) (x:=.fz (ja (c,QM))) (tD f rfl) f.sn (ag (d:=ja (c,QM)) (show _=Res.ok (PV.fz (.tuple [.str (cW c),.str "down"]),_) by fail "ev")) f.sn (by rw[QQ,QQ];ext)) (e _ ?_));have:jH p.1.ac (.Q6 c)=[(c,QM)]:=by show(if gC p.1.ac (.Q6 c)=QM then[]else _)=_;rw[qh,a3 Rh]
    rw[this];exact f.snd (c,QM)
  |_=>cases qm
theorem HP(h:SX p t ω)(m:AK p.1.ac)(ha:p.1.ac k=cL a)(I:p.2.length<1000):∃ω',g8 [.rf 2,.fz (nd k)] ω=.ok (.fz .none) ω'/\SX (go p k) t ω':=by
 have A:=(m k a ha).1;have lb:=(m k a ha).2;refine dI (W:=λω'=>SX (go p k) t ω') (ρ:=[cL (.rf 2),-(nd k),lD]) rfl ?_;unfold iQ;obtain⟨ps,q,l⟩:=h.ex;obtain⟨w,E,C⟩:=uT q (k:=k);have B:go p k=({p.1 with ac:=gJ p.1.ac k lD},p.2++zV (gJ p.1.ac k lD) a):=by unfold go;rw[ha]
 rw[B]
 have n:SX ({p.1 with ac:=gJ p.1.ac k lD},p.2) t (ω.set 0 (.Te (iM (ps.map iA) (.inl (k:Int))))):=
  ⟨⟨w,C,by rw[mB l,E]⟩,by rw[ff (by decide)];exact h.sp,by rw[ff (dt h.t0)];exact h.sn,h.t0,h.t2⟩
 have F:AK (gJ p.1.ac k lD):=λj x e=>by
  unfold gJ at e;split at e
  .cases e
  .exact m j x e
 refine bU (x:=.fz (mD a)) (ω1:=ω.set 0 (.Te (iM (ps.map iA) (.inl (k:Int))))) (ρ1:=[cL (.rf 2),-(nd k),-(mD a)]) (yK (k:=.inl (k:Int)) (i:=0) (jE h rfl) l (ag (d:=nd k) (ah rfl)) rfl l (by rw[gO q A,ha];rfl)) rfl ?_;generalize ω.set 0 (.Te (iM (ps.map iA) (.inl (k:Int))))=ω0 at n;have G:=jI a;have o:=fS a;cases qm:a.YB with
 |false=>
  rw[qm]at o;refine aV (ω1:=ω0) (bQ (aK (b:=QP) (by fail "ev"))) (eS ⟨rfl,?_⟩);have:zV (gJ p.1.ac k lD) a=[]:=by
   cases a with
   |Q6 c=>cases qm
   |_=>rfl
  rw[this,Ru];exact n
 |true=>
  rw[qm]at o;obtain⟨r,ω',v,f,u⟩:=Cf (ρ:=[cL (.rf 2),-(nd k),-(mD a)]) (i:=0) n rfl F lb;have g:gq (aH (ar (au br (au aC (aa 2) (~~~0)) (pC (.str "letter"))))) (aO (g7 jX (af (aa 2)) (kF (aX (aq 0) (af (pC (.str "acts"))))))) [cL (.rf 2),-(nd k),-(mD a)] ω0=.ok (!gC (gJ p.1.ac k lD) a) ω':=cJ (aK (b:=QM) (by fail "ev")) (aA (bz (x:=.fz (mD a)) (ag (ah rfl)) v u));cases a with
  |Q6 c=>
   cases qh:gC (gJ p.1.ac k lD) (.Q6 c)with
   |true=>
    rw[qh]at g;refine aV g (eS ⟨rfl,?_⟩);have:zV (gJ p.1.ac k lD) (.Q6 c)=[]:=by show(if gC (gJ p.1.ac k lD) (.Q6 c)=QM then[]else _)=[];rw[qh,ax rfl]
    rw[this,Ru];exact f
   |false=>
    rw[qh]at g;have H:aC (mD (.Q6 c)) (.int 1)=-(.str (cW c)):=ig;refine fP g (cg (tJ (i:=t) (x:=.fz (ja (c,QP))) (tD f rfl) f.sn (ag (d:=ja (c,QP)) (show _=Res.ok (PV.fz (.tuple [.str (cW c),.str "up"]),_) by fail "ev")) f.sn (by rw[QQ,QQ];show p.2.length<1000000;ext)) ⟨rfl,?_⟩);have:zV (gJ p.1.ac k lD) (.Q6 c)=[(c,QP)]:=by show(if gC (gJ p.1.ac k lD) (.Q6 c)=QM then[]else _)=_;rw[qh,a3 Rh]
    rw[this];exact f.snd (c,QP)
  |_=>cases qm
theorem yw(h:SX p t ω)(l:k<5):dX [.rf 2,.fz (nd k)] ω=.ok (.fz (.bool ((p.1.ac k).isSome||p8 p.1.wt k))) ω:=by
 obtain⟨ps,j,m⟩:=h.ex;have e:=gO j l;have e0:kT QP (af (aa 1)) (aX (aq 0) (af (pC (.str "acts")))) [cL (.rf 2),-(nd k)] ω=.ok (.fz (.bool (p.1.ac k).isSome)) ω:=by have:=pM (neg:=QP) (ω:=ω) (ρ:=[cL (.rf 2),-(nd k)]) (fk:=af (aa 1)) (fd:=aX (aq 0) (af (pC (.str "acts")))) (i:=0) (k:=.inl (k:Int)) (x:=.fz (nd k)) (ag (ah rfl)) (jE h rfl) rfl m;rw[e]at this;rw[this];cases p.1.ac k<;>rfl
 refine jS (ρ:=[cL (.rf 2),-(nd k)]) rfl (jj ?_);unfold Oy;rw[aA e0,ee];cases q0:(p.1.ac k).isSome with
 |true=>rw[ax rfl];rfl
 |false=>
  rw[a3 Rh,Uz];cases q:p.1.wt with
  |none=>
   have e1:gS (fm p.1.wt) .none=-(.bool QP):=by rw[q];rfl
   exact rh (aA (bz (eT h rfl) (ag aw) (bi e1)))
  |some x=>
   obtain⟨f,g,w⟩:=x;have e1:gS (fm p.1.wt) .none=-(.bool QM):=by rw[q];rfl
   have e2:aC (fm p.1.wt) (.int 0)=-(.tuple (aB f)):=by rw[q];exact gQ
   exact rF (aA (bz (eT h rfl) (ag aw) (bi e1))) (bz (x:=.fz (nd k)) (ag (ah rfl)) (cA (eT h rfl) (ag aw) e2) (bi (lc _ _)))
end
theorem BK(w:bg (Nat×Int)):∃s,aC (iW w) (.int 0)=-(.str s)/\br (.str s) (.str "tap")=-(.bool w.isSome):=by
 cases w with
 |none=>exact⟨"chord",gQ,(OB (by left) (by left)).trans (by rw[show(("chord":Str)== "tap")=QP by left];rfl)⟩
 |some a=>exact⟨_,jI (.U8 a.1 a.2),wB (.U8 a.1 a.2)⟩
theorem Po{ds:bb D}(h:QO.canLayAll0 ds=QM)(hd:QO.depthAll ds<=60):br (.list ds) (.list [])=-(.bool ds.isEmpty):=by show(if((QO.canLayAll0 ds&&decide (QO.depthAll ds+1<=64))&&QM)=QM then cL (RV.fz (.bool (QO.eqvAll ds [])))else lD)=_;rw[h,a4 (by ext)];cases ds<;>rfl
theorem LS{b:Bd}{ks:bb Nat}{i k:Nat}(hi:ks[i]?=cL k):(∀c,b.cs.find? (λc=>decide (c.1=gG ks))=cL c->(o0 b ks)[i]?=cL (if i=0 then .Q6 c.2 else .none))/\(b.cs.find? (λc=>decide (c.1=gG ks))=lD->(o0 b ks)[i]?=cL (iP b 0 k)):=by
 have a:=(QU.mp hi).1;constructor
 .intro c h
  unfold o0;rw[h];dsimp only;cases i with
  |zero=>rfl
  |succ i=>rw[UK,Su,ax (by ext)];rfl
 .intro h;unfold o0;rw[h];dsimp only;rw[Q5,hi];rfl
theorem wN(p:SK×Sn)(a:bb (Nat×Mn))(q:Nat×Mn):eh p (a++[q])=dJ (eh p a) q.1 q.2:=by unfold eh;rw[List.foldl_append];rfl
section
variable{b:Bd}(Z:VB b){p:SK×Sn}{t i:Nat}{ω ω1 ω2:aW}{ρ:aZ}{k:Nat}{a:Mn}{x y z:SV}{d dx dy:D}{ds:bb D}{ks:bb Nat}{g:Int}{w:bg (Nat×Int)}
include Z
theorem je(h:SX p t ω)(M:SA b p.1)(hw:p.1.wt=cL (ks,g,w))(v:WV b p.1.ac ks g w)(hl:p.2.length<900):∃ω',cy [.fz (bD b),.rf 2] ω=.ok (.fz .none) ω'/\SX (bt b p) t ω':=by
 have l5:=v.len Z;have l1:=v.ZX;have h5:=Z.n5;have h1:=Z.l1;have ed:bt b p=eh ({p.1 with wt:=lD},p.2) (ks.zip (gB b ks w)):=by unfold bt;rw[hw]
 rw[ed];refine dI (v:=.fz .none) (W:=λω'=>SX (eh ({p.1 with wt:=lD},p.2) (ks.zip (gB b ks w))) t ω') (ρ:=[-(bD b),cL (.rf 2),lD,lD,lD,lD,lD]) rfl ?_;unfold dY;have gw:=eT (i:=1) (ρ:=[-(bD b),cL (.rf 2),lD,lD,lD,lD,lD]) h rfl;rw[hw]at gw;refine bU (ρ1:=[-(bD b),cL (.rf 2),-(.tuple (aB ks)),-(.int g),-(iW w),lD,lD]) (ω2:=ω) gw rfl ?_;obtain⟨ω1,pw,hp⟩:=mH (i:=1) (ρ:=[-(bD b),cL (.rf 2),-(.tuple (aB ks)),-(.int g),-(iW w),lD,lD]) (fv:=af (pC .none)) (w:=lD) h rfl (ag aw);refine jw pw ?_;obtain⟨s,w1,w2⟩:=BK w;have hA:AK ({p.1 with wt:=lD}:SK).ac:=M.ak Z;cases w with
 |some cn=>
  obtain⟨c,n⟩:=cn;have k1:=(v.tp c n rfl).2.2;obtain⟨k0,rfl⟩:∃k0,ks=[k0]:=by
   cases ks with
   |nil=>simp at k1
   |cons x r=>cases r with
    |nil=>exact⟨x,rfl⟩
    |cons _ _=>simp at k1
  have hk0:=v.kn k0 Q2;have i2:aC (iW (cL (c,n))) (.int 2)=-(.int n):=kA;have i0:aC (.tuple (aB [k0])) (.int 0)=-(nd k0):=gQ;obtain⟨ω2,H,Zm⟩:=lK (k:=k0) (a:=.Sr n) hp hA (by ext) trivial (show p.2.length<1000 by ext);exact eV (aK (b:=QM) (aR (av (rv:=.fz (.bool QM)) (av (rv:=.fz (.str s)) (ah rfl) aw rfl rfl w1) aw rfl rfl w2) rfl)) (wv (dj (bj (xs:=[.rf 2,.fz (nd k0),.fz (mD (.Sr n))]) (ai (aU rfl) (ai (ag (d:=nd k0) (av (rv:=.fz (nd k0)) (ah rfl) aw rfl rfl i0)) (ai (ag (d:=mD (.Sr n)) (show _=Res.ok (PV.fz (.tuple [.str "layer",.int n]),_) by fail "ev")) az))) rfl H) (lP ⟨rfl,Zm⟩)))
 |none=>
  refine dg (aK (b:=QP) (aR (av (rv:=.fz (.bool QP)) (av (rv:=.fz (.str s)) (ah rfl) aw rfl rfl w1) aw rfl rfl w2) rfl)) (cb ?_);have e2:aC (bD b) (.int 2)=-(.tuple (b.cs.map a9)):=kA;have e1:aC (bD b) (.int 1)=-(.tuple (b.ls.map cj)):=ig;have K:=nr (ks:=ks) (by ext);have c4:=Z.c4;have G:iZ (cP (gN 0) (ar (au br (dR mU {au aC (aa 0) (~~~0)}) (dR L9.eP {aa 1}))) (au aC (aa 0) (~~~1)) (b.cs.map a9) [lD,-(.tuple (aB ks))] [])=.ok ((b.cs.filter λc=>decide (c.1=gG ks)).map λc=>.str (cW c.2)):=iz a9 (λc=>.str (cW c.2)) (λc=>decide (c.1=gG ks)) b.cs (by ext) rfl (λc _=>by have q0:aC (a9 c) (.int 0)=-(.tuple (aB c.1)):=gQ;exact aR (av (rv:=.fz (.bool (decide (c.1=gG ks)))) (bX (rv:=.ow (aB c.1)) (by fail "ev") rfl rfl) (bX (rv:=.ow (aB (gG ks))) (by fail "ev") rfl K) rfl rfl (lN _ _)) rfl) λc _ _=>av (rv:=.fz (.str (cW c.2))) (ah rfl) aw rfl rfl ig;have T:∀c∈b.cs.filter (λc=>decide (c.1=gG ks)),c.2<26:=λc Q=>(Z.vc c (RT.mp Q).1).2.2.2;have C:QO.canLayAll0 ((b.cs.filter λc=>decide (c.1=gG ks)).map λc=>QO.str (cW c.2))=QM:=kg λc Q=>mS (T c Q);have U:QO.depthAll ((b.cs.filter λc=>decide (c.1=gG ks)).map λc=>QO.str (cW c.2))<=60:=ji λc _=>(Rz _);have u:=Po C U;have A:(b.cs.filter λc=>decide (c.1=gG ks)).head? =b.cs.find? λc=>decide (c.1=gG ks):=List.head?_filter;generalize b.cs.filter (λc=>decide (c.1=gG ks))=fl at G u A;refine bU (x:=.fz (.list (fl.map λc=>.str (cW c.2)))) (ω1:=ω1++[.dead]) (ρ1:=[-(bD b),cL (.rf 2),-(.tuple (aB ks)),-(.int g),-(iW lD),-(.list (fl.map λc=>.str (cW c.2))),lD]) ((pH (eE (ds:=fl.map λc=>.str (cW c.2)) (cB (cs:=[.tuple (aB ks)]) (ds:=b.cs.map a9) (fL (av (rv:=.fz (.tuple (b.cs.map a9))) (ah rfl) aw rfl rfl e2) rfl rfl) rfl G)) (j8 aM)).trans (by rw[gk])) rfl ?_;have E:=hp.app [Cell.dead];generalize ω1++[Cell.dead]=ω3 at E;have ll:de [.tuple (aB ks)]=-(nd ks.length):=(fJ _).trans (by rw[b9]);have rg:gl [nd ks.length]=cL (aB (Rc ks.length)):=ke (by ext);have zl:(ks.zip (o0 b ks)).length=ks.length:=by rw[Y3,yH b l1];ext
  refine Bm (λi ρ ω=>(∃o,ρ=[-(bD b),cL (.rf 2),-(.tuple (aB ks)),-(.int g),-(iW lD),-(.list (fl.map λc=>.str (cW c.2))),o])/\SX (eh ({p.1 with wt:=lD},p.2) ((ks.zip (o0 b ks)).take i)) t ω) (ds:=aB (Rc ks.length)) (ω1:=ω3) (oJ (lJ (ds:=[nd ks.length]) (am (bX (rv:=.fz (nd ks.length)) (ds:=[.tuple (aB ks)]) (am (ah rfl) ay) rfl ll) ay) rfl rg)) ⟨⟨_,rfl⟩,E⟩ ?_ ?_
  .rintro i d ρ ω hi ⟨⟨o,rfl⟩,e⟩
   obtain⟨j,hj,rfl⟩:=ik hi;obtain⟨m,Zo⟩:=QU.mp hj;rw[X7]at Zo;rw[RJ]at m;subst Zo;refine⟨_,_,rfl,?_⟩;have X:ks[i]?=cL ks[i]:=QY m;have kn:=v.kn ks[i] (UJ m);have P:aC (.tuple (aB ks)) (nd i)=-(nd ks[i]):=Ex (by unfold aB;rw[Q5,X];rfl);obtain⟨S,R⟩:=LS (b:=b) X;have sub:∀q∈(ks.zip (o0 b ks)).take i,(q.1:Int)<b.n/\VA b.ls.length q.2:=λq e=>nO Z v q (XA e);have B:SA b (eh ({p.1 with wt:=lD},p.2) ((ks.zip (o0 b ks)).take i)).1:=(SA.cms _ (p:=({p.1 with wt:=lD},p.2)) ⟨M.ac,M.oc⟩ sub).1;have Y:=B.ak Z;have ln:=qS ((ks.zip (o0 b ks)).take i) ({p.1 with wt:=lD},p.2);have ln2:((ks.zip (o0 b ks)).take i).length<=5:=by rw[Sf];ext
   have ln3:(({p.1 with wt:=lD},p.2):SK×Sn).2.length<900:=hl;have f:∀a,(o0 b ks)[i]?=cL a->eh ({p.1 with wt:=lD},p.2) ((ks.zip (o0 b ks)).take (i+1))=dJ (eh ({p.1 with wt:=lD},p.2) ((ks.zip (o0 b ks)).take i)) ks[i] a/\LB a:=λa ha=>by
    have hz:(ks.zip (o0 b ks))[i]?=cL (ks[i],a):=by rw[List.getElem?_zip_eq_some];exact⟨X,ha⟩
    refine⟨?_,(BG Z v a (RO ha)).lb⟩;rw[Yh,hz];exact wN _ _ _
   generalize eh ({p.1 with wt:=lD},p.2) ((ks.zip (o0 b ks)).take i)=pq at e B Y ln f;cases qf:b.cs.find? λc=>decide (c.1=gG ks)with
   |none=>obtain⟨O,N⟩:=f _ (R qf);rw[qf]at A;have YR:fl=[]:=List.head?_eq_none_iff.mp A;subst YR;obtain⟨d0,J,x2⟩:=qI Z (L:=0) (k:=ks[i]) (by ext) kn;have J:aC (.tuple (b.ls.map cj)) (.int 0)=-(d0):=J;obtain⟨I,H,l⟩:=lK (k:=ks[i]) (a:=iP b 0 ks[i]) e Y (by ext) N (by ext);rw[O];exact fP (aK (b:=QM) (aR (av (rv:=.fz (.bool QM)) (dy:=.list []) (ah rfl) (iJ ay rfl (Rz _)) rfl rfl u) rfl)) (cg (bj (xs:=[.rf 2,.fz (nd ks[i]),.fz (mD (iP b 0 ks[i]))]) (ai (aU rfl) (ai (ag (d:=nd ks[i]) (av (rv:=.fz (nd ks[i])) (ah rfl) (ah rfl) rfl rfl P)) (ai (ag (d:=mD (iP b 0 ks[i])) (av (rv:=.fz (mD (iP b 0 ks[i]))) (av (rv:=.fz d0) (av (rv:=.fz (.tuple (b.ls.map cj))) (ah rfl) aw rfl rfl e1) aw rfl rfl J) (av (rv:=.fz (nd ks[i])) (ah rfl) (ah rfl) rfl rfl P) rfl rfl x2)) az))) rfl H) ⟨⟨_,rfl⟩,l⟩)
   |some c=>
    obtain⟨O,N⟩:=f _ (S c qf);rw[qf]at A;obtain⟨r,rfl⟩:∃r,fl=c::r:=by
     cases fl with
     |nil=>cases A
     |cons y r=>cases Ra A;exact⟨r,rfl⟩
    obtain⟨I,H,l⟩:=lK (k:=ks[i]) (a:=if i=0 then .Q6 c.2 else .none) e Y (by ext) N (by ext);rw[O];have y0:aC (.list ((c::r).map λc=>.str (cW c.2))) (.int 0)=-(.str (cW c.2)):=Kq;have y1:D5 [.bool (decide ((0:Int)<(i:Int)))]=-(.int (if decide ((0:Int)<(i:Int))=QM then 1 else 0)):=rfl;have y2:aC (.list [.tuple [.str "letter",.str (cW c.2)],.tuple [.str "none"]]) (.int (if decide ((0:Int)<(i:Int))=QM then 1 else 0))=-(mD (if i=0 then .Q6 c.2 else .none)):=by
     by_cases F:i=0
     .rw[ax F,a3 (by rw[a5 (by ext)];simp)];exact Kq
     .rw[a3 F,ax (by rw[a4 (by ext)])];exact MG
    exact aV (aK (b:=QP) (aR (av (rv:=.fz (.bool QP)) (dy:=.list []) (ah rfl) (iJ ay rfl (Rz _)) rfl rfl u) rfl)) (cg (bj (xs:=[.rf 2,.fz (nd ks[i]),.fz (mD (if i=0 then .Q6 c.2 else .none))]) (ai (aU rfl) (ai (ag (d:=nd ks[i]) (av (rv:=.fz (nd ks[i])) (ah rfl) (ah rfl) rfl rfl P)) (ai (ag (d:=mD (if i=0 then .Q6 c.2 else .none)) (av (rv:=.fz (mD (if i=0 then .Q6 c.2 else .none))) (dx:=.list [.tuple [.str "letter",.str (cW c.2)],.tuple [.str "none"]]) (show _=Res.ok (PV.ow [.tuple [.str "letter",.str (cW c.2)],.tuple [.str "none"]],_) by fail "ev") (bX (rv:=.fz (.int (if decide ((0:Int)<(i:Int))=QM then 1 else 0))) (ds:=[.bool (decide ((0:Int)<(i:Int)))]) (am (av (rv:=.fz (.bool (decide ((0:Int)<(i:Int))))) (ah rfl) aw rfl rfl (nj _ _)) ay) rfl y1) rfl rfl y2)) az))) rfl H) ⟨⟨_,rfl⟩,l⟩)
  .rintro ρ ω ⟨_,e⟩;rw[b9,RJ,<-zl,List.take_length]at e;exact⟨rfl,e⟩
end
theorem vH{A W:bb Nat}(d:A.Nodup)(b:W.Nodup):(W.length=(A.filter λk=>decide (k∈W)).length)↔(W.all λk=>decide (k∈A))=QM:=by
 have a:(A.filter λk=>decide (k∈W)).Perm (W.filter λk=>decide (k∈A)):=(Wj (d.sublist Vk) (b.sublist Vk)).mpr λx=>by rw[RT,RT,decide_eq_true_eq,decide_eq_true_eq];exact And.comm
 rw[a.length_eq,Sg];constructor
 .intro h;exact VG.mp h.symm
 .intro h;exact(VG.mpr h).symm
theorem Dh{α:Type}(p:α->Bool)(l:bb α):wu [.list (l.map λc=>QO.bool (p c))]=-(.bool (l.any p)):=by show(nv _).map (λbs=>RV.fz (.bool (bs.any id)))=_;rw[STP.oW];show cL (RV.fz (.bool _))=_;rw[List.any_map];rfl
theorem CM(b:Bd)(k:Nat):(!(bF b [k]).isEmpty)=b.cs.any λc=>decide (k∈c.1):=by
 unfold bF;generalize b.cs=cs
 induction cs with
 |nil=>rfl
 |cons c r a=>
  rw[Tt,<-a,T4];by_cases h:k∈c.1
  .rw[ax (by rw[SE,List.all_nil,UC];exact a4 h),a4 h];rfl
  .rw[a3 (by rw[SE,a5 h];simp),a5 h,Uz]
section
variable{b:Bd}(Z:VB b){p:SK×Sn}{t i:Nat}{ω ω1 ω2:aW}{ρ:aZ}{k:Nat}{a:Mn}{x y z:SV}{d dx dy:D}{ds:bb D}{ks:bb Nat}{g:Int}{w:bg (Nat×Int)}
include Z
theorem Lx(h:mN (b.ls.headD []) k=QM):(k:Int)<b.n:=by
 have f:=Z.l1;have e:=Z.vl 0;cases q:b.ls with
 |nil=>rw[q]at f;simp at f
 |cons l r=>
  rw[q]at h e;have j:=(e l rfl).1;have h:mN l k=QM:=h;unfold mN at h;cases z:l[k]? with
  |none=>rw[z]at h;cases h
  |some m=>have:=(QU.mp z).1;ext
omit Z in
theorem BU(cs:bb (bb Nat×Nat)):QO.canLayAll0 (cs.map λc=>QO.tuple (aB c.1))=QM:=kg λc _=>fZ _
theorem yP(h:SX p t ω)(l:SW b p.1)(Q:(k:Int)<b.n)(ha:p.1.ac k=lD)(hn:p8 p.1.wt k=QP)(hl:p.2.length<900):∃ω',fY [.fz (bD b),.rf 2,.fz (nd k)] ω=.ok (.fz (.bool (lB b p.1 k))) ω'/\SX (if lB b p.1 k=QM then jz b p k else p) t ω':=by
 have L0:=pV Z l.sa;refine dI (v:=.fz (.bool (lB b p.1 k))) (W:=λω'=>SX (if lB b p.1 k=QM then jz b p k else p) t ω') (ρ:=[-(bD b),cL (.rf 2),-(nd k),lD,lD,lD,lD,lD]) rfl ?_;unfold eK;have u:∀{ω:aW} {ρ:aZ} {g:fw},SX p t ω->lB b p.1 k=QP->Tu (aG (gF (af (pC (.bool QP)))) g ρ ω) (λ_ ω'=>SV.fz .none=.fz (.bool (lB b p.1 k))/\SX (if lB b p.1 k=QM then jz b p k else p) t ω') (λ_ _=>False) (λr ω'=>r=.fz (.bool (lB b p.1 k))/\SX (if lB b p.1 k=QM then jz b p k else p) t ω'):=λh e=>C2 (ag aw) ⟨by rw[e],by rw[e,a3 Rh];exact h⟩;cases q:p.1.wt with
 |none=>
  have f:lB b p.1 k=QP:=by unfold lB;rw[q]
  have e1:lG (fm p.1.wt) .none=-(.bool QM):=by rw[q];rfl
  exact eV (ω1:=ω) (jJ (aA (bz (eT h rfl) (ag aw) (bi e1)))) (u h f)
 |some x=>
  obtain⟨ks,g,w⟩:=x;obtain⟨v,hg⟩:=l.wt ks g w q;have l5:=v.len Z;have e1:lG (fm p.1.wt) .none=-(.bool QP):=by rw[q];rfl
  have e2:aC (fm p.1.wt) (.int 2)=-(iW w):=by rw[q];exact kA
  have ec:=(rO (w:=w) λc n h=>(v.tp c n h).1).2;have M:aO (g7 lG (aX (aq 1) (af (pC (.str "waiting")))) (af (pC .none))) [-(bD b),cL (.rf 2),-(nd k),lD,lD,lD,lD,lD] ω=.ok QP ω:=aA (bz (eT h rfl) (ag aw) (bi e1));have L:aO (g7 mY (iK (aX (aq 1) (af (pC (.str "waiting")))) (af (~~~2))) (af (aN {pC (.str "chord")}))) [-(bD b),cL (.rf 2),-(nd k),lD,lD,lD,lD,lD] ω=.ok w.isSome ω:=aA (bz (x:=.fz (iW w)) (y:=.fz (.tuple [.str "chord"])) (cA (eT h rfl) (ag aw) e2) (ag (by fail "ev")) (bi ec));cases w with
  |some cn=>
   have f:lB b p.1 k=QP:=by unfold lB;rw[q]
   exact eV (ω1:=ω) (dE M (jJ L)) (u h f)
  |none=>
   obtain⟨ω1,y1,H⟩:=DG Z h l.sa;have C:aO (g7 pG (cw b6 1 (aj (aq 1) aF)) (af (~~~0))) [-(bD b),cL (.rf 2),-(nd k),lD,lD,lD,lD,lD] ω=.ok (decide (0<gR p.1.ac p.1.oc)) ω1:=aA (bz (bj (xs:=[.rf 2]) (ai (aU rfl) az) rfl y1) (ag aw) (bi (nj _ _)));have f:lB b p.1 k=(decide (gR p.1.ac p.1.oc=0)&& !(bF b (ks++[k])).isEmpty):=by unfold lB;rw[q]
   have F:k∉ks:=by rw[q]at hn;exact of_decide_eq_false hn
   by_cases R:0<gR p.1.ac p.1.oc
   .rw[a4 R]at C;exact eV (ω1:=ω1) (dE M (dE L C)) (u H (by rw[f,a5 (by ext)];rfl))
   .rw[a5 R]at C
    rw[a4 (show gR p.1.ac p.1.oc=0 by ext),UA]at f;refine dg (ω1:=ω1) (dE M (dE L C)) (cb ?_);have U:=eT (i:=1) (ρ:=[-(bD b),cL (.rf 2),-(nd k),lD,lD,lD,lD,lD]) H rfl;rw[q]at U;refine bU (ρ1:=[-(bD b),cL (.rf 2),-(nd k),-(.tuple (aB ks)),-(.int g),-(.tuple [.str "chord"]),lD,lD]) (ω2:=ω1) U rfl ?_;obtain⟨Zq,l6⟩:=Bj Z v F Q;have ad:ci (.list (aB ks)) (.list [nd k])=cL (.ow (aB (ks++[k]))):=by show(if(aB ks).length+1<=1000000 then cL (RV.ow (aB ks++[nd k]))else lD)=_;rw[ax (by rw[b9];ext),xY];rfl
    refine bU (x:=.fz (.list (aB (ks++[k])))) (ω1:=ω1++[.dead]) (ρ1:=[-(bD b),cL (.rf 2),-(nd k),-(.tuple (aB ks)),-(.int g),-(.tuple [.str "chord"]),-(.list (aB (ks++[k]))),lD]) ((pH (eE (ds:=aB (ks++[k])) (av (rv:=.ow (aB (ks++[k]))) (bX (rv:=.ow (aB ks)) (ds:=[.tuple (aB ks)]) (am (ah rfl) ay) rfl rfl) (iJ (am (ah rfl) ay) rfl (QR rfl)) rfl rfl ad)) (j8 aM)).trans (by rw[gk])) rfl ?_;have e2:aC (bD b) (.int 2)=-(.tuple (b.cs.map a9)):=kA;have c4:=Z.c4;have P:de [.list (aB (ks++[k]))]=-(nd (ks++[k]).length):=(jK _).trans (by rw[b9]);have K:iZ (cP (gN 0) (ar (au br (dR de {aa 1}) (dR de {cG 1 [1] (gn (au aC (aa 0) (~~~0))) (gN 0) (ar (au nN (aa 0) (aa 1))) (aa 0)}))) (au aC (aa 0) (~~~0)) (b.cs.map a9) [lD,-(.list (aB (ks++[k])))] [])=.ok ((bF b (ks++[k])).map λc=>.tuple (aB c.1)):=iz a9 (λc=>.tuple (aB c.1)) (λc=>(ks++[k]).all λj=>decide (j∈c.1)) b.cs (by ext) rfl (λc hc=>by
     have E:=Z.vc c hc;have cl:c.1.length<=1000:=by
      have:=su (n:=5) (E.2.1.imp λh=>by ext) λj hj=>by have:=Lx Z (E.2.2.1 j hj);have:=Z.n5;ext
      ext
     have q0:aC (a9 c) (.int 0)=-(.tuple (aB c.1)):=gQ;have inn:iZ (cP (gN 0) (ar (au nN (aa 0) (aa 1))) (aa 0) (aB c.1) [lD,-(.list (aB (ks++[k])))] [])=.ok ((c.1.filter λj=>decide (j∈ks++[k])).map nd):=iz nd nd (λj=>decide (j∈ks++[k])) c.1 cl rfl (λj _=>aR (av (rv:=.fz (.bool (decide (j∈ks++[k])))) (ah rfl) (ah rfl) rfl rfl (xn _ _)) rfl) λj _ _=>ah rfl;have lf:de [.list ((c.1.filter λj=>decide (j∈ks++[k])).map nd)]=-(nd (c.1.filter λj=>decide (j∈ks++[k])).length):=(jK _).trans (by rw[QQ]);have ev:br (nd (ks++[k]).length) (nd (c.1.filter λj=>decide (j∈ks++[k])).length)=-(.bool ((ks++[k]).all λj=>decide (j∈c.1))):=by rw[AB];have:=vH (A:=c.1) (W:=ks++[k]) (E.2.1.imp λh=>by ext) Zq;congr 3;rw[UZ,decide_eq_true_eq];exact this
     exact aR (av (rv:=.fz (.bool ((ks++[k]).all λj=>decide (j∈c.1)))) (bX (rv:=.fz (nd (ks++[k]).length)) (ds:=[.list (aB (ks++[k]))]) (am (ah rfl) ay) rfl P) (bX (rv:=.fz (nd (c.1.filter λj=>decide (j∈ks++[k])).length)) (ds:=[.list ((c.1.filter λj=>decide (j∈ks++[k])).map nd)]) (am (cB (cs:=[.list (aB (ks++[k]))]) (ds:=aB c.1) (fL (av (rv:=.fz (.tuple (aB c.1))) (ah rfl) aw rfl rfl q0) rfl rfl) rfl inn) ay) rfl lf) rfl rfl ev) rfl) λc _ _=>av (rv:=.fz (.tuple (aB c.1))) (ah rfl) aw rfl rfl gQ
    have T:=H.app [Cell.dead];generalize ω1++[Cell.dead]=ω2 at T;have J:QO.depthAll ((bF b (ks++[k])).map λc=>QO.tuple (aB c.1))<=60:=ji λc _=>by show QO.depthAll (aB c.1)+1<=60;rw[jt];decide
    have I:=Po (BU (bF b (ks++[k]))) J;have ovl:(bF b (ks++[k])).length<=4:=by have:=U5 (λc:bb Nat×Nat=>(ks++[k]).all λj=>decide (j∈c.1)) b.cs;show(b.cs.filter _).length<=4;ext
    have ep:jz b p k=if(bF b (ks++[k])).map (·.1.length)=[(ks++[k]).length]then bt b ({p.1 with wt:=cL (ks++[k],g,lD)},p.2)else({p.1 with wt:=cL (ks++[k],g,lD)},p.2):=by unfold jz;rw[q]
    refine bU (x:=.fz (.list ((bF b (ks++[k])).map λc=>.tuple (aB c.1)))) (ω1:=ω2++[.dead]) (ρ1:=[-(bD b),cL (.rf 2),-(nd k),-(.tuple (aB ks)),-(.int g),-(.tuple [.str "chord"]),-(.list (aB (ks++[k]))),-(.list ((bF b (ks++[k])).map λc=>.tuple (aB c.1)))]) ((pH (eE (ds:=(bF b (ks++[k])).map λc=>.tuple (aB c.1)) (cB (cs:=[.list (aB (ks++[k]))]) (ds:=b.cs.map a9) (fL (av (rv:=.fz (.tuple (b.cs.map a9))) (ah rfl) aw rfl rfl e2) rfl rfl) rfl K)) (j8 aM)).trans (by rw[gk])) rfl ?_;have G:=T.app [Cell.dead];generalize ω2++[Cell.dead]=ω3 at G;have o:∀{ω:aW},aH (ar (au br (aa 7) (cz ap))) [-(bD b),cL (.rf 2),-(nd k),-(.tuple (aB ks)),-(.int g),-(.tuple [.str "chord"]),-(.list (aB (ks++[k]))),-(.list ((bF b (ks++[k])).map λc=>.tuple (aB c.1)))] ω=.ok (bF b (ks++[k])).isEmpty ω:=aK (aR (av (rv:=.fz (.bool (bF b (ks++[k])).isEmpty)) (dy:=.list []) (ah rfl) (iJ ay rfl (Rz _)) rfl rfl (I.trans (by rw[List.isEmpty_map]))) rfl);cases qo:(bF b (ks++[k])).isEmpty with
    |true=>rw[qo]at o f;exact eV o (u G (by rw[f];rfl))
    |false=>
     rw[qo]at o f;have f:lB b p.1 k=QM:=by rw[f];rfl
     rw[f,ax rfl];obtain⟨_,_,O,z2,z3,z4⟩:=pY Z l Q ha hn f;rw[q]at O;cases O;refine dg o (cb ?_);obtain⟨Y,pw,S⟩:=mH (i:=1) (ρ:=[-(bD b),cL (.rf 2),-(nd k),-(.tuple (aB ks)),-(.int g),-(.tuple [.str "chord"]),-(.list (aB (ks++[k]))),-(.list ((bF b (ks++[k])).map λc=>.tuple (aB c.1)))]) (fv:=af (aN {au ci (aa 3) (aN {aa 2}),aa 4,aa 5})) (w:=cL (ks++[k],g,lD)) G rfl (ag (d:=fm (cL (ks++[k],g,lD))) (show _=Res.ok (PV.fz (.tuple [.tuple (aB (ks++[k])),.int g,.tuple [.str "chord"]]),_)from eA (am (av (rv:=.fz (.tuple (aB (ks++[k])))) (ah rfl) (eA (am (ah rfl) ay) rfl (QR rfl)) rfl rfl (sG (k:=k) v.ne l5)) (am (ah rfl) (am (ah rfl) ay))) rfl (QR rfl)));refine jw pw ?_;have N:iZ (cP (gN 0) ef (dR de {aa 0}) ((bF b (ks++[k])).map λc=>.tuple (aB c.1)) [lD] [])=.ok (aB ((bF b (ks++[k])).map (·.1.length))):=by unfold aB;rw[Rv];exact l7 (λc:bb Nat×Nat=>.tuple (aB c.1)) (λc=>nd c.1.length) (bF b (ks++[k])) (by ext) rfl λc _=>bX (rv:=.fz (nd c.1.length)) (ds:=[.tuple (aB c.1)]) (am (ah rfl) ay) rfl ((fJ _).trans (by rw[b9]))
     have m:∀{ω:aW},aH (ar (au br (cG 1 [] (gn (aa 7)) (gN 0) ef (dR de {aa 0})) (cz {dR de {aa 6}}))) [-(bD b),cL (.rf 2),-(nd k),-(.tuple (aB ks)),-(.int g),-(.tuple [.str "chord"]),-(.list (aB (ks++[k]))),-(.list ((bF b (ks++[k])).map λc=>.tuple (aB c.1)))] ω=.ok (decide ((bF b (ks++[k])).map (·.1.length)=[(ks++[k]).length])) ω:=aK (aR (av (rv:=.fz (.bool (decide ((bF b (ks++[k])).map (·.1.length)=[(ks++[k]).length])))) (dx:=.list (aB ((bF b (ks++[k])).map (·.1.length)))) (dy:=.list (aB [(ks++[k]).length])) (cB (cs:=[]) (ds:=(bF b (ks++[k])).map λc=>.tuple (aB c.1)) (fL (ah rfl) rfl rfl) rfl N) (iJ (am (bX (rv:=.fz (nd (ks++[k]).length)) (ds:=[.list (aB (ks++[k]))]) (am (ah rfl) ay) rfl P) ay) rfl (QR rfl)) rfl rfl (lN _ _)) rfl);rw[ep];by_cases B:(bF b (ks++[k])).map (·.1.length)=[(ks++[k]).length]
     .rw[a4 B]at m;rw[ax B];obtain⟨X,dc,h5⟩:=je Z (p:=({p.1 with wt:=cL (ks++[k],g,lD)},p.2)) S ⟨l.sa.ac,l.sa.oc⟩ rfl z3 hl;exact eV m (dj (bj (xs:=[.fz (bD b),.rf 2]) (ai (ag (ah rfl)) (ai (aU rfl) az)) rfl dc) (mJ (ag aw) ⟨rfl,h5⟩))
     .rw[a5 B]at m;rw[a3 B];exact dg m (cb (mJ (ag aw) ⟨rfl,S⟩))
end
theorem Jb{m:Mn}(h:m≠.below):nN (.str (wd m)) (.tuple [.str "letter",.str "tap",.str "none"])=-(.bool (!(m.V1||m.Yc))):=by
 have b:∀a:Str,QO.strOk a=QM->nN (.str a) (.tuple [.str "letter",.str "tap",.str "none"])=-(.bool (("letter":Str)==a||(("tap":Str)==a||("none":Str)==a))):=λa ha=>by show(if(i7 (.str a)&&(QO.strOk "letter"&&(QO.strOk "tap"&&(QO.strOk "none"&&QM))))=QM then cL (RV.fz (.bool (QO.eqv (.str "letter") (.str a)||(QO.eqv (.str "tap") (.str a)||(QO.eqv (.str "none") (.str a)||false)))))else lD)=_;rw[show i7 (.str a)=QM by unfold i7;rw[show QO.canLay0 (.str a)=QM from ha];rfl,show QO.strOk "letter"=QM by left,show QO.strOk "tap"=QM by left,show QO.strOk "none"=QM by left,WI];rfl
 rw[b _ (Dn m)];unfold wd;rw[show(("letter":Str)==ws (wn m))=_ from pK 0 (by decide) _ (lH m),show(("tap":Str)==ws (wn m))=_ from pK 2 (by decide) _ (lH m),show(("none":Str)==ws (wn m))=_ from pK 4 (by decide) _ (lH m)];cases m with
 |below=>exact a7 rfl h
 |_=>rfl
def D3:fw:=(bq (aH (ar (au br (au aC (aa 4) (~~~0)) (pC (.str "tap"))))) (dM (aq 1) (af (pC (.str "waiting"))) (af (aN {aN {aa 2},~~~0,aa 4}))) (bq (aH (gI (ar (au br (au aC (aa 4) (~~~0)) (pC (.str "letter")))) (gI (ar (au br (aa 3) (~~~0))) (ar (dR wu {cG 1 [2] (gn (au aC (aa 0) (~~~2))) (gN 0) ef (au nN (aa 1) (au aC (aa 0) (~~~0)))}))))) (dM (aq 1) (af (pC (.str "waiting"))) (af (aN {aN {aa 2},~~~0,aN {pC (.str "chord")}}))) (bq (aH (ar (au br (au aC (aa 4) (~~~0)) (pC (.str "once"))))) (aG (aY (cw bT 3 (aj (aq 1) (aj (af (aa 2)) (aj (af (aN {pC (.str "none")})) aF)))))
 (dM (aq 1) (af (pC (.str "once"))) (af (au aC (aa 4) (~~~1))))) (aY (cw bT 3 (aj (aq 1) (aj (af (aa 2)) (aj (af (aa 4)) aF))))))))
def D2:fw:=(aG (bq (aH (ar (au nN (au aC (aa 4) (~~~0)) (aN {pC (.str "letter"),pC (.str "tap"),pC (.str "none")})))) (dM (aq 1) (af (pC (.str "once"))) (af (pC .none))) bA)
 D3)
def D1:fw:=(aG (cX (cw b6 1 (aj (aq 1) aF)) (eI 3))
 (aG (cX (af (au aC (au aC (au aC (aa 0) (~~~1)) (aa 3)) (aa 2))) (eI 4))
 (aG (bq (aH (ar (au br (aa 4) (aN {pC (.str "below")})))) (cX (af (au aC (au aC (au aC (aa 0) (~~~1)) (~~~0)) (aa 2))) (eI 4)) bA)
 D2)))
section
variable{b:Bd}(Z:VB b){p:SK×Sn}{t i:Nat}{ω ω1 ω2:aW}{ρ:aZ}{k:Nat}{a:Mn}{x y z:SV}{d dx dy:D}{ds:bb D}{ks:bb Nat}{g:Int}{w:bg (Nat×Int)}
include Z
theorem G2(h:SX p t ω)(f:SW b p.1)(j:p.1.wt=cL (ks,g,w))(r:p.2.length<900):∃ω',im [.fz (bD b),.rf 2] ω=.ok (.fz .none) ω'/\SX (fR b p) t ω':=by
 obtain⟨v,C⟩:=f.wt ks g w j;have A:fR b p=if g+1=b.wt then bt b ({p.1 with wt:=cL (ks,g+1,w)},p.2)else({p.1 with wt:=cL (ks,g+1,w)},p.2):=by unfold fR;rw[j]
 rw[A];refine dI (v:=.fz .none) (W:=λω'=>SX (if g+1=b.wt then bt b ({p.1 with wt:=cL (ks,g+1,w)},p.2)else({p.1 with wt:=cL (ks,g+1,w)},p.2)) t ω') (ρ:=[-(bD b),cL (.rf 2),lD,lD,lD]) rfl ?_;unfold gr;have n:=eT (i:=1) (ρ:=[-(bD b),cL (.rf 2),lD,lD,lD]) h rfl;rw[j]at n;refine bU (ρ1:=[-(bD b),cL (.rf 2),-(.tuple (aB ks)),-(.int g),-(iW w)]) (ω2:=ω) n rfl ?_;obtain⟨ω1,q,m⟩:=mH (i:=1) (ρ:=[-(bD b),cL (.rf 2),-(.tuple (aB ks)),-(.int g),-(iW w)]) (fv:=af (aN {aa 2,au ci (aa 3) (~~~1),aa 4})) (w:=cL (ks,g+1,w)) h rfl (ag (d:=fm (cL (ks,g+1,w))) (show _=Res.ok (PV.fz (.tuple [.tuple (aB ks),.int (g+1),iW w]),_) by fail "ev"));refine jw q ?_;have e3:aC (bD b) (.int 3)=-(.int b.wt):=Ex (i:=3) rfl;have e:∀{ω:aW},aH (ar (au N6 (au ci (aa 3) (~~~1)) (au aC (aa 0) (~~~3)))) [-(bD b),cL (.rf 2),-(.tuple (aB ks)),-(.int g),-(iW w)] ω=.ok (decide (b.wt<=g+1)) ω:=aK (aR (av (rv:=.fz (.bool (decide (b.wt<=g+1)))) (av (rv:=.fz (.int (g+1))) (ah rfl) aw rfl rfl (gA _ _)) (av (rv:=.fz (.int b.wt)) (ah rfl) aw rfl rfl e3) rfl rfl (BF _ _)) rfl);by_cases l:g+1=b.wt
 .rw[a4 (by ext)]at e;rw[ax l];have o:WV b p.1.ac ks (g+1) w:=⟨v.ne,v.nd,v.kn,v.kf,by have:=v.g0;ext,v.tp,v.ch⟩;obtain⟨ω2,B,u⟩:=je Z (p:=({p.1 with wt:=cL (ks,g+1,w)},p.2)) m ⟨f.sa.ac,f.sa.oc⟩ rfl o r;exact fP e (cg (bj (xs:=[.fz (bD b),.rf 2]) (ai (ag (ah rfl)) (ai (aU rfl) az)) rfl B) ⟨rfl,u⟩)
 .rw[a5 (by ext)]at e;rw[a3 l];exact aV e (eS ⟨rfl,m⟩)
theorem GZ(h:SX p t ω)(H:SW b p.1)(I:(k:Int)<b.n)(ha:p.1.ac k=lD)(hn:p8 p.1.wt k=QP)(hl:p.2.length<800):∃ω',iH [.fz (bD b),.rf 2,.fz (nd k)] ω=.ok (.fz .none) ω'/\SX (gK b p k) t ω':=by
 have ep:gK b p k=if lB b p.1 k=QM then jz b p k else uJ b (bt b p) k:=by unfold gK;rw[a3 (by rw[ha,hn];simp)]
 rw[ep];have h5:=Z.n5;have h1:=Z.l1;refine dI (v:=.fz .none) (W:=λω'=>SX (if lB b p.1 k=QM then jz b p k else uJ b (bt b p) k) t ω') (ρ:=[-(bD b),cL (.rf 2),-(nd k),lD,lD]) rfl ?_;unfold gp;obtain⟨ω1,jn,C⟩:=yP Z h H I ha hn (by ext);refine pS (aA (bj (xs:=[.fz (bD b),.rf 2,.fz (nd k)]) (ai (ag (ah rfl)) (ai (aU rfl) (ai (ag (ah rfl)) az))) rfl jn)) (λq=>?_) λq=>cb ?_
 .rw[ax q]at C⊢;exact lP ⟨rfl,C⟩
 rw[a3 (by rw[q];simp)]at C⊢;have d:=eJ Z (p:=p) H.sa (SW.wd Z H);have da:=oi (b:=b) ha hn;have B:∀ω2,SX (bt b p) t ω2->Tu (D1 [-(bD b),cL (.rf 2),-(nd k),lD,lD] ω2) (λ_ ω'=>SV.fz .none=.fz .none/\SX (uJ b (bt b p) k) t ω') (λ_ _=>False) (λr ω'=>r=.fz .none/\SX (uJ b (bt b p) k) t ω'):=by
  intro ω2 Q;unfold D1;have dl:(bt b p).2.length<900:=by have:=d.2.2.1;ext
  have A:=d.1.sa;have dw:=d.2.1;generalize bt b p=p2 at Q da dl A dw;obtain⟨L0,L1⟩:=pV Z A;obtain⟨u,ly,h3⟩:=DG Z Q A;have eb:uJ b p2 k=kU b (gR p2.1.ac p2.1.oc) (cC p2.1 (look b (gR p2.1.ac p2.1.oc) k),p2.2) k (look b (gR p2.1.ac p2.1.oc) k):=rfl;rw[eb];obtain⟨M,O⟩:=nK Z (k:=k) L0 L1 I;obtain⟨n,YA⟩:∃n:Nat,gR p2.1.ac p2.1.oc=(n:Int):=⟨(gR p2.1.ac p2.1.oc).toNat,by ext⟩;refine bU (x:=.fz (.int (gR p2.1.ac p2.1.oc))) (ρ1:=[-(bD b),cL (.rf 2),-(nd k),-(.int (gR p2.1.ac p2.1.oc)),lD]) (bj (xs:=[.rf 2]) (ai (aU rfl) az) rfl ly) rfl ?_;generalize gR p2.1.ac p2.1.oc=L at M O L0 L1 YA;subst YA;obtain⟨d1,x1,x2⟩:=qI Z (L:=n) (k:=k) (by ext) I;obtain⟨d0,R,x4⟩:=qI Z (L:=0) (k:=k) (by ext) I;have R:aC (.tuple (b.ls.map cj)) (.int 0)=-(d0):=R;have e1:aC (bD b) (.int 1)=-(.tuple (b.ls.map cj)):=ig;have vn:=sF Z (L:=n) (k:=k) (by ext) I;have lk:look b (n:Int) k=if(iP b n k).ZH=QM then iP b 0 k else iP b n k:=rfl
  refine bU (x:=.fz (mD (iP b n k))) (ω1:=u) (ρ1:=[-(bD b),cL (.rf 2),-(nd k),-(nd n),-(mD (iP b n k))]) (ag (av (rv:=.fz (mD (iP b n k))) (av (rv:=.fz d1) (av (rv:=.fz (.tuple (b.ls.map cj))) (ah rfl) aw rfl rfl e1) (ah rfl) rfl rfl x1) (ah rfl) rfl rfl x2)) rfl ?_;have eB:br (mD (iP b n k)) (.tuple [.str "below"])=-(.bool (iP b n k).ZH):=(KS (a:=iP b n k) (b:=.below) vn.lb trivial).trans (by congr 3;cases iP b n k<;>first|rfl|exact a4 rfl);have Zy:∀m:Mn,m=look b (n:Int) k->Tu (D2 [-(bD b),cL (.rf 2),-(nd k),-(nd n),-(mD m)] u) (λ_ ω'=>SV.fz .none=.fz .none/\SX (kU b (n:Int) (cC p2.1 (look b (n:Int) k),p2.2) k (look b (n:Int) k)) t ω') (λ_ _=>False) (λr ω'=>r=.fz .none/\SX (kU b (n:Int) (cC p2.1 (look b (n:Int) k),p2.2) k (look b (n:Int) k)) t ω'):=by
   intro m hm;unfold D2;rw[<-hm]at M O⊢;have K:=jI m;have y2:=Jb O;have y3:=wB m;have y4:=fS m;have y5:=xP m;have e2:aC (bD b) (.int 2)=-(.tuple (b.cs.map a9)):=kA;have c4:=Z.c4;have t0:∀{ω:aW},aH (ar (au nN (au aC (aa 4) (~~~0)) (aN {pC (.str "letter"),pC (.str "tap"),pC (.str "none")}))) [-(bD b),cL (.rf 2),-(nd k),-(nd n),-(mD m)] ω=.ok (!(m.V1||m.Yc)) ω:=aK (aR (av (rv:=.fz (.bool (!(m.V1||m.Yc)))) (av (rv:=.fz (.str (wd m))) (ah rfl) aw rfl rfl K) (eA (am aw (am aw (am aw ay))) rfl (QR rfl)) rfl rfl y2) rfl);have G:∀{ω:aW},aH (ar (au br (au aC (aa 4) (~~~0)) (pC (.str "tap")))) [-(bD b),cL (.rf 2),-(nd k),-(nd n),-(mD m)] ω=.ok m.isT ω:=aK (aR (av (rv:=.fz (.bool m.isT)) (av (rv:=.fz (.str (wd m))) (ah rfl) aw rfl rfl K) aw rfl rfl y3) rfl);have N:∀{ω:aW},aH (ar (au br (au aC (aa 4) (~~~0)) (pC (.str "once")))) [-(bD b),cL (.rf 2),-(nd k),-(nd n),-(mD m)] ω=.ok m.Yc ω:=aK (aR (av (rv:=.fz (.bool m.Yc)) (av (rv:=.fz (.str (wd m))) (ah rfl) aw rfl rfl K) aw rfl rfl y5) rfl);have Y:iZ (cP (gN 0) ef (au nN (aa 1) (au aC (aa 0) (~~~0))) (b.cs.map a9) [lD,-(nd k)] [])=.ok (b.cs.map λc=>.bool (decide (k∈c.1))):=l7 a9 (λc=>.bool (decide (k∈c.1))) b.cs (by ext) rfl λc _=>av (rv:=.fz (.bool (decide (k∈c.1)))) (ah rfl) (av (rv:=.fz (.tuple (aB c.1))) (ah rfl) aw rfl rfl gQ) rfl rfl (lc _ _);have an:=Dh (λc:bb Nat×Nat=>decide (k∈c.1)) b.cs;rw[<-CM]at an;have F:∀{ω:aW},aH (gI (ar (au br (au aC (aa 4) (~~~0)) (pC (.str "letter")))) (gI (ar (au br (aa 3) (~~~0))) (ar (dR wu {cG 1 [2] (gn (au aC (aa 0) (~~~2))) (gN 0) ef (au nN (aa 1) (au aC (aa 0) (~~~0)))})))) [-(bD b),cL (.rf 2),-(nd k),-(nd n),-(mD m)] ω=.ok (m.YB&&(decide ((n:Int)=0)&& !(bF b [k]).isEmpty)) ω:=aK (jv (aR (av (rv:=.fz (.bool m.YB)) (av (rv:=.fz (.str (wd m))) (ah rfl) aw rfl rfl K) aw rfl rfl y4) rfl) λ_=>jv (aR (av (rv:=.fz (.bool (decide ((n:Int)=0)))) (ah rfl) aw rfl rfl (jo _ _)) rfl) λ_=>aR (bX (rv:=.fz (.bool (!(bF b [k]).isEmpty))) (ds:=[.list (b.cs.map λc=>.bool (decide (k∈c.1)))]) (am (cB (cs:=[nd k]) (ds:=b.cs.map a9) (fL (av (rv:=.fz (.tuple (b.cs.map a9))) (ah rfl) aw rfl rfl e2) rfl rfl) rfl Y) ay) rfl an) rfl);have Zt:∀j,SX (cC p2.1 m,p2.2) t j->Tu (D3 [-(bD b),cL (.rf 2),-(nd k),-(nd n),-(mD m)] j) (λ_ ω'=>SV.fz .none=.fz .none/\SX (kU b (n:Int) (cC p2.1 m,p2.2) k m) t ω') (λ_ _=>False) (λr ω'=>r=.fz .none/\SX (kU b (n:Int) (cC p2.1 m,p2.2) k m) t ω'):=by
    intro j J;unfold D3;have us:SA b (cC p2.1 m):=tO A;have hA:AK (cC p2.1 m).ac:=us.ak Z;have cm:∀P,VA b.ls.length P->∃e,bT [.rf 2,.fz (nd k),.fz (mD P)] j=.ok (.fz .none) e/\SX (dJ (cC p2.1 m,p2.2) k P) t e:=λP va=>lK (p:=(cC p2.1 m,p2.2)) J hA (by ext) va.lb (show p2.2.length<1000 by ext);cases m with
    |below=>exact a7 rfl O
    |U8 c f=>obtain⟨e,S,l⟩:=mH (i:=1) (ρ:=[-(bD b),cL (.rf 2),-(nd k),-(nd n),-(mD (.U8 c f))]) (fv:=af (aN {aN {aa 2},~~~0,aa 4})) (w:=cL ([k],0,cL (c,f))) J rfl (ag (d:=fm (cL ([k],0,cL (c,f)))) (show _=Res.ok (PV.fz (.tuple [.tuple [nd k],.int 0,mD (.U8 c f)]),_) by fail "ev"));exact fP G (i6 S ⟨rfl,l⟩)
    |Q6 c=>
     have X:kU b (n:Int) (cC p2.1 (.Q6 c),p2.2) k (.Q6 c)=if(decide ((n:Int)=0)&& !(bF b [k]).isEmpty)=QM then({cC p2.1 (.Q6 c)with wt:=cL ([k],0,lD)},p2.2)else dJ (cC p2.1 (.Q6 c),p2.2) k (.Q6 c):=rfl
     rw[X];have F:∀{ω:aW},_=RS.ok (decide ((n:Int)=0)&& !(bF b [k]).isEmpty) ω:=λ{ω}=>F (ω:=ω);refine aV G ?_;refine rp F (λq=>?_) λq=>?_
     .rw[ax q];obtain⟨e,S,l⟩:=mH (i:=1) (ρ:=[-(bD b),cL (.rf 2),-(nd k),-(nd n),-(mD (.Q6 c))]) (fv:=af (aN {aN {aa 2},~~~0,aN {pC (.str "chord")}})) (w:=cL ([k],0,lD)) J rfl (ag (d:=fm (cL ([k],0,lD))) (show _=Res.ok (PV.fz (.tuple [.tuple [nd k],.int 0,.tuple [.str "chord"]]),_) by fail "ev"));exact i6 S ⟨rfl,l⟩
     .rw[a3 (by rw[q];simp)];obtain⟨e,E,l⟩:=cm (.Q6 c) M;exact aV N (cg (bj (xs:=[.rf 2,.fz (nd k),.fz (mD (.Q6 c))]) (ai (aU rfl) (ai (ag (ah rfl)) (ai (ag (ah rfl)) az))) rfl E) ⟨rfl,l⟩)
    |Sr f=>obtain⟨e,E,l⟩:=cm (.Sr f) M;exact aV G (aV F (aV N (cg (bj (xs:=[.rf 2,.fz (nd k),.fz (mD (.Sr f))]) (ai (aU rfl) (ai (ag (ah rfl)) (ai (ag (ah rfl)) az))) rfl E) ⟨rfl,l⟩)))
    |none=>obtain⟨e,E,l⟩:=cm .none trivial;exact aV G (aV F (aV N (cg (bj (xs:=[.rf 2,.fz (nd k),.fz (mD .none)]) (ai (aU rfl) (ai (ag (ah rfl)) (ai (ag (ah rfl)) az))) rfl E) ⟨rfl,l⟩)))
    |once f=>obtain⟨e,E,l⟩:=cm .none trivial;have i1:aC (mD (.once f)) (.int 1)=-(.int f):=ig;obtain⟨ω6,T,h6⟩:=AJ (i:=1) (ρ:=[-(bD b),cL (.rf 2),-(nd k),-(nd n),-(mD (.once f))]) (fv:=af (au aC (aa 4) (~~~1))) (o:=cL f) l rfl (ag (d:=.int f) (av (rv:=.fz (.int f)) (ah rfl) aw rfl rfl i1));exact aV G (aV F (fP N (dj (bj (xs:=[.rf 2,.fz (nd k),.fz (mD .none)]) (ai (aU rfl) (ai (ag (ah rfl)) (ai (ag (d:=mD .none) (show _=Res.ok (PV.fz (.tuple [.str "none"]),_) by fail "ev")) az))) rfl E) (i6 T ⟨rfl,h6⟩))))
   cases qi:(m.V1||m.Yc)with
   |true=>
    rw[qi]at t0;have U:cC p2.1 m=p2.1:=by unfold cC;rw[ax qi]
    refine dg t0 (cb (Zt u ?_));rw[U];exact h3
   |false=>
    rw[qi]at t0;have U:cC p2.1 m={p2.1 with oc:=lD}:=by unfold cC;rw[a3 (by rw[qi];simp)]
    obtain⟨j,T,J⟩:=AJ (i:=1) (ρ:=[-(bD b),cL (.rf 2),-(nd k),-(nd n),-(mD m)]) (fv:=af (pC .none)) (o:=lD) h3 rfl (ag aw);refine eV t0 (jw T (Zt j ?_));rw[U];exact J
  have tb:∀{ω:aW},aH (ar (au br (aa 4) (aN {pC (.str "below")}))) [-(bD b),cL (.rf 2),-(nd k),-(nd n),-(mD (iP b n k))] ω=.ok (iP b n k).ZH ω:=aK (aR (av (rv:=.fz (.bool (iP b n k).ZH)) (ah rfl) (eA (am aw ay) rfl (QR rfl)) rfl rfl eB) rfl);refine pS tb (λq=>?_) λq=>cb (Zy _ (by rw[lk,a3 (by rw[q];simp)]));exact bU (x:=.fz (mD (iP b 0 k))) (ω1:=u) (ρ1:=[-(bD b),cL (.rf 2),-(nd k),-(nd n),-(mD (iP b 0 k))]) (ag (av (rv:=.fz (mD (iP b 0 k))) (av (rv:=.fz d0) (av (rv:=.fz (.tuple (b.ls.map cj))) (ah rfl) aw rfl rfl e1) aw rfl rfl R) (ah rfl) rfl rfl x4)) rfl (Zy _ (by rw[lk,ax q]))
 cases qw:p.1.wt with
 |none=>
  have ed:bt b p=p:=by unfold bt;rw[qw]
  have e1:gS (fm p.1.wt) .none=-(.bool QP):=by rw[qw];rfl
  exact dg (aA (bz (eT C rfl) (ag aw) (bi e1))) (cb (B ω1 (by rw[ed];exact C)))
 |some x=>
  obtain⟨ks,g,w⟩:=x;have e1:gS (fm p.1.wt) .none=-(.bool QM):=by rw[qw];rfl
  obtain⟨ω2,dc,Q⟩:=je Z C H.sa qw (H.wt _ _ _ qw).1 (by ext);exact eV (aA (bz (eT C rfl) (ag aw) (bi e1))) (dj (bj (xs:=[.fz (bD b),.rf 2]) (ai (ag (ah rfl)) (ai (aU rfl) az)) rfl dc) (B ω2 Q))
end
theorem rl(k:Nat):∀(a:bb (Nat×Mn)) (p:SK×Sn),(p.1.ac k).isSome=QM\/k∈a.map (·.1)->((eh p a).1.ac k).isSome=QM
 |[],p,h=>h.elim id λz=>(by cases z)
 |q::r,p,h=>by
  refine rl k r (dJ p q.1 q.2) ?_;by_cases e:k=q.1
  .left;show(gJ p.1.ac q.1 (cL q.2) k).isSome=QM;rw[e,dD];rfl
  .rcases h with h|h
   .left;show(gJ p.1.ac q.1 (cL q.2) k).isSome=QM;rw[fV e];exact h
   .rw[Q7,Rm]at h;exact .inr (h.resolve_left e)
theorem JP:br (.str "down") (.str "down")=-(.bool QM):=uR (by left)
theorem C8:br (.str "down") (.str "up")=-(.bool QP):=kE (by left) (by left) (by left)
theorem Jr:br (.str "down") (.str "turn")=-(.bool QP):=kE (by left) (by left) (by left)
theorem KF:br (.str "up") (.str "down")=-(.bool QP):=kE (by left) (by left) (by left)
theorem Cv:br (.str "up") (.str "up")=-(.bool QM):=uR (by left)
theorem JU:br (.str "up") (.str "turn")=-(.bool QP):=kE (by left) (by left) (by left)
theorem KB:br (.str "turn") (.str "down")=-(.bool QP):=kE (by left) (by left) (by left)
theorem Dq:br (.str "turn") (.str "up")=-(.bool QP):=kE (by left) (by left) (by left)
theorem D4:br (.str "turn") (.str "turn")=-(.bool QM):=uR (by left)
theorem d9{ρ:aZ}{ω:aW}{i:Nat}{a w:Str}{v:Bool}(h:(bV ρ)[i]?=cL (-(.str a)))(e:br (.str a) (.str w)=-(.bool v)):aH (ar (au br (aa i) (pC (.str w)))) ρ ω=.ok v ω:=aK (ρ':=bV ρ) (aR (av (rv:=.fz (.bool v)) (ah h) aw rfl rfl e) rfl)
section
variable{b:Bd}(Z:VB b){s:SK}{sn:Sn}{p:SK×Sn}{t i:Nat}{ω ω1 ω2:aW}{ρ:aZ}{k:Nat}{a:Mn}{x y z:SV}{d dx dy:D}{ds:bb D}{ks:bb Nat}{g:Int}{w:bg (Nat×Int)}
theorem SX.lt(h:SX p t ω):2<ω.length:=(QU.mp h.sp).1
theorem SX.T3(h:SX p t ω):SX (p.1,[]) ω.length ((ω++[Cell.lst []]).set 2 (.Te (cH (kO p.1 t) (.inr "sent") (.rf ω.length)))):=by have l:=h.lt;exact⟨let⟨ps,h1,h2⟩:=h.ex;⟨ps,h1,by rw[ff (by decide)];exact dL h2⟩,by rw[mB (dL h.sp),DA],by rw[ff (by ext)];exact aM,by ext,by ext⟩
theorem SX.aeb{j:Nat}{c:Cell}(h:SX p t ω)(l:j≠0)(f:j≠2)(e:j≠t):SX p t (ω.set j c):=
 ⟨let⟨ps,q1,q2⟩:=h.ex;⟨ps,q1,by rw[ff l];exact q2⟩,by rw[ff f];exact h.sp,by rw[ff e];exact h.sn,h.t0,h.t2⟩
include Z
theorem GJ{e:UR}(N:SX (s,sn) t ω)(f:SW b s)(M:EV b e):∃ω',ij [.fz (bD b),.rf 2,.fz (cZ e)] ω=.ok (.fz .none) ω'/\SX (cQ b s e) ω.length ω':=by
 have h5:=Z.n5;refine dI (v:=.fz .none) (W:=λω'=>SX (cQ b s e) ω.length ω') (ρ:=[-(bD b),cL (.rf 2),-(cZ e),lD,lD,lD]) rfl ?_;unfold gj;have h:=N.T3;have ps:∀ρ:aZ,ρ[1]?=cL (cL (.rf 2))->dM (aq 1) (af (pC (.str "sent"))) (af (cz ap)) ρ ω=.ok (.nx ρ) ((ω++[Cell.lst []]).set 2 (.Te (cH (kO s t) (.inr "sent") (.rf ω.length)))):=λρ T=>l4 (k:=.inr "sent") (y:=.rf ω.length) (eE (ds:=[]) (ρ':=bV ρ) (iJ ay rfl (Rz _))) (aU T) (ag (d:=.str "sent") aw) rfl (dL N.sp) (by show 4<1000000;decide);have h:SX (s,[]) ω.length ((ω++[Cell.lst []]).set 2 (.Te (cH (kO s t) (.inr "sent") (.rf ω.length)))):=h;generalize (ω++[Cell.lst []]).set 2 (.Te (cH (kO s t) (.inr "sent") (.rf ω.length)))=ω1 at h ps;generalize ω.length=t1 at h;have O:([]:Sn).length<800:=by decide
 cases e with
 |down k=>
  have L:(k:Int)<b.n:=M;have H:=yw (k:=k) h (by ext);refine bU (x:=.fz (cZ (.down k))) (ω1:=ω) (ω2:=ω) (ρ1:=[-(bD b),cL (.rf 2),-(cZ (.down k)),-(.str "down"),-(nd k),lD]) (ag (ah rfl)) rfl ?_;refine jw (ps _ rfl) ?_;have B:gq (aH (ar (au br (aa 3) (pC (.str "down"))))) (mC (aO (cw dX 2 (aj (aq 1) (aj (af (aa 4)) aF))))) [-(bD b),cL (.rf 2),-(cZ (.down k)),-(.str "down"),-(nd k),lD] ω1=.ok (!((s.ac k).isSome||p8 s.wt k)) ω1:=cJ (d9 rfl JP) (j4 (aA (bj (xs:=[.rf 2,.fz (nd k)]) (ai (aU rfl) (ai (ag (ah rfl)) az)) rfl H)));cases q:((s.ac k).isSome||p8 s.wt k)with
  |true=>
   rw[q]at B;have X:cQ b s (.down k)=(s,[]):=by show gK b (s,[]) k=_;unfold gK;rw[ax q]
   rw[X];exact aV B (aV (ω1:=ω1) (bQ (d9 rfl C8)) (aV (ω1:=ω1) (bQ (d9 rfl C8)) (aV (ω1:=ω1) (bQ (d9 rfl Jr)) (eS ⟨rfl,h⟩))))
  |false=>
   rw[q]at B;rw[Ve]at q;have ha:s.ac k=lD:=by
    cases z:s.ac k with
    |none=>rfl
    |some x=>rw[z]at q;exact a7 q.1 (by simp)
   obtain⟨ω2,dn,j⟩:=GZ Z (p:=(s,[])) h f L ha q.2 O;exact fP B (cg (bj (xs:=[.fz (bD b),.rf 2,.fz (nd k)]) (ai (ag (ah rfl)) (ai (aU rfl) (ai (ag (ah rfl)) az))) rfl dn) ⟨rfl,j⟩)
 |up k=>
  have L:(k:Int)<b.n:=M;have H:=yw (k:=k) h (by ext);refine bU (x:=.fz (cZ (.up k))) (ω1:=ω) (ω2:=ω) (ρ1:=[-(bD b),cL (.rf 2),-(cZ (.up k)),-(.str "up"),-(nd k),lD]) (ag (ah rfl)) rfl ?_;refine jw (ps _ rfl) ?_;refine aV (ω1:=ω1) (bQ (d9 rfl KF)) ?_;have A:gq (aH (ar (au br (aa 3) (pC (.str "up"))))) (aO (kT QP (af (aa 4)) (aX (aq 1) (af (pC (.str "acts")))))) [-(bD b),cL (.rf 2),-(cZ (.up k)),-(.str "up"),-(nd k),lD] ω1=.ok (s.ac k).isSome ω1:=by obtain⟨qs,F,I⟩:=h.ex;have K:=gO F (k:=k) (by ext);refine cJ (d9 rfl Cv) (aA ((pM (k:=.inl (k:Int)) (i:=0) (x:=.fz (nd k)) (ag (ah rfl)) (jE h rfl) rfl I).trans ?_));rw[K];show RS.ok (SV.fz (.bool (((s.ac k).map λa=>SV.fz (mD a)).isSome !=QP))) ω1=_;cases s.ac k<;>rfl
  have m:gq (aH (ar (au br (aa 3) (pC (.str "up"))))) (aO (cw dX 2 (aj (aq 1) (aj (af (aa 4)) aF)))) [-(bD b),cL (.rf 2),-(cZ (.up k)),-(.str "up"),-(nd k),lD] ω1=.ok ((s.ac k).isSome||p8 s.wt k) ω1:=cJ (d9 rfl Cv) (aA (bj (xs:=[.rf 2,.fz (nd k)]) (ai (aU rfl) (ai (ag (ah rfl)) az)) rfl H));have l:cQ b s (.up k)=go (if p8 s.wt k=QM then bu b (s,[]) k else(s,[])) k:=rfl;cases qa:s.ac k with
  |some a=>
   rw[qa]at A;have hn:p8 s.wt k=QP:=by
    cases z:s.wt with
    |none=>rfl
    |some x=>obtain⟨ks,g,w⟩:=x;refine a5 λG=>?_;have:=(f.wt ks g w z).1.kf k G;rw[qa]at this;cases this
   rw[l,a3 (by rw[hn];simp)];obtain⟨ω2,gg,j⟩:=HP (k:=k) (a:=a) h (f.sa.ak Z) qa (show 0<1000 by decide);exact fP A (cg (bj (xs:=[.rf 2,.fz (nd k)]) (ai (aU rfl) (ai (ag (ah rfl)) az)) rfl gg) ⟨rfl,j⟩)
  |none=>
   rw[qa]at A m;have m:_=RS.ok (p8 s.wt k) ω1:=m;refine aV A ?_;cases qn:p8 s.wt k with
   |false=>
    rw[qn]at m;rw[l,a3 (by rw[qn];simp)];have Y:go (s,[]) k=(s,[]):=by unfold go;rw[show(s,([]:Sn)).1.ac k=lD from qa]
    rw[Y];exact aV m (aV (ω1:=ω1) (bQ (d9 rfl JU)) (eS ⟨rfl,h⟩))
   |true=>
    rw[qn]at m;rw[l,ax qn];refine fP m ?_;cases qw:s.wt with
    |none=>rw[qw]at qn;cases qn
    |some x=>
     obtain⟨ks,g,w⟩:=x;have v:=(f.wt ks g w qw).1;have ZW:k∈ks:=by rw[qw]at qn;exact a6 qn
     have e2:aC (fm (s,([]:Sn)).1.wt) (.int 2)=-(iW w):=by rw[show(s,([]:Sn)).1.wt=_ from qw];exact kA
     refine bU (x:=.fz (iW w)) (ω1:=ω1) (ω2:=ω1) (ρ1:=[-(bD b),cL (.rf 2),-(cZ (.up k)),-(.str "up"),-(nd k),-(iW w)]) (cA (eT h rfl) (ag aw) e2) rfl ?_;have u:∀(p:SK×Sn) (ω2:aW),SX p t1 ω2->SA b p.1->p.2.length<1000->(p.1.ac k).isSome=QM->Tu (aY (cw g8 2 (aj (aq 1) (aj (af (aa 4)) aF))) [-(bD b),cL (.rf 2),-(cZ (.up k)),-(.str "up"),-(nd k),-(iW w)] ω2) (λ_ ω'=>SV.fz .none=.fz .none/\SX (go p k) t1 ω') (λ_ _=>False) (λr ω'=>r=.fz .none/\SX (go p k) t1 ω'):=λp ω2 j C Wm Vr=>by obtain⟨a,ha⟩:=SN.mp Vr;obtain⟨o,gg,J⟩:=HP (k:=k) (a:=a) j (C.ak Z) ha Wm;exact cg (bj (xs:=[.rf 2,.fz (nd k)]) (ai (aU rfl) (ai (ag (ah rfl)) az)) rfl gg) ⟨rfl,J⟩
     obtain⟨ws,Q,P⟩:=BK w;have tp:∀{ω:aW},aH (ar (au br (au aC (aa 5) (~~~0)) (pC (.str "tap")))) [-(bD b),cL (.rf 2),-(cZ (.up k)),-(.str "up"),-(nd k),-(iW w)] ω=.ok w.isSome ω:=aK (aR (av (rv:=.fz (.bool w.isSome)) (av (rv:=.fz (.str ws)) (ah rfl) aw rfl rfl Q) aw rfl rfl P) rfl);have z:=iU Z (p:=(s,[])) (k:=k) f qn;cases w with
     |none=>
      have es:bu b (s,[]) k=bt b (s,[]):=by unfold STP.bu;rw[show(s,([]:Sn)).1.wt=_ from qw]
      obtain⟨ω2,dc,j⟩:=je Z (p:=(s,[])) h f.sa qw v (show 0<900 by decide);have E:((bu b (s,[]) k).1.ac k).isSome=QM:=by rw[es];unfold bt;rw[show(s,([]:Sn)).1.wt=_ from qw];dsimp only;refine rl k _ _ (.inr ?_);rw[List.map_fst_zip (by show ks.length<=(o0 b ks).length;rw[yH b v.ZX];exact QV _)];exact ZW
      exact dg tp (dj (bj (xs:=[.fz (bD b),.rf 2]) (ai (ag (ah rfl)) (ai (aU rfl) az)) rfl dc) (u _ ω2 (by rw[es];exact j) z.1.sa (Vs z.2 (show 0+5<1000 by decide)) E))
     |some cn=>
      obtain⟨c,n⟩:=cn;have es:bu b (s,[]) k=dJ ({s with wt:=lD},[]) k (.Q6 c):=by unfold STP.bu;rw[show(s,([]:Sn)).1.wt=_ from qw]
      have I:c<26:=(v.tp c n rfl).1;obtain⟨ω2,S,F⟩:=mH (i:=1) (ρ:=[-(bD b),cL (.rf 2),-(cZ (.up k)),-(.str "up"),-(nd k),-(iW (cL (c,n)))]) (fv:=af (pC .none)) (w:=lD) h rfl (ag aw);obtain⟨o,cm,J⟩:=lK (k:=k) (a:=.Q6 c) F (SA.ak Z (s:={s with wt:=lD}) ⟨f.sa.ac,f.sa.oc⟩) (by ext) I (show 0<1000 by decide);have i1:aC (iW (cL (c,n))) (.int 1)=-(.str (cW c)):=ig;have E:((bu b (s,[]) k).1.ac k).isSome=QM:=by rw[es];show(gJ s.ac k (cL (.Q6 c)) k).isSome=QM;rw[dD];rfl
      exact eV tp (wv (jw S (dj (bj (xs:=[.rf 2,.fz (nd k),.fz (mD (.Q6 c))]) (ai (aU rfl) (ai (ag (ah rfl)) (ai (ag (d:=mD (.Q6 c)) (show _=Res.ok (PV.fz (.tuple [.str "letter",.str (cW c)]),_) by fail "ev")) az))) rfl cm) (u _ o (by rw[es];exact J) z.1.sa (Vs z.2 (show 0+5<1000 by decide)) E))))
 |turn=>
  refine bU (x:=.fz (cZ .turn)) (ω1:=ω) (ω2:=ω) (ρ1:=[-(bD b),cL (.rf 2),-(cZ .turn),-(.str "turn"),-(.int 0),lD]) (ag (ah rfl)) rfl ?_;refine jw (ps _ rfl) ?_;refine aV (ω1:=ω1) (bQ (d9 rfl KB)) (aV (ω1:=ω1) (bQ (d9 rfl Dq)) (aV (ω1:=ω1) (bQ (d9 rfl Dq)) ?_));have U:cQ b s .turn=fR b (s,[]):=rfl;rw[U];cases qw:s.wt with
  |none=>
   have e1:gS (fm (s,([]:Sn)).1.wt) .none=-(.bool QP):=by rw[show(s,([]:Sn)).1.wt=_ from qw];rfl
   have e2:fR b (s,[])=(s,[]):=by unfold fR;rw[show(s,([]:Sn)).1.wt=_ from qw]
   rw[e2];exact aV (ω1:=ω1) (cJ (d9 rfl D4) (aA (bz (eT h rfl) (ag aw) (bi e1)))) (eS ⟨rfl,h⟩)
  |some x=>
   obtain⟨ks,g,w⟩:=x;have e1:gS (fm (s,([]:Sn)).1.wt) .none=-(.bool QM):=by rw[show(s,([]:Sn)).1.wt=_ from qw];rfl
   obtain⟨ω2,R,j⟩:=G2 Z (p:=(s,[])) h f qw (show 0<900 by decide);exact fP (ω1:=ω1) (cJ (d9 rfl D4) (aA (bz (eT h rfl) (ag aw) (bi e1)))) (cg (bj (xs:=[.fz (bD b),.rf 2]) (ai (ag (ah rfl)) (ai (aU rfl) az)) rfl R) ⟨rfl,j⟩)
end
section
variable{ρ:aZ}{ω ω1 ω2:aW}{x:SV}{b:Bd}{p:SK×Sn}{t:Nat}
theorem uy(ha:fa ρ ω=.ok xs ω1)(a:rq F n xs ω1=.ok x ω2):qR F n fa ρ ω=.ok x ω2:=by unfold qR;rw[ha,ee,a];rfl
theorem JV{d:D}(ha:fa ρ ω=.ok xs ω1)(e:aD (sh ω1) xs=lD)(g:aD (mK 6 ω1) xs=cL ds)(h:f ds=-(d))(hd:t8 d=QM):z7 f fa ρ ω=.ok (.fz d) ω1:=by unfold z7;rw[ha,ee];unfold FX;rw[e];rw[g];show((RS.RK ω1 (f ds)).bind λrv a=>lg a rv)=_;rw[h];show(if t8 d=QM then RS.ok (SV.fz d) ω1 else RS.bad)=_;rw[ax hd]
theorem xb{fa a:cR}{l:bb AV}{y:AV}{i:Int}(ha:fa ρ ω=.ok (.tp l) ω1)(d:a ρ ω1=.ok (.fz (.int i)) ω2)(h:kY l i=cL y):L10.iK fa a ρ ω=.ok y.sv ω2:=by unfold L10.iK;rw[ha,ee,d,ee];show(RS.RK ω2 ((kY l i).map AV.sv))=_;rw[h];rfl
theorem qJ{α a:Type}{f:α->bg a}:∀{xs:bb α} {ys:bb a},xs.length=ys.length->(∀(i:Nat) (x:α) (y:a),xs[i]?=cL x->ys[i]?=cL y->f x=cL y)->aD f xs=cL ys
 |[],[],_,_=>rfl
 |[],_::_,h,_=>by simp at h
 |_::_,[],h,_=>by simp at h
 |x::r,y::t,h,hs=>by unfold aD;rw[hs 0 x y rfl rfl,qJ (by simpa using h) λi x y e d=>hs (i+1) x y (by simpa using e) (by simpa using d)]
theorem AW(n:Nat){i:Nat}{ds:bb D}(h:ω[i]?=cL (.lst (ds.map .fz))):mK (n+1) ω (.rf i)=cL (.list ds):=by
 unfold mK;rw[h];dsimp only;rw[qJ (ys:=ds) (by rw[QQ])]
 .rfl
 .intro i x y a d;rw[Q5,d]at a;cases Ra a;cases n<;>rfl
theorem pJ{f:Nat}{sn:bb D}{a:D}(h:ω[f]?=cL (.lst (sn.map .fz))):mK 6 ω (.tp [.rf f,.fz a])=cL (.tuple [.list sn,a]):=by show(aD (λx:AV=>mK 5 ω x.sv) [AV.rf f,AV.fz a]).map QO.tuple=_;unfold aD;rw[show mK 5 ω (AV.rf f).sv=_ from AW 4 h];rfl
theorem Bk(h:SX p t ω)(l:ρ[3]?=cL (cL (.rf 2)))(e:ib 1 [3] ρ=[lD,cL (.rf 2)]):z7 hV (aj (kB 1 [3] (iR (kG (aX (aq 3) (af (pC (.str "acts")))))) (eI 0) jU (jk (aj (af (aa 0)) (aj (aX (aX (aq 1) (af (pC (.str "acts")))) (af (aa 0))) aF)))) aF) ρ ω=.ok (.fz (.tuple ((ei p.1.ac).map pD))) (ω++[.dead]++[.lst (((ei p.1.ac).map pD).map .fz)]):=by
 obtain⟨ps,a,f⟩:=h.ex;have j:=oQ a;have n:iR (kG (aX (aq 3) (af (pC (.str "acts"))))) ρ ω=.ok ((ei p.1.ac).map λq=>nd q.1) (ω++[.dead]):=by
  refine(vU (ds:=(ei p.1.ac).map λq=>nd q.1) (xq (jE h l) f (uI a) (by rw[QQ];ext)) ?_).trans ?_
  .rw[ub a];refine aM.trans ?_;rw[Rv,Rv];rfl
  .rw[gk]
 have m:=h.app [Cell.dead];have u:(ω++[Cell.dead])[0]?=cL (.Te (ps.map iA)):=dL f;have r:ce (eI 0) jU (jk (aj (af (aa 0)) (aj (aX (aX (aq 1) (af (pC (.str "acts")))) (af (aa 0))) aF))) ((ei p.1.ac).map λq=>nd q.1) (ib 1 [3] ρ) (ω++[.dead]) []=.ok (((ei p.1.ac).map pD).map .fz) (ω++[.dead]):=by rw[e];refine(ka (λq:Nat×Mn=>nd q.1) (λq=>.fz (pD q)) _ (λρ=>∃o,ρ=[o,cL (.rf 2)]) (ei p.1.ac) _ [] ⟨lD,rfl⟩ (by have:=nS p.1.ac;rw[Sz];ext) ?_).trans (by rw[Rv];rfl);rintro q g ρ ⟨o,rfl⟩;have hm:=jr.mp g;refine⟨[-(nd q.1),cL (.rf 2)],rfl,rfl,?_,_,rfl⟩;exact mO (ds:=[nd q.1,mD q.2]) (ai (ag (ah rfl)) (ai (km (i:=0) (kvs:=ps.map iA) (jE m rfl) (ag (d:=nd q.1) (ah rfl)) rfl u (by rw[gO a hm.1,hm.2];rfl)) az)) (QR rfl)
 exact Bf (ds:=[.list ((ei p.1.ac).map pD)]) (ai (tF n r) az) (jc (fG (ds:=(ei p.1.ac).map pD) aM)) rfl
theorem F6(s:SK):QO.depth (fu s)<=4:=by
 have d:∀m:Mn,QO.depth (mD m)<=1:=λm=>by cases m<;>exact QR rfl
 have h:QO.depthAll ((ei s.ac).map pD)<=2:=ji λq _=>by show max 0 (max (QO.depth (mD q.2)) 0)+1<=2;have:=d q.2;ext
 have f:QO.depth (fm s.wt)<=2:=by
  cases s.wt with
  |none=>exact Rz _
  |some x=>
   obtain⟨a,g,w⟩:=x;show max (QO.depthAll (aB a)+1) (max 0 (max (QO.depth (iW w)) 0))+1<=2;rw[jt];cases w with
   |none=>exact QR rfl
   |some i=>exact QR rfl
 have e:QO.depth (kS s.oc)=0:=by cases s.oc<;>rfl
 show max (QO.depthAll ((ei s.ac).map pD)+1) (max (QO.depth (fm s.wt)) (max (QO.depth (kS s.oc)) 0))+1<=4;ext
theorem two_ok{b:Bd}{s:SK}{sn:Sn}(a:SW b s)(d:Uc sn):i7 (.tuple [.list (sn.map ja),fu s])=QM:=by
 refine AZ ?_ ?_
 .show(QO.canLay0 (.list (sn.map ja))&&(QO.canLay0 (fu s)&&QM))=QM;rw[sE (CP d),sE (Am a)];rfl
 .show max (QO.depthAll (sn.map ja)+1) (max (QO.depth (fu s)) 0)+1<=64;have:=ji (f:=ja) (l:=sn) λq _=>xR q;have:=F6 s;ext
end
section
variable{b:Bd}(Z:VB b){s:SK}{p:SK×Sn}{k:Nat}
theorem Dy:(go p k).2.length<=p.2.length+1:=by
 unfold go;split
 .rename_i a q
  rw[Q1];have:(zV (gJ p.1.ac k lD) a).length<=1:=by
   cases a with
   |Q6 c=>show(if gC (gJ p.1.ac k lD) (.Q6 c)=QM then[]else[(c,QP)]:Sn).length<=1;split<;>exact QR rfl
   |_=>exact Rz _
  ext
 .omega
theorem El:(uJ b p k).2.length<=p.2.length+1:=by
 have d:uJ b p k=kU b (gR p.1.ac p.1.oc) (cC p.1 (look b (gR p.1.ac p.1.oc) k),p.2) k (look b (gR p.1.ac p.1.oc) k):=rfl;rw[d];generalize look b (gR p.1.ac p.1.oc) k=m;generalize gR p.1.ac p.1.oc=L;have cm:∀a,(dJ (cC p.1 m,p.2) k a).2.length<=p.2.length+1:=λa=>lC;cases m with
 |U8 c n=>exact Vh _
 |Q6 c=>
  show(if(decide (L=0)&& !(bF b [k]).isEmpty)=QM then({cC p.1 (.Q6 c)with wt:=cL ([k],0,lD)},p.2)else dJ (cC p.1 (.Q6 c),p.2) k (.Q6 c)).2.length<=_;split
  .exact Vh _
  .exact cm _
 |once n=>exact cm .none
 |Sr n=>exact cm _
 |none=>exact cm _
 |below=>exact cm _
include Z
theorem BI(a:SW b s)(i:EV b e):(cQ b s e).2.length<=100:=by
 have d:=eJ Z (p:=(s,[])) a.sa (SW.wd Z a);have j:(bt b (s,[])).2.length<=5:=d.2.2.1;cases e with
 |turn=>
  show(fR b (s,[])).2.length<=100;unfold fR;split
  .simp_all
  .rename_i f g w q
   have v:=(a.wt f g w q).1;split
   .have:=(eJ Z (p:=({s with wt:=cL (f,g+1,w)},[])) ⟨a.sa.ac,a.sa.oc⟩ λ_ _ _ e=>by cases e;exact⟨v.ne,v.nd,v.kn,v.kf,by have:=v.g0;ext,v.tp,v.ch⟩).2.2.1;exact Rp this (show 0+5<=100 by decide)
   simp_all
 |up k=>
  show(qj b (s,[]) k).2.length<=100;unfold qj;split
  .rename_i q;have z:=(iU Z a q).2;have z:(STP.bu b (s,[]) k).2.length<=5:=z;have:=Dy (p:=STP.bu b (s,[]) k) (k:=k);ext
  .exact Rp Dy (show 0+1<=100 by decide)
 |down k=>
  show(gK b (s,[]) k).2.length<=100;unfold gK;split
  .simp_all
  .rename_i q
   rw[Sd,not_or]at q;have ha:s.ac k=lD:=by simp_all
   have hn:p8 s.wt k=QP:=by simp_all
   split
   .rename_i h
    obtain⟨f,g,e1,e2,e3,e4⟩:=pY Z a i ha hn h;unfold jz;rw[e1];dsimp only;split
    .have:=(eJ Z (p:=({s with wt:=cL (f++[k],g,lD)},[])) ⟨a.sa.ac,a.sa.oc⟩ λ_ _ _ e=>by cases e;exact e3).2.2.1;exact Rp this (show 0+5<=100 by decide)
    .exact Rz _
   .have:=El (b:=b) (p:=bt b (s,[])) (k:=k);ext
end
abbrev EL(ns:bb Int)(b:Bd)(es:bb UR)(s:SK)(e d a:bg SV):aZ:=[-(.list (ns.map .int)),-(bD b),-(.list (es.map cZ)),cL (.rf 2),-(fu s),e,d,a]
theorem nI{kvs:bb (bK×SV)}{k:bK}{x:SV}(h:eD kvs k=lD):cH kvs k x=kvs++[(k,x)]:=by
 unfold cH;rw[a3];intro z;obtain⟨a,d,b⟩:=S0.mp z;unfold eD at h;cases q:kvs.find? λa=>decide (a.1=k)with
 |some y=>rw[q]at h;cases h
 |none=>exact a7 b (X6.mp q a d)
theorem Mi:gH [] [(.inr "acts",.rf 0),(.inr "waiting",.fz .none),(.inr "once",.fz .none),(.inr "sent",.rf 1)]=kO kK 1:=by show cH (cH (cH (cH [] (.inr "acts") (.rf 0)) (.inr "waiting") (.fz .none)) (.inr "once") (.fz .none)) (.inr "sent") (.rf 1)=_;rw[nI (kvs:=[]) rfl,Ta,nI ((eR (x:= "acts") (y:= "waiting") (by left)).trans rfl),UL,Ta,nI ((eR (x:= "acts") (y:= "once") (by left)).trans ((eR (x:= "waiting") (y:= "once") (by left)).trans rfl)),UL,UL,Ta,nI ((eR (x:= "acts") (y:= "sent") (by left)).trans ((eR (x:= "waiting") (y:= "sent") (by left)).trans ((eR (x:= "once") (y:= "sent") (by left)).trans rfl)))];rfl
theorem main(ns:bb Int)(W2:ns.length<=63):L10.N4 F_law [.list (ns.map .int)]=.ok (.fz (.bool QM)):=by
 obtain⟨b,es,v,hes,he,eg⟩:=Dm ns W2;have U:∃x B,F_law [.fz (.list (ns.map .int))] []=.ok x B/\x=.fz (.bool QM):=by
  refine BE (T:=λx _=>x=.fz (.bool QM)) (ρ:=[-(.list (ns.map .int)),lD,lD,lD,lD,lD,lD,lD]) rfl ?_;unfold uA;refine bU (x:=.fz (.tuple [bD b,.list (es.map cZ)])) (ω1:=[]) (ω2:=[]) (ρ1:=[-(.list (ns.map .int)),-(bD b),-(.list (es.map cZ)),lD,lD,lD,lD,lD]) (ag (eW (rv:=.fz (.tuple [bD b,.list (es.map cZ)])) (ds:=[.list (ns.map .int)]) (am (ah rfl) ay) rfl rfl eg)) rfl ?_;refine bU (x:=.rf 2) (ω1:=[.Te [],.lst [],.Te (kO kK 1)]) (ω2:=[.Te [],.lst [],.Te (kO kK 1)]) (ρ1:=[-(.list (ns.map .int)),-(bD b),-(.list (es.map cZ)),cL (.rf 2),lD,lD,lD,lD]) ((Fj (ω1:=[.Te [],.lst []]) (lA (k:=.inr "acts") (y:=.rf 0) (ω2:=[.Te []]) (ag (d:=.str "acts") aw) rfl rfl (lA (k:=.inr "waiting") (y:=.fz .none) (ag (d:=.str "waiting") aw) rfl (ag aw) (lA (k:=.inr "once") (y:=.fz .none) (ag (d:=.str "once") aw) rfl (ag aw) (lA (k:=.inr "sent") (y:=.rf 1) (ω2:=[.Te [],.lst []]) (ag (d:=.str "sent") aw) rfl (eE (ds:=[]) (by fail "ev")) Gr)))) (by decide)).trans (by rw[Mi];rfl)) rfl ?_;refine bU (x:=.fz (fu kK)) (ω1:=[.Te [],.lst [],.Te (kO kK 1)]) (ω2:=[.Te [],.lst [],.Te (kO kK 1)]) (ρ1:=EL ns b es kK lD lD lD) (ag (d:=fu kK) (show _=Res.ok (PV.fz (.tuple [.tuple [],.none,.none]),_) by fail "ev")) rfl ?_;refine kW (Bm (λi ρ ω=>∃(sn:Sn) (t:Nat) (P I A:bg SV),SX ((pF b kK (es.take i)).1,sn) t ω/\ρ=EL ns b es (pF b kK (es.take i)).1 P I A) (ds:=es.map cZ) (ω1:=[.Te [],.lst [],.Te (kO kK 1)]) (oJ (fL (ah rfl) rfl rfl)) ⟨[],1,lD,lD,lD,⟨⟨[],afZ,rfl⟩,rfl,rfl,by decide,by decide⟩,rfl⟩ ?_ ?_)
  .rintro i d ρ ω hi ⟨O,t0,P,I,A,Z,rfl⟩
   rw[Q5]at hi;cases q:es[i]? with
   |none=>rw[q]at hi;cases hi
   |some e=>
    rw[q]at hi;cases Ra hi;have G:=he e (RO q);have g:SW b (pF b kK (es.take i)).1:=xL v _ (GN b) λe h=>he e (XA h);obtain⟨n1,_⟩:=xD b es kK i e q;rw[n1];have m:=xK v g G;have r:=HA v g G;obtain⟨ω1,N,u⟩:=GJ v Z g G;have H:=λω:aW=>MN v (ω:=ω) g G;generalize ω.length=t at u;clear n1;generalize (pF b kK (es.take i)).1=s at N H g m r u Z⊢;generalize hp:cQ b s e=p at H m r u⊢;refine⟨EL ns b es s (-(cZ e)) I A,ω,rfl,?_⟩;refine dj (bj (xs:=[.fz (bD b),.rf 2,.fz (cZ e)]) (ai (ag (ah rfl)) (ai (aU rfl) (ai (ag (ah rfl)) az))) rfl N) ?_;obtain⟨f,Y⟩:∃f,f=ω1.length:=⟨_,rfl⟩;have lt1:=u.lt;have ltt:t<ω1.length:=(QU.mp u.sn).1;have c0:=H ω1;rw[<-Y]at c0;have M:(ω1++[Cell.lst ((p.2.map ja).map .fz)])[f]?=cL (.lst ((p.2.map ja).map .fz)):=by rw[Y];exact aM
    have F:=u.app [Cell.lst ((p.2.map ja).map .fz)];refine bU (x:=.tp [.rf f,.fz (fu p.1)]) (ω1:=ω1++[Cell.lst ((p.2.map ja).map .fz)]) (ρ1:=EL ns b es s (-(cZ e)) (cL (.tp [.rf f,.fz (fu p.1)])) A) (uy (xs:=[.fz (bD b),.fz (fu s),.fz (cZ e)]) (ai (ag (ah rfl)) (ai (ag (ah rfl)) (ai (ag (ah rfl)) az))) c0) rfl ?_;have f0:f≠0:=by ext
    have f2:f≠2:=by ext
    have ft:f≠t:=by ext
    clear c0 Y N;generalize ω1++[Cell.lst ((p.2.map ja).map .fz)]=ω2 at M F;have nn:=r8 (CP r);have X:∀{ω:aW} {o:bg SV},L10.iK (aq 6) (af (~~~0)) (EL ns b es s (-(cZ e)) (cL (.tp [.rf f,.fz (fu p.1)])) o) ω=.ok (.rf f) ω:=λ{ω o}=>xb (l:=[.rf f,.fz (fu p.1)]) (y:=.rf f) (i:=0) (aU rfl) (ag aw) rfl;have J:∀{ω:aW} {o:bg SV},L10.iK (aq 6) (af (~~~1)) (EL ns b es s (-(cZ e)) (cL (.tp [.rf f,.fz (fu p.1)])) o) ω=.ok (.fz (fu p.1)) ω:=λ{ω o}=>xb (l:=[.rf f,.fz (fu p.1)]) (y:=.fz (fu p.1)) (i:=1) (aU rfl) (ag aw) rfl;have w:mK 6 ω2 (.tp [.rf f,.fz (fu p.1)])=cL (.tuple [.list (p.2.map ja),fu p.1]):=pJ M;have S:de [.tuple [.list (p.2.map ja),fu p.1]]=-(.int 2):=rfl;have R:mY (.int 2) (.int 2)=-(.bool QP):=lO 2 2;refine dg (ω1:=ω2) (dE (j4 (b:=QM) (aA (AN (n:= "tuple") (t:= "tuple") (aU rfl) w rfl))) (dE (aA (bz (x:=.fz (.int 2)) (JV (xs:=[.tp [.rf f,.fz (fu p.1)]]) (ai (aU rfl) az) rfl (jc w) S rfl) (ag aw) (bi R))) (aA (bz (x:=.rf f) (y:=.rf t) X (tD F rfl) (p7 (fG M) (fG F.sn) nn))))) (cb ?_);have ac:=Bk (ρ:=EL ns b es s (-(cZ e)) (cL (.tp [.rf f,.fz (fu p.1)])) A) F rfl rfl;refine bU (x:=.fz (.tuple ((ei p.1.ac).map pD))) (ρ1:=EL ns b es s (-(cZ e)) (cL (.tp [.rf f,.fz (fu p.1)])) (-(.tuple ((ei p.1.ac).map pD)))) ac rfl ?_;have E:=(F.app [Cell.dead]).app [Cell.lst (((ei p.1.ac).map pD).map .fz)];have z:(ω2++[Cell.dead]++[Cell.lst (((ei p.1.ac).map pD).map .fz)])[f]?=cL (.lst ((p.2.map ja).map .fz)):=dL (dL M);clear ac w;generalize ω2++[Cell.dead]++[Cell.lst (((ei p.1.ac).map pD).map .fz)]=ω3 at E z;have Q:=r8 (Am m);refine dg (ω1:=ω3) (dE (j4 (b:=QM) (aA (AN (n:= "list") (t:= "list") X (AW 5 z) rfl))) (aA (bz (x:=.fz (fu p.1)) (y:=.fz (fu p.1)) J (mO (ds:=[.tuple ((ei p.1.ac).map pD),fm p.1.wt,kS p.1.oc]) (ai (ag (ah rfl)) (ai (eT E rfl) (ai (sg E rfl) az))) (QR rfl)) (bi Q)))) (cb ?_);obtain⟨a,ly,h4,C⟩:∃a,b6 [.rf 2] ω3=.ok (.fz (.int (gR p.1.ac p.1.oc))) a/\SX p t a/\a[f]?=cL (.lst ((p.2.map ja).map .fz)):=by obtain⟨a,y1,K,rfl⟩:=yk v E m.sa;exact⟨_,y1,E.app K,dL z⟩
    have lo:=oV p.1;have nl:mY (.int (gR p.1.ac p.1.oc)) (.int (gR p.1.ac p.1.oc))=-(.bool QP):=(lO _ _).trans (by rw[a4 rfl];rfl);refine dg (ω1:=a) (aA (bz (x:=.fz (.int (gR p.1.ac p.1.oc))) (sY (ds:=[fu p.1]) (ai J az) rfl lo) (bj (xs:=[.rf 2]) (ai (aU rfl) az) rfl ly) (bi nl))) (cb ?_);have sl:(p.2.map ja).length<1000000:=by rw[QQ];have:=BI v g G;rw[hp]at this;ext
    refine dj (x:=.fz .none) (tJ (i:=f) (x:=.fz .none) X C (ag aw) C (by rw[QQ];exact sl)) ?_;have h5:=h4.aeb (j:=f) (c:=.lst ((p.2.map ja).map .fz++[.fz .none])) f0 f2 ft;generalize a.set f (.lst ((p.2.map ja).map .fz++[.fz .none]))=ω5 at h5;have c5:=H ω5;have L:=h5.app [Cell.lst ((p.2.map ja).map .fz)];have YW:(ω5++[Cell.lst ((p.2.map ja).map .fz)])[ω5.length]?=cL (.lst ((p.2.map ja).map .fz)):=aM;generalize ω5++[Cell.lst ((p.2.map ja).map .fz)]=ω6 at c5 L YW;refine dg (ω1:=ω6) (aA (bz (x:=.tp [.rf ω5.length,.fz (fu p.1)]) (y:=.tp [.rf t,.fz (fu p.1)]) (uy (xs:=[.fz (bD b),.fz (fu s),.fz (cZ e)]) (ai (ag (ah rfl)) (ai (ag (ah rfl)) (ai (ag (ah rfl)) az))) c5) (Ib (xs:=[.rf t,.fz (fu p.1)]) (ai (tD L rfl) (ai J az)) (QR rfl) rfl rfl) (LH (.inl rfl) (pJ YW) (pJ L.sn) (r8 (two_ok m r)) rfl))) (cb ?_);exact Ar (x:=.fz (fu p.1)) (ρ1:=EL ns b es p.1 (-(cZ e)) (cL (.tp [.rf f,.fz (fu p.1)])) (-(.tuple ((ei p.1.ac).map pD)))) J rfl ⟨p.2,t,_,_,_,L,rfl⟩
  .rintro ρ ω ⟨O,t0,P,I,A,Z,rfl⟩;exact mJ (ag aw) rfl
 obtain⟨x,B,u,rfl⟩:=U;unfold L10.N4;rw[show([QO.list (ns.map .int)].map SV.fz)=[.fz (.list (ns.map .int))]from rfl,u]
end K35
namespace K35
open PySem L2 L3 L10 STP CC
set_option synthInstance.maxHeartbeats 400000
set_option synthInstance.maxSize 4000
def top(i:Nat):Tb:=PySem.Challenge.pw_chordbed_k35_whole_step_by_step.main.body.getD i (.Pass ⟨0,0,0,0⟩)
def TB:bb Fd:=[kC 1 "layer_of" ["standing"] 1 dh,
 kC 1 "looked_up" ["bed","layer","key"] 3 iG,
 kC 1 "chords_over" ["bed","keys"] 2 bG,
 kC 1 "chord_acts" ["bed","keys"] 2 fE,
 kC 1 "_law_cell" ["_law_script","_law_k"] 2 bB,
 kC 1 "_law_draw" ["_law_cell_here","_law_salt","_law_many"] 3 bp,
 kC 2 "_law_meaning" ["_law_cell_here","_law_layer_here","_law_layers"] 3 dU,
 kC 2 "_law_chords" ["_law_script","_law_at","_law_first"] 3 fX,
 kC 3 "_law_bed" ["_law_script","_law_most"] 2 jl,
 kC 1 "_law_read_meaning" ["_law_number","_law_layer_here","_law_layers"] 3 cS,
 kC 2 "_law_read_bed" ["_law_number","_law_most_keys","_law_most_layers","_law_most_wait"] 4 eO,
 kC 1 "_law_read_events" ["_law_number","_law_keys"] 2 cx,
 kC 2 "_law_events" ["_law_script","_law_at","_law_keys"] 3 eG,
 kC 4 "_law_given" ["_law_script"] 1 gW,
 PJ 3 "Hand" ["self","bed","standing"] 3 dA,
 yL QP 3 "Hand" "stands" ["self"] 1 bH,
 yL QP 3 "Hand" "is_waiting" ["self","key"] 2 b8,
 yL QP 3 "Hand" "has_act" ["self","act"] 2 bJ,
 yL QP 4 "Hand" "come" ["self","key","act"] 3 bx,
 yL QP 4 "Hand" "go" ["self","key"] 2 iX,
 yL QP 5 "Hand" "decide" ["self"] 1 cO,
 yL QP 4 "Hand" "makes_chord" ["self","key"] 2 df,
 yL QP 6 "Hand" "put_to_chord" ["self","key"] 2 cU,
 yL QP 5 "Hand" "begin" ["self","key"] 2 fO,
 yL QP 7 "Hand" "press" ["self","key"] 2 gX,
 yL QP 6 "Hand" "settle" ["self","key"] 2 fW,
 yL QP 7 "Hand" "lift" ["self","key"] 2 iy,
 yL QP 6 "Hand" "wait_on" ["self"] 1 fC,
 nQ 8 "step" ["bed","standing","event"] 3 STP.mq,
 nQ 3 "_law_layer" ["_law_spot"] 1 b6,
 nQ 3 "_law_come" ["_law_spot","_law_key","_law_act"] 3 bT,
 nQ 3 "_law_go" ["_law_spot","_law_key"] 2 g8,
 nQ 4 "_law_decided" ["_law_bed_here","_law_spot"] 2 cy,
 nQ 5 "_law_joined" ["_law_bed_here","_law_spot","_law_key"] 3 fY,
 nQ 6 "_law_down" ["_law_bed_here","_law_spot","_law_key"] 3 iH,
 nQ 3 "_law_held" ["_law_spot","_law_key"] 2 dX,
 nQ 5 "_law_turn" ["_law_bed_here","_law_spot"] 2 im,
 nQ 7 "_law_step" ["_law_bed_here","_law_spot","_law_event"] 3 ij]
def MD:Md:=⟨["max","all","list","sorted","len","range","tuple","abs","dict","zip","int","any","isinstance"],[],[("NONE",(.tuple [(.str "none")])),("CHORD",(.tuple [(.str "chord")]))],[("Hand",["bed","acts","waiting","once","sent"])]⟩
noncomputable instance:Fn TB kC dh 1:=⟨0,1,"layer_of",["standing"],rfl⟩
noncomputable instance:Fn TB kC iG 3:=⟨1,1,"looked_up",["bed","layer","key"],rfl⟩
noncomputable instance:Fn TB kC bG 2:=⟨2,1,"chords_over",["bed","keys"],rfl⟩
noncomputable instance:Fn TB kC fE 2:=⟨3,1,"chord_acts",["bed","keys"],rfl⟩
noncomputable instance:Fn TB kC bB 2:=⟨4,1,"_law_cell",["_law_script","_law_k"],rfl⟩
noncomputable instance:Fn TB kC bp 3:=⟨5,1,"_law_draw",["_law_cell_here","_law_salt","_law_many"],rfl⟩
noncomputable instance:Fn TB kC dU 3:=⟨6,2,"_law_meaning",["_law_cell_here","_law_layer_here","_law_layers"],rfl⟩
noncomputable instance:Fn TB kC fX 3:=⟨7,2,"_law_chords",["_law_script","_law_at","_law_first"],rfl⟩
noncomputable instance:Fn TB kC jl 2:=⟨8,3,"_law_bed",["_law_script","_law_most"],rfl⟩
noncomputable instance:Fn TB kC cS 3:=⟨9,1,"_law_read_meaning",["_law_number","_law_layer_here","_law_layers"],rfl⟩
noncomputable instance:Fn TB kC eO 4:=⟨10,2,"_law_read_bed",["_law_number","_law_most_keys","_law_most_layers","_law_most_wait"],rfl⟩
noncomputable instance:Fn TB kC cx 2:=⟨11,1,"_law_read_events",["_law_number","_law_keys"],rfl⟩
noncomputable instance:Fn TB kC eG 3:=⟨12,2,"_law_events",["_law_script","_law_at","_law_keys"],rfl⟩
noncomputable instance:Fn TB kC gW 1:=⟨13,4,"_law_given",["_law_script"],rfl⟩
noncomputable instance:FK TB "Hand" dA 3:=⟨14,3,["self","bed","standing"],rfl⟩
noncomputable instance:FM TB QP "Hand" "stands" bH 1:=⟨15,3,["self"],rfl⟩
noncomputable instance:FM TB QP "Hand" "is_waiting" b8 2:=⟨16,3,["self","key"],rfl⟩
noncomputable instance:FM TB QP "Hand" "has_act" bJ 2:=⟨17,3,["self","act"],rfl⟩
noncomputable instance:FM TB QP "Hand" "come" bx 3:=⟨18,4,["self","key","act"],rfl⟩
noncomputable instance:FM TB QP "Hand" "go" iX 2:=⟨19,4,["self","key"],rfl⟩
noncomputable instance:FM TB QP "Hand" "decide" cO 1:=⟨20,5,["self"],rfl⟩
noncomputable instance:FM TB QP "Hand" "makes_chord" df 2:=⟨21,4,["self","key"],rfl⟩
noncomputable instance:FM TB QP "Hand" "put_to_chord" cU 2:=⟨22,6,["self","key"],rfl⟩
noncomputable instance:FM TB QP "Hand" "begin" fO 2:=⟨23,5,["self","key"],rfl⟩
noncomputable instance:FM TB QP "Hand" "press" gX 2:=⟨24,7,["self","key"],rfl⟩
noncomputable instance:FM TB QP "Hand" "settle" fW 2:=⟨25,6,["self","key"],rfl⟩
noncomputable instance:FM TB QP "Hand" "lift" iy 2:=⟨26,7,["self","key"],rfl⟩
noncomputable instance:FM TB QP "Hand" "wait_on" fC 1:=⟨27,6,["self"],rfl⟩
noncomputable instance:Fn TB nQ STP.mq 3:=⟨28,8,"step",["bed","standing","event"],rfl⟩
noncomputable instance:Fn TB nQ b6 1:=⟨29,3,"_law_layer",["_law_spot"],rfl⟩
noncomputable instance:Fn TB nQ bT 3:=⟨30,3,"_law_come",["_law_spot","_law_key","_law_act"],rfl⟩
noncomputable instance:Fn TB nQ g8 2:=⟨31,3,"_law_go",["_law_spot","_law_key"],rfl⟩
noncomputable instance:Fn TB nQ cy 2:=⟨32,4,"_law_decided",["_law_bed_here","_law_spot"],rfl⟩
noncomputable instance:Fn TB nQ fY 3:=⟨33,5,"_law_joined",["_law_bed_here","_law_spot","_law_key"],rfl⟩
noncomputable instance:Fn TB nQ iH 3:=⟨34,6,"_law_down",["_law_bed_here","_law_spot","_law_key"],rfl⟩
noncomputable instance:Fn TB nQ dX 2:=⟨35,3,"_law_held",["_law_spot","_law_key"],rfl⟩
noncomputable instance:Fn TB nQ im 2:=⟨36,5,"_law_turn",["_law_bed_here","_law_spot"],rfl⟩
noncomputable instance:Fn TB nQ ij 3:=⟨37,7,"_law_step",["_law_bed_here","_law_spot","_law_event"],rfl⟩
noncomputable instance k0:CS TB (so ic):=by delta ic;infer_instance
theorem e0:a9 TB (so ic) MD ["standing"] ["standing"] (top 3) 0 0 QP=QM:=by left
noncomputable instance k1:CS TB (so gu):=by delta gu;infer_instance
theorem e1:a9 TB (so gu) MD ["bed","layer","key","meaning"] ["bed","layer","key"] (top 6) 0 1 QP=QM:=by left
noncomputable instance k2:CS TB (so eF):=by delta eF;infer_instance
theorem e2:a9 TB (so eF) MD ["bed","keys"] ["bed","keys"] (top 7) 0 2 QP=QM:=by left
noncomputable instance k3:CS TB (so fH):=by delta fH;infer_instance
theorem e3:a9 TB (so fH) MD ["bed","keys","chord"] ["bed","keys"] (top 8) 0 3 QP=QM:=by left
noncomputable instance k4:CS TB (so ip):=by delta ip;infer_instance
theorem e4:a9 TB (so ip) MD ["_law_script","_law_k"] ["_law_script","_law_k"] (top 10) 0 4 QP=QM:=by left
noncomputable instance k5:CS TB (so iw):=by delta iw;infer_instance
theorem e5:a9 TB (so iw) MD ["_law_cell_here","_law_salt","_law_many","_law_number"] ["_law_cell_here","_law_salt","_law_many"] (top 11) 0 5 QP=QM:=by left
noncomputable instance k6:CS TB (so c8):=by delta c8;infer_instance
theorem e6:a9 TB (so c8) MD ["_law_cell_here","_law_layer_here","_law_layers","_law_letter","_law_other","_law_kind"] ["_law_cell_here","_law_layer_here","_law_layers"] (top 12) 1 6 QP=QM:=by left
noncomputable instance k7:CS TB (so dH):=by delta dH;infer_instance
theorem e7:a9 TB (so dH) MD ["_law_script","_law_at","_law_first","_law_some","_law_found","_law_k","_law_cell_here","_law_keys"] ["_law_script","_law_at","_law_first"] (top 13) 1 7 QP=QM:=by left
noncomputable instance k8:CS TB (so fU):=by delta fU;infer_instance
theorem e8:a9 TB (so fU) MD ["_law_script","_law_most","_law_cell_here","_law_keys","_law_layers","_law_rows","_law_layer_here","_law_cells"] ["_law_script","_law_most"] (top 14) 2 8 QP=QM:=by left
noncomputable instance k9:CS TB (so bR):=by delta bR;infer_instance
theorem e9:a9 TB (so bR) MD ["_law_number","_law_layer_here","_law_layers","_law_letter","_law_other"] ["_law_number","_law_layer_here","_law_layers"] (top 16) 0 9 QP=QM:=by left
noncomputable instance k10:CS TB (so cK):=by delta cK;infer_instance
theorem Ql:a9 TB (so cK) MD ["_law_number","_law_most_keys","_law_most_layers","_law_most_wait","_law_keys","_law_layers","_law_wait","_law_rows","_law_layer_here","_law_row","_law_key","_law_chords_here","_law_k","_law_some"] ["_law_number","_law_most_keys","_law_most_layers","_law_most_wait"] (top 17) 1 10 QP=QM:=by left
noncomputable instance k11:CS TB (so bW):=by delta bW;infer_instance
theorem Qn:a9 TB (so bW) MD ["_law_number","_law_keys","_law_found","_law_many","_law_k","_law_pick"] ["_law_number","_law_keys"] (top 18) 0 11 QP=QM:=by left
noncomputable instance k12:CS TB (so dG):=by delta dG;infer_instance
theorem Qf:a9 TB (so dG) MD ["_law_script","_law_at","_law_keys","_law_found","_law_cell_here","_law_pick"] ["_law_script","_law_at","_law_keys"] (top 15) 1 12 QP=QM:=by left
noncomputable instance k13:CS TB (so d4):=by delta d4;infer_instance
theorem Qj:a9 TB (so d4) MD ["_law_script","_law_bed_here"] ["_law_script"] (top 19) 3 13 QP=QM:=by left
noncomputable instance k14:CS TB (dB eN):=by delta eN;infer_instance
theorem QE:a9 TB (dB eN) MD ["self","bed","standing"] ["self","bed","standing"] (bh (top 5) 0) 2 14 QP=QM:=by left
noncomputable instance k15:CS TB (dB gi):=by delta gi;infer_instance
theorem Qd:a9 TB (dB gi) MD ["self"] ["self"] (bh (top 5) 1) 2 15 QP=QM:=by left
noncomputable instance k16:CS TB (dB dP):=by delta dP;infer_instance
theorem P6:a9 TB (dB dP) MD ["self","key"] ["self","key"] (bh (top 5) 2) 2 16 QP=QM:=by left
noncomputable instance k17:CS TB (dB fy):=by delta fy;infer_instance
theorem QK:a9 TB (dB fy) MD ["self","act"] ["self","act"] (bh (top 5) 13) 2 17 QP=QM:=by left
noncomputable instance k18:CS TB (dB iE):=by delta iE;infer_instance
theorem Qs:a9 TB (dB iE) MD ["self","key","act"] ["self","key","act"] (bh (top 5) 11) 3 18 QP=QM:=by left
noncomputable instance k19:CS TB (dB j6):=by delta j6;infer_instance
theorem Qe:a9 TB (dB j6) MD ["self","key","act"] ["self","key"] (bh (top 5) 12) 3 19 QP=QM:=by left
noncomputable instance k20:CS TB (dB gb):=by delta gb;infer_instance
theorem Qg:a9 TB (dB gb) MD ["self","keys","what","acts","key","act"] ["self"] (bh (top 5) 10) 4 20 QP=QM:=by left
noncomputable instance k21:CS TB (dB dk):=by delta dk;infer_instance
theorem Qu:a9 TB (dB dk) MD ["self","key"] ["self","key"] (bh (top 5) 4) 3 21 QP=QM:=by left
noncomputable instance k22:CS TB (dB cV):=by delta cV;infer_instance
theorem QC:a9 TB (dB cV) MD ["self","key","keys"] ["self","key"] (bh (top 5) 5) 5 22 QP=QM:=by left
noncomputable instance k23:CS TB (dB gU):=by delta gU;infer_instance
theorem QB:a9 TB (dB gU) MD ["self","key","layer","meaning","word"] ["self","key"] (bh (top 5) 6) 4 23 QP=QM:=by left
noncomputable instance k24:CS TB (dB gZ):=by delta gZ;infer_instance
theorem QJ:a9 TB (dB gZ) MD ["self","key"] ["self","key"] (bh (top 5) 3) 6 24 QP=QM:=by left
noncomputable instance k25:CS TB (dB gf):=by delta gf;infer_instance
theorem Qz:a9 TB (dB gf) MD ["self","key","what"] ["self","key"] (bh (top 5) 8) 5 25 QP=QM:=by left
noncomputable instance k26:CS TB (dB ir):=by delta ir;infer_instance
theorem P3:a9 TB (dB ir) MD ["self","key"] ["self","key"] (bh (top 5) 7) 6 26 QP=QM:=by left
noncomputable instance k27:CS TB (dB fD):=by delta fD;infer_instance
theorem QF:a9 TB (dB fD) MD ["self","age"] ["self"] (bh (top 5) 9) 5 27 QP=QM:=by left
noncomputable instance k28:CS TB (dB STP.rS):=by delta STP.rS;infer_instance
theorem Qm:a9 TB (dB STP.rS) MD ["bed","standing","event","hand"] ["bed","standing","event"] (top 4) 7 28 QP=QM:=by left
noncomputable instance k29:CS TB (dB fF):=by delta fF;infer_instance
theorem Qa:a9 TB (dB fF) MD ["_law_spot"] ["_law_spot"] (top 20) 2 29 QP=QM:=by left
noncomputable instance k30:CS TB (dB gv):=by delta gv;infer_instance
theorem Qi:a9 TB (dB gv) MD ["_law_spot","_law_key","_law_act"] ["_law_spot","_law_key","_law_act"] (top 21) 2 30 QP=QM:=by left
noncomputable instance k31:CS TB (dB iQ):=by delta iQ;infer_instance
theorem Qh:a9 TB (dB iQ) MD ["_law_spot","_law_key","_law_act"] ["_law_spot","_law_key"] (top 22) 2 31 QP=QM:=by left
noncomputable instance k32:CS TB (dB dY):=by delta dY;infer_instance
theorem P4:a9 TB (dB dY) MD ["_law_bed_here","_law_spot","_law_keys","_law_age","_law_what","_law_letters","_law_k"] ["_law_bed_here","_law_spot"] (top 23) 3 32 QP=QM:=by left
noncomputable instance k33:CS TB (dB eK):=by delta eK;infer_instance
theorem Qt:a9 TB (dB eK) MD ["_law_bed_here","_law_spot","_law_key","_law_keys","_law_age","_law_what","_law_wanted","_law_around"] ["_law_bed_here","_law_spot","_law_key"] (top 24) 4 33 QP=QM:=by left
noncomputable instance k34:CS TB (dB gp):=by delta gp;infer_instance
theorem Qp:a9 TB (dB gp) MD ["_law_bed_here","_law_spot","_law_key","_law_layer_here","_law_meaning_here"] ["_law_bed_here","_law_spot","_law_key"] (top 25) 5 34 QP=QM:=by left
noncomputable instance k35:CS TB (dB iq):=by delta iq;infer_instance
theorem J7:a9 TB (dB iq) MD ["_law_spot","_law_key"] ["_law_spot","_law_key"] (top 26) 2 35 QP=QM:=by left
noncomputable instance k36:CS TB (dB gr):=by delta gr;infer_instance
theorem NG:a9 TB (dB gr) MD ["_law_bed_here","_law_spot","_law_keys","_law_age","_law_what"] ["_law_bed_here","_law_spot"] (top 27) 4 36 QP=QM:=by left
noncomputable instance k37:CS TB (dB gj):=by delta gj;infer_instance
theorem Qx:a9 TB (dB gj) MD ["_law_bed_here","_law_spot","_law_event","_law_word","_law_key","_law_what"] ["_law_bed_here","_law_spot","_law_event"] (top 28) 6 37 QP=QM:=by left
noncomputable instance k38:CS TB (dB uA):=by delta uA;infer_instance
theorem Qo:a9 TB (dB uA) MD ["_law_script","_law_bed_here","_law_events_here","_law_spot","_law_standing","_law_event","_law_found","_law_acts"] ["_law_script"] (top 29) 8 38 QP=QM:=by left
end K35
theorem Pk{α:Type}:∀{l:bb α},l.length=1->∃a,l=[a]
 |[a],_=>⟨a,rfl⟩
theorem OM{α:Type}:∀{l:bb α},l.length=2->∃a b,l=[a,b]
 |[a,b],_=>⟨a,b,rfl⟩
theorem PL{α:Type}:∀{l:bb α},l.length=3->∃a b c,l=[a,b,c]
 |[a,b,c],_=>⟨a,b,c,rfl⟩
theorem QH{α:Type}:∀{l:bb α},l.length=4->∃a b c d,l=[a,b,c,d]
 |[a,b,c,d],_=>⟨a,b,c,d,rfl⟩
local macro_rules| `(tactic|fail "ba")=> `(tactic|(intro _ _ _ _ _ _ us hl;first|(obtain⟨_,h⟩:=Pk hl;subst h;kernel_rfl)|(obtain⟨_,_,h⟩:=OM hl;subst h;kernel_rfl)|(obtain⟨_,_,_,h⟩:=PL hl;subst h;kernel_rfl)|(obtain⟨_,_,_,_,h⟩:=QH hl;subst h;kernel_rfl)|(match us,hl with|[_,_,_,_,_],_=>rfl)|(match us,hl with|[_,_,_,_,_,_],_=>rfl)|(match us,hl with|[],_=>rfl)))| `(tactic|fail "fl")=> `(tactic|first|exact List.forall_mem_nil _|(refine List.forall_mem_cons.mpr ⟨?_,?_⟩;(·first|(show RN _ _ _=_;k_is)|(show RA _ _ _=_;k_is));fail "fl"))| `(tactic|fail "ki")=> `(tactic|first|(refine' L3.NI.mk ?a' ⟨_,L2.C6 ?b' ?c' ?d'⟩;(case a'=>k_is);(case b'=>k_is);(case c'=>k_is);(case d'=>k_is))|(refine' L3.MI.mk ?a' ?e' ⟨_,L2.C6 ?b' ?c' ?d'⟩;(case a'=>k_is);(case e'=>k_is);(case b'=>k_is);(case c'=>k_is);(case d'=>k_is))|(refine' L3.CI.mk ?a' ?b' ?c' ?d' ?e' ?f' ?g' ?i';(case a'=>k_is);(case b'=>k_is);(case c'=>k_is);(case d'=>k_is);(case e'=>k_is);(case f'=>k_is);(case g'=>k_is);(case i'=>fail "fl"))|(refine' L3.DI.mk ?a' ⟨_,L3.acp ?b' ?c' ?d' ?e'⟩;(case a'=>k_is);(case b'=>k_is);(case c'=>k_is);(case d'=>k_is);(case e'=>k_is))|k_is|k_exc|rfl|fail "fl"|left|(rw[<-Array.all_toList];rfl))
namespace K35
open PySem L2 L3 CC
def F_lawH:FN:=L10.N4 F_law
theorem all_mk{l:X2}{w:Rr}{K:Bn}{h:Heap}{mg:Str->bg QN}{fa:QT}
  {Yu:Tok}
  {Yw:QT} {Y9:Nat} {Zf:Array (bg QN)}
  {XX:Tok}
  {XD:QT} {YI:Nat} {Yr:Array (bg QN)}
  {f0 f1 f2 f3 f4 f5 f6 f7 f8 f9 f10 f11 f12 f13 f14 f15 f16 f17 f18 f19 f20 f21 f22 f23 f24 d f26 f27 f28 f29 f30 f31 f32 f33 f34 f35 f36 f37 f38 f39:QT} (X:K.In h) (G:h.Ns Rk mg) (Z:mg "law"=cL (.ref fa))
  (h0:NI K f0 "layer_of" (top 3))
  (h1:NI K f1 "looked_up" (top 6))
  (h2:NI K f2 "chords_over" (top 7))
  (h3:NI K f3 "chord_acts" (top 8))
  (h4:NI K f4 "_law_cell" (top 10))
  (h5:NI K f5 "_law_draw" (top 11))
  (h6:NI K f6 "_law_meaning" (top 12))
  (h7:NI K f7 "_law_chords" (top 13))
  (h8:NI K f8 "_law_bed" (top 14))
  (h9:NI K f9 "_law_read_meaning" (top 16))
  (h10:NI K f10 "_law_read_bed" (top 17))
  (h11:NI K f11 "_law_read_events" (top 18))
  (h12:NI K f12 "_law_events" (top 15))
  (h13:NI K f13 "_law_given" (top 19))
  (h14:NI K f14 "step" (top 4))
  (h15:NI K f15 "_law_layer" (top 20))
  (h16:NI K f16 "_law_come" (top 21))
  (h17:NI K f17 "_law_go" (top 22))
  (h18:NI K f18 "_law_decided" (top 23))
  (h19:NI K f19 "_law_joined" (top 24))
  (h20:NI K f20 "_law_down" (top 25))
  (h21:NI K f21 "_law_held" (top 26))
  (h22:NI K f22 "_law_turn" (top 27))
  (h23:NI K f23 "_law_step" (top 28))
  (h24:NI K f24 "law" (top 29))
  (b:CI K d "Hand" ["bed","acts","waiting","once","sent"])
  (h26:MI K d f26 "__init__" "Hand.__init__" (bh (top 5) 0))
  (h27:MI K d f27 "stands" "Hand.stands" (bh (top 5) 1))
  (h28:MI K d f28 "is_waiting" "Hand.is_waiting" (bh (top 5) 2))
  (h29:MI K d f29 "has_act" "Hand.has_act" (bh (top 5) 13))
  (h30:MI K d f30 "come" "Hand.come" (bh (top 5) 11))
  (h31:MI K d f31 "go" "Hand.go" (bh (top 5) 12))
  (h32:MI K d f32 "decide" "Hand.decide" (bh (top 5) 10))
  (h33:MI K d f33 "makes_chord" "Hand.makes_chord" (bh (top 5) 4))
  (h34:MI K d f34 "put_to_chord" "Hand.put_to_chord" (bh (top 5) 5))
  (h35:MI K d f35 "begin" "Hand.begin" (bh (top 5) 6))
  (h36:MI K d f36 "press" "Hand.press" (bh (top 5) 3))
  (h37:MI K d f37 "settle" "Hand.settle" (bh (top 5) 8))
  (h38:MI K d f38 "lift" "Hand.lift" (bh (top 5) 7))
  (h39:MI K d f39 "wait_on" "Hand.wait_on" (bh (top 5) 9))
  (Zk:RA K Rk "NONE"=cL (cL (.ref Yw)))
  (Yp:RA K Rk "CHORD"=cL (cL (.ref XD)))
  (Yy:K.lookup XD=cL ⟨.type "tuple",lD,.seq #[.str "chord" XX] YI,Yr⟩)
  (Zh:K.lookup Yw=cL ⟨.type "tuple",lD,.seq #[.str "none" Yu] Y9,Zf⟩)
  (yb:∀x∈MD.bl,RA K Rk x=cL lD):
  ∃fd:Sl,(∀(s:QS) (v:QN),Vz s fd ⟨[v],[]⟩ [("_law_script",v)])/\∀base:Heap,K.In base->base.Ns Rk mg->FnOk l.prog w K mg base l9 9 fa fd ["_law_script"] (L3.zP K 1 F_lawH):=by
 have ZM:=Ni (xs:=[.str "none"]) (ds:=[(.str "none")]) Zh (by show 1<=Q3;decide) (.cons ⟨_,rfl⟩ .nil) λO H=>(.cons (.str _) .nil);have Ze:=Ni (xs:=[.str "chord"]) (ds:=[(.str "chord")]) Yy (by show 1<=Q3;decide) (.cons ⟨_,rfl⟩ .nil) λO H=>(.cons (.str _) .nil);refine h24.law X G Z (by fail "ba") λbase fd aah=>?_;have W:Tp l.prog w K mg base h:=⟨X,G⟩;have a:Yo K mg MD:=⟨λx hx=>PySem.W.mg_none_of X G (yb x hx),P5,(P2 (PU (Um X G Zk) ZM) (P2 (PU (Um X G Yp) Ze) Qw)),(Qb b.cf Qk)⟩;have s0:=Qy (T:=TB) (P:=l.prog) (w:=w) (K:=K) (mg:=mg) (base:=base);have s1:=jx s0 rfl (h0.c W λ_ z=>lV a s0 z e0);have s2:=jx s1 rfl (h1.c W λ_ z=>lV a s1 z e1);have s3:=jx s2 rfl (h2.c W λ_ z=>lV a s2 z e2);have s4:=jx s3 rfl (h3.c W λ_ z=>lV a s3 z e3);have s5:=jx s4 rfl (h4.c W λ_ z=>lV a s4 z e4);have s6:=jx s5 rfl (h5.c W λ_ z=>lV a s5 z e5);have s7:=jx s6 rfl (h6.c W λ_ z=>lV a s6 z e6);have s8:=jx s7 rfl (h7.c W λ_ z=>lV a s7 z e7);have s9:=jx s8 rfl (h8.c W λ_ z=>lV a s8 z e8);have U:=jx s9 rfl (h9.c W λ_ z=>lV a s9 z e9);have S:=jx U rfl (h10.c W λ_ z=>lV a U z Ql);have R:=jx S rfl (h11.c W λ_ z=>lV a S z Qn);have Q:=jx R rfl (h12.c W λ_ z=>lV a R z Qf);have N:=jx Q rfl (h13.c W λ_ z=>lV a Q z Qj);have M:=jx N rfl (h26.k b W λ_ z=>gy a N z QE);have L:=jx M rfl (h27.mt b W λ_ z=>gy a M z Qd);have J:=jx L rfl (h28.mt b W λ_ z=>gy a L z P6);have I:=jx J rfl (h29.mt b W λ_ z=>gy a J z QK);have F:=jx I rfl (h30.mt b W λ_ z=>gy a I z Qs);have E:=jx F rfl (h31.mt b W λ_ z=>gy a F z Qe);have C:=jx E rfl (h32.mt b W λ_ z=>gy a E z Qg);have B:=jx C rfl (h33.mt b W λ_ z=>gy a C z Qu);have A:=jx B rfl (h34.mt b W λ_ z=>gy a B z QC);have y:=jx A rfl (h35.mt b W λ_ z=>gy a A z QB);have u:=jx y rfl (h36.mt b W λ_ z=>gy a y z QJ);have t:=jx u rfl (h37.mt b W λ_ z=>gy a u z Qz);have r:=jx t rfl (h38.mt b W λ_ z=>gy a t z P3);have q:=jx r rfl (h39.mt b W λ_ z=>gy a r z QF);have p:=jx q rfl (h14.c W λ_ z=>gy a q z Qm);have o:=jx p rfl (h15.c W λ_ z=>gy a p z Qa);have n:=jx o rfl (h16.c W λ_ z=>gy a o z Qi);have m:=jx n rfl (h17.c W λ_ z=>gy a n z Qh);have j:=jx m rfl (h18.c W λ_ z=>gy a m z P4);have i:=jx j rfl (h19.c W λ_ z=>gy a j z Qt);have g:=jx i rfl (h20.c W λ_ z=>gy a i z Qp);have f:=jx g rfl (h21.c W λ_ z=>gy a g z J7);have e:=jx f rfl (h22.c W λ_ z=>gy a f z NG);have Y:=jx e rfl (h23.c W λ_ z=>gy a e z Qx);exact(gy a Y aah Qo).imp λ_ _ _ _ h=>L10.KM h
end K35
inductive PySem.W.Fast|tw16713900353559480520|tw12548597858569758288|tw17142419130844656304|tw13276711355602193933|tw9464469846869106646|tw5333472770431609276|tw1373279531480485676|tw2195681763401780749|tw10256842748994716492|tw5098771107784354070|tw4828133848456271484|tw9043265481122655994|tw584326463866627431|tw12633611255709797263|tw1330943688308182618|tw8326585044842552655|tw16232357464001263951|tw17644701674657734129|tw10618401434253951298|tw13119010159739931556|tw3246434445069880429|tw335593820139021301|tw2605482106154724727|tw4442049513819923721|tw2224801602773765987|tw11097082946297433102|tw1653984504890653424|tw11617533948439368467|tw12816891718507860576|tw10770666163835064983|tw16316479073155547057|tw6397175980968712015|tw5588120250042227410|tw376252813607797554|tw4664562556017698410|tw13456525263082854507|tw411833435668350563|tw9099620533660067580|tw17411913445488591193|tw10056418083633794051|tw8755168961605850694|tw3912073042589867556|tw6915843557347124608|tw4761888364265174461|tw738494449349490287|tw12093095583224116006|tw12627545922149813215|tw16684943501270995663|tw15903310505218029318|tw7668625755947930184|tw7900182241042664141|tw11731368947280168751|tw11946541567286667453|tw3753628113036919892|tw7721861803152282031|tw7169447849743398339|tw5567436283078705899|tw9108853611762178229|tw18004333618534818606|tw5913950830249440920|tw4464346338411202330|tw1443374535981875690|tw16287177376973204844|tw13912447390900917615|tw4433579061114120631|tw15104532324866439424|tw5367196267755259987|tw10483709686981003192|tw7894032658745660223|tw1589643773158984442|tw8752337114655214965|tw6202649477741182760|tw2114317177019681616|tw10365361601976288257|tw18126332819701912005|tw2834793496097594136|tw18424003468984977060|tw5175303797613414828|tw1905307925560378718|tw10393741348762315333|tw6885223713061966358|tw88899359344380429|tw4902941225121256630|tw10967214857432710918|tw12318251728874865714|tw9127555330697008224|tw8702978385730440217|tw7729049958383074868|tw16711998112448764603|tw6144220024249485661|tw3458895403309859306|tw6520748355991682758|tw17196298071973670243|tw17999735355873017085|tw14849266552415221373|tw14596976041822348313|tw10582772724440698092|tw5768693359395344380|tw4468307124633233137|tw17074809073805927496|tw3428391469550621574|tw1219380561237131668|tw3134835299806184272|tw13428117290878885182|tw6740929487143560399|tw6499693065012786192|tw13791794809851837672|tw6648139245245721467|tw5213686099550717676|tw7181268067469344733|tw8667565267195938163|tw9044418976951087555|tw9230683801442346156|tw5154926137542888294|tw10520510953348287237|tw5403385331043427490|tw8365794232025653748|tw7194810904991255488|tw3820880958350618737|tw3512756382978978290|tw15409254670122979607|tw12967609335105255165|tw2740650059015033432|tw13468030077721974588|tw13962283160752113579|tw12927782284808542331|tw2955431053173670865|tw15462891872598966438|tw11506560101738953524|tw15122530352466873293|tw15980480010457504057|tw2851180791152764420|tw18362931250603174491|tw9204678436740012785|tw8706349696702001342|tw793766529487915194|tw7764377746248462374|tw7001163837868492476|tw12586375077272994938|tw16673715591944640762|tw15862824566057911423|tw5023434357936777464|tw134644552513441664|tw17968400957591710780|tw6866557056347943063|tw15835298470900206597|tw9271040180636688852|tw2774842848785229931|tw14741166205957340709|tw5276695810350189220|tw10419316964591942944|tw2735357633870453916|tw5294335942597807731|tw14045622567650298336|tw12272776294468126000|tw18419522145929785517|tw3612808402802619872|tw4034788366693405608|tw16874476803357008637|tw7391271498665209530|tw17546943282181182443|tw12161494976661456908|tw4910952731036137003|tw16425552334947701633|tw15654982148314720895|tw14170697090955832798|tw6602579454187654187|tw6485846273804599263|tw5686454032569405250|tw2347596055939135436|tw2212619721236609910|tw16519740798438480184|tw13303693183322701028|tw7603746162244734939|tw8898270191264797967|tw6828143366062957681|tw13620451795133705380|tw1816281700177868721|tw7369497753970946833|tw1220205523593089369|tw11631723685344250370|tw9536855363298323498|tw13804460046244417807|tw8939228422189530590|tw15358645310633720575|tw17428119019791856082|tw15242846623600420379|tw447556837706689003|tw281008748610869053|tw9813490488530380794|tw8444181702940784385|tw1917868252481808164|tw3957813067643456688|tw8969959612887572714|tw6737114002421713921|tw9814956356352486841|tw4162188708901825328|tw10608678234921981029|tw9207681056799762314|tw7564786192022583258|tw8795158855413814073|tw15742192961732799732|tw17076881907329178971|tw17803552445750033566|tw17600034038009126742|tw7534439460431362600|tw7267635779880095967|tw6300929015796263069|tw5379226811023385940|tw4217658842086184381|tw18197511493820287608|tw16634717683846948336|tw15309158801032952316|tw14331908590379357483|tw12591625242655341816|tw11510203010940943048|tw14257063202715830290
open PySem PySem.W PyProof.Rows
set_option maxRecDepth 100000 in
set_option maxHeartbeats 0 in
theorem PySem.Challenge.cw_chordbed_k35_whole_step_by_step_holds : PySem.Challenge.rw_chordbed_k35_whole_step_by_step.Holds := by
 w_on;o_law;k_head;(case hw=>w_witness2)
 k_fill
 refine L3.Nl (l:=PySem.Challenge.rw_chordbed_k35_whole_step_by_step) (n:=63) (k:=9) (x:= "_law_script") (F:=K35.F_lawH) rfl (by decide) rfl ⟨rfl,by decide,by decide⟩ (λw h Y=>PySem.W.kIn_of Y) ?F K35.main
 case F=>
  intro w d e h b G a
  apply K35.all_mk b G a
  all_goals fail "ki"
