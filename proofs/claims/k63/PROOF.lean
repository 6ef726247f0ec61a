import PyProof.Rows.All
import Wide.All
import OpenK.AllK
import Wide.FinOn
import Lean
import PyProof.EqAt
import PyProof.EqKinds
import PyProof.TupleCall
import KE.KIntText
import KE.KRevSl
import PyProof.Rows.SeqMore
import PyProof.WalkInts
import PyProof.Rows.MinMaxN
import PyProof.ExcInit
import OpenK.KMake
import PyProof.InstStoreFacts
import PyProof.FString2
import PyProof.Rows.FStr
import PyProof.Rows.SetFrom
import PyProof.SeqRoads2
import PyProof.RangeFor
import PyProof.WalksMore
import PyProof.StrBlock2
import PyProof.Rows.SortShell
import PyProof.TupleOfSeq
import KE.KDictList
import KE.KDictOf
import PyProof.IsiH_tuple
import PyProof.Rows.RuleN_abs
import PyProof.Rows.Range3
import KE.KRevIter
import PyProof.StrLawsRepr
import PyProof.ReprStr
import PyProof.IsiH_list
import PyProof.Rows.TupDisplay
import PyProof.Rows.SortRuns
import PyProof.Rows.SortKey
import PyProof.Rows.SortShellK
import KE.KSortTup
import PySem.Challenge.RW_chordbed_k63_whole_rests_closed
set_option genSizeOf false
set_option genInjectivity false
set_option Elab.async false
set_option linter.all false
set_option maxRecDepth 100000
open Option renaming some->lD,none->Ld,map_eq_some_iff->Mo,isSome_iff_exists->Ng,isSome_map->NC,map_some->Q5,map->Tc,getD_none->Uh
open PySem renaming wpAny_bind->Bn,Value->Lf,PyData->Lg,wpAny_pure->Li,Shared->Lm,Addr->Lp,Builtin->LJ,sizeLine->LL,Program->LR,Around->L0,mainGlobals->Ma,wpAny_newObj_type->Mb,NameKind->Md,World->Mg,Expr->Mv,bootBuiltins->ML,starEach->MM,wpAny_call_entry->MN,wpAny_dictEntries->M0,FuncData->M8,wpAny_callSpecial?_slot->M9,DictEntry->Na,wpAny_holding->Nd,binaryOp->Nl,mem_of_lookup->Nn,wpAny_truthy_bool->Nt,swapsWith->Nz,cellsFrom->NA,compareOp->NG,Reads->NJ,sysModules->NM,ReadsAll->NS,wpAny_isInstance->NT,wpAny_typeNameOfWhole_valiter->NV,wpAny_typeNameOfWhole_keyiter->NW,Stmt->NZ,wpAny_passesOwn->N0,wpAny_dictEpoch->N3,wpAny_notOrdered_dict->Ob,wpAny_typeNameOf_valiter->Om,plainId_quiet->Oo,typeIs_int->Ox,wpAny_tupleItemsOf->OA,PassesOwn->OP,wpAny_field->OW,codeAny_builtin->Pd,Scope->Pk,wpAny_pyIter_list->Pl,wpAny_typeOf->Po,wpAny_richCompare_same_room->Pq,wpAny_tryCatch->PD,wpAny_of_eq->P4,IsPart->P6,wpAny_attempt->P8,call_meets->Qt,wpAny_rule->Qu,wpAny_execs_nil->Qv,isSubtype_tuple_tuple->Qy,wpAny_isOneOf_valiter->Qz,wpAny_seqItems->QJ,wpAny_letGo->QL,wpAny_fieldsOf->QN,wpAny_setField->QO,BindsTo->QP,wpAny_Call_Name_kw->Q8,GenState->Rr,Keyword->Rt,wpAny_sequenceKey->Ru,eqIsQuiet_byValue->Rv,richCompare_gives->Rx,noFill_tuple_add->RP,wpAny_forIn_list->RQ,pushCells_keeps->Sq,wpAny_updateSeq->Ss,typeIs_str->SU,wpAny_binaryOp_repeat_ref->Tb,seq_tuple_add->TB,evalPart_none->TC,wpAny_pyIter_tuple->TF,wpAny_pyNext_list_item->Uq,codeAny_mono->Ur,concat_meets->Us,call_meetsIn->Uu,wpAny_isTrue_Compare1->Vg,wpAny_pyNext_list_end->Vh,wpAny_pyIter_listiter->Vi,builtinLookup_eq_fast->Vk,wpAny_isOneOf_keyiter->Vl,sizeLine_eq->VG,wpAny_Name->Wq,Result->Ws,wpAny_getItem_heap->Wt,call_function_tree->Wv,Drawn->W4,slot_list_getitem->W5,OsState->W7,wpAny_Call_method->W9,wpAny_pyIter_slot->Xa,wpAny_pyHash_int->Xy,wpAny_pyHash_str->Xz,wpAny_execs_cons->XA,call->XF,beq_builtin_none->XI,wpAny_specialOf->YN,typeLookup_type->YO,Model->Zw,wpAny_Compare1->Zx,isSubtype_stop->ZD,intBits_le_64->aa3,call_list_seq->aa4,wpAny_handled->aa6,wpAny_newList->aa8
open PySem.W renaming Frag->Lc,mg_none_of->MA,nsIn->MF,findIn->Nh,keepIn->NF,fnOf->N2,kia_one->Oc,cellsFrom_some->Oi,codeIn->P5,methodObj->Qx,isFn->RO,pyHash_slot->SI,hasDictIn->S8,plainOver->S9,specialIn->Ta,plainGet->Tz,instObj->Ud,makesIn->Ue,OpenLaw->Ui,kitOne->Ut,mg_of->Vj
open List renaming length_map->Lh,getElem?_eq_some_iff->Lj,length_append->Ln,map_cons->Lo,replicate->Lq,getElem?_map->Ls,length_cons->Lu,mem_singleton->Lx,mem_cons_of_mem->Ly,mem_map->Lz,getElem?_eq_getElem->LB,size_toArray->LC,mem_cons_self->LG,mem_of_getElem?->LH,length_replicate->LI,getElem?_append_left->LK,mem_append->LM,mem_cons->LN,mem_append_right->LO,append_assoc->LP,map_append->LW,getElem?_append_right->LX,map_nil->LY,append_nil->L6,length_range->L8,range->Me,mem_append_left->Mm,pairwise_append->Mn,map_map->Mq,length_take->Ms,all_eq_true->Mu,find?_cons->Mw,length_singleton->Mx,replicate_succ->Mz,nodup_cons->MJ,lookup_cons->MK,drop_eq_getElem_cons->MO,zip_cons_cons->MP,mem_filter->MQ,filter_cons->MR,getElem?_set->MS,length_set->MW,take_of_length_le->MX,mem_filterMap->M5,length_drop->M6,take_length->M7,drop_eq_nil_of_le->Nb,pairwise_iff_getElem->Nf,mem_range->Nj,getElem_mem->Nv,mem_flatMap->Nw,pairwise_cons->Nx,getElem?_take_of_lt->ND,filterMap_cons->NH,getElem_of_mem->NK,getElem?_replicate->NL,length->NP,getElem?_set_self->NQ,getElem_range->NR,flatten_cons->NX,find?_isSome->NY,getElem?_set_ne->N7,getD_eq_getElem?_getD->N8,nodup_nil->N9,Nodup->Oa,length_reverse->Od,nil_append->Oh,nodup_append->Ou,pairwise_map->Ov,drop_left->Ow,mem_iff_getElem?->OD,take_append_drop->OE,length_nil->OO,reverse_append->OQ,flatMap_append->OS,getElem?_drop->O9,take_zero->Pa,reverse_cons->Pp,ext_getElem?->Pr,map_take->Pz,getElem?_cons_zero->PK,getElem?_cons_succ->PL,eraseIdx_cons_succ->PM,map_snd_zip->PN,not_mem_nil->PR,mem_reverse->PU,foldl->P0,foldl_cons->P7,length_filter_le->Qh,perm_append_comm->Qi,filterMap_append->Qj,mem_of_mem_drop->Qn,mem_of_mem_take->Qo,map_congr_left->Qw,map_drop->QA,set_cons_zero->QH,filterMap_nil->QI,take_add_one->QQ,of_mem_zip->Rk,forIn_cons->Rm,nodup_iff_pairwise_ne->RG,mem_of_find?_eq_some->RT,length_eq_zero_iff->Sv,pairwise_singleton->Sw,length_pos_of_mem->SK,getElem?_eq_none->SW,reverse_reverse->Td,set->Te,filter_sublist->TJ,filterMap_map->Ug,set_cons_succ->Uj,getElem_drop->Uv,getElem_take->Uw,foldl_append->Uz,flatMap_cons->UB,map_fst_zip->Vm,getElem_map->Vn,nodup_range->Vo,map_reverse->Vp,drop_length->Vq,find?_some->VL,forIn_nil->V8,drop_zero->Wa,take_nil->Ww,range'->XJ,zip->aa5,map->aa9
open Bool renaming true->Lk,false_eq_true->Lr,false->Lw,false_ne_true->LA,and_eq_true->LU,not_true->MZ,true_and->Oe,false_and->O8,not_false->Qm,not_eq_true'->UC,and_false->V9,bne_true->Wu,true_or->W6
open Nat renaming le_refl->Ll,le_trans->LF,lt_of_lt_of_le->LQ,le_of_ble_eq_true->LV,ne_of_lt->Ml,zero_le->Mr,lt_irrefl->MC,le_of_lt->MU,lt_succ_self->Ni,le_of_not_lt->NN,lt_succ_of_lt->Oy,mul_le_mul->Oz,ne_of_gt->OV,lt_trans->OX,zero_add->OY,lt_of_le_of_lt->Pc,le_of_succ_le->Py,add_sub_cancel_left->PX,sub_self->QZ,min_eq_right->Q9,le_add_right->Ra,min_eq_left->RA,min_le_right->VH,not_lt_of_lt->VI,add_assoc->W8,succ_mul->XD,le_of_eq->XG,sub_zero->XH,le_succ->YR
open Option.some renaming inj->LZ,injEq->Qk
open Array renaming length_toList->L5,toList_append->My,getElem?_toList->MG,perm_iff_toList_perm->N4,toList_push->Oq,toList_reverse->OH,isEmpty_iff->QK,eq_empty_of_size_eq_zero->QY,isEmpty_eq_false_iff->Ry,getElem?_eq_none->Sr,getElem_extract->SJ,forIn_toList->TH,toList_zip->Ux,toList_map->Uy,all_toList->UA,size_map->VJ,toList->Wr
open Int renaming emod_nonneg->L7,emod_lt_of_pos->Mc,toNat_natCast->MV,ediv_nonneg->NU,ediv_one->XB,lt_trans->XN,le_refl->YQ
open PyProof.Rows renaming slot_tuple_getitem->Mf,envOfC->MB,callWith_type1->OB,callWith_builtin1->YM
open PySem.F renaming plainAttrs_dict->Og,args_tuple_add_2->Pb,slot_dict_values->Pe,slot_list_append->Pf,type_list_append->Pg,entry_tuple_add->Pn,plainAttrs_list->Pt,slot_tuple_add->PB,slot_dict_getitem->Rn,type_dict_values->Rz,slot_dict_get->Sh,slot_dict_pop->Si,slot_dict_ne->Su
open List.cons renaming inj->OZ,injEq->QM
open List.Pairwise renaming nil->RF,imp_of_mem->XO
open Array.Perm renaming refl->SX,trans->aa7
open PySem.PassesOwn renaming never->Wx
open PySem.W.Looks renaming ld->XM
open PySem.SeqAt renaming compareEq_reads->Zy,compareNe_reads->Zz,notIn_list_reads->ZA,notIn_tuple_reads->ZC
open PySem.IsL renaming update->aca
open List.Perm renaming append_left->acb,append_right->acd
namespace L2
open PySem PySem.Spec PyProof.Rows
abbrev ku:=Sum Int Str
noncomputable def Fu:ku->Lf->Bool
 | .inl k,v=>Lf.isInt k v
 | .inr x,v=>Lf.isStrOf x v
noncomputable def Kg (w:Mg):ku->Int
 | .inl k=>hashInt k
 | .inr x=>hashStr w x
theorem bQ:∀{k:ku} {v:Lf},Fu k v=Lk->(∃i t,k=Sum.inl i/\v=Lf.int i t)\/(∃x t,k=Sum.inr x/\v=Lf.str x t)
 | .inl i,v,h=>by obtain⟨t,e⟩:=Lf.isInt_shape h;exact .inl ⟨i,t,rfl,e⟩
 | .inr x,v,h=>by obtain⟨t,e⟩:=Lf.isStrOf_shape h;exact .inr ⟨x,t,rfl,e⟩
theorem Ie (a b:Int):decide ((Sum.inl a:ku)=Sum.inl b)=(a==b):=by
 by_cases e:a=b
 ·subst e;simp
 ·have h:¬(Sum.inl a:ku)=Sum.inl b:=fun q=>e (Sum.inl.inj q);rw[decide_eq_false h];exact(beq_eq_false_iff_ne.mpr e).symm
theorem GA (a b:Str):decide ((Sum.inr a:ku)=Sum.inr b)=decide (a=b):=by
 by_cases e:a=b
 ·subst e;simp
 ·have h:¬(Sum.inr a:ku)=Sum.inr b:=fun q=>e (Sum.inr.inj q);rw[decide_eq_false h,decide_eq_false e]
theorem HZ (a:Int) (b:Str):decide ((Sum.inl a:ku)=Sum.inr b)=Lw:=decide_eq_false (fun q=>nomatch q)
theorem GH (a:Str) (b:Int):decide ((Sum.inr a:ku)=Sum.inl b)=Lw:=decide_eq_false (fun q=>nomatch q)
noncomputable def xq (prog:LR) (w:Mg):PySem.KeyKind prog w ku where
 is:=Fu
 hash:=Kg w
 inj:=fun v a b ha hb=>by
  rcases bQ ha with⟨i,t,rfl,rfl⟩|⟨x,t,rfl,rfl⟩
  ·rcases bQ hb with⟨j,u,rfl,e⟩|⟨y,u,rfl,e⟩
   ·injection e with e1 _;rw[e1]
   ·exact nomatch e
  ·rcases bQ hb with⟨j,u,rfl,e⟩|⟨y,u,rfl,e⟩
   ·exact nomatch e
   ·injection e with e1 _;rw[e1]
 byValue:=fun k v h=>by rcases bQ h with⟨i,t,rfl,rfl⟩|⟨x,t,rfl,rfl⟩<;>rfl
 pyHash:=fun hv h=>by
  rcases bQ hv with⟨i,t,rfl,rfl⟩|⟨x,t,rfl,rfl⟩
  ·exact Xy h
  ·exact Xz h
 eqBool:=fun hu hv h=>by
  rcases bQ hu with⟨i,t,rfl,rfl⟩|⟨x,t,rfl,rfl⟩
  ·rcases bQ hv with⟨j,u,rfl,rfl⟩|⟨y,u,rfl,rfl⟩
   ·rw[Ie] at h;exact wpAny_eqBool_int h
   ·rw[HZ] at h;exact SeqAt.EqAt.int_str i t y u _ _ _ _ h
  ·rcases bQ hv with⟨j,u,rfl,rfl⟩|⟨y,u,rfl,rfl⟩
   ·rw[GH] at h;exact SeqAt.EqAt.str_int x t j u _ _ _ _ h
   ·rw[GA] at h;exact wpAny_eqBool_str h
 «strs»:=fun k x t v h=>by
  rcases bQ h with⟨i,u,rfl,e⟩|⟨y,u,rfl,e⟩
  ·exact nomatch e
  ·injection e with e1 _
   subst e1;cases v<;>rfl
inductive V where
 |ON|bl (b:Bool)|int (i:Int)|str (x:Str)|X9 (b:Array UInt8)|YA (b:UInt64)|ref (a:Lp)|ty (n:String)
 deriving DecidableEq
def RelV:V->Lf->Prop
 | .ON,u=>u=Lf.none
 | .bl b,u=>u=Lf.bool b
 | .int i,u=>∃t,u=Lf.int i t
 | .str x,u=>∃t,u=Lf.str x t
 | .X9 b,u=>∃t,u=Lf.bytes b t
 | .YA b,u=>∃t,u=Lf.float b t
 | .ref a,u=>u=Lf.ref a
 | .ty n,u=>u=Lf.type n
noncomputable abbrev Vals:List V->List Lf->Prop:=Paired RelV
theorem Vals.length (r:Vals xs us):xs.length=us.length:=Paired.length r
theorem Vals.get:∀{xs:List V} {us:List Lf} {i:Nat} {x:V},Vals xs us->xs[i]? =lD x->∃u,us[i]? =lD u/\RelV x u
 |_,_,_,_,.nil,e=>by simp at e
 |_,_,0,_,.cons r _,e=>by simp at e;subst e;exact⟨_,rfl,r⟩
 |_,_,i+1,x,.cons _ t,e=>by obtain⟨u,h1,h2⟩:=Vals.get t (by simpa using e);exact⟨u,by simpa using h1,h2⟩
theorem Vals.append:∀{xs ys:List V} {us ws:List Lf},Vals xs us->Vals ys ws->Vals (xs++ys) (us++ws)
 |_,_,_,_,.nil,s=>s
 |_,_,_,_,.cons r t,s=> .cons r (Vals.append t s)
theorem Vals.take:∀{xs:List V} {us:List Lf} (n:Nat),Vals xs us->Vals (xs.take n) (us.take n)
 |_,_,0,_=> .nil
 |_,_,_+1,.nil=> .nil
 |_,_,n+1,.cons r t=> .cons r (Vals.take n t)
theorem Vals.drop:∀{xs:List V} {us:List Lf} (n:Nat),Vals xs us->Vals (xs.drop n) (us.drop n)
 |_,_,0,r=>r
 |_,_,_+1,.nil=> .nil
 |_,_,n+1,.cons _ t=>Vals.drop n t
def Q0:Option V->Option Lf->Prop
 |some v,lD u=>RelV v u
 |none,Ld=>True
 |_,_=>False
def KV:List (κ×V)->List (κ×Lf)->Prop:=Paired fun(p:κ×V) (q:κ×Lf)=>p.1=q.1/\RelV p.2 q.2
noncomputable def kV:ku->V
 | .inl i=> .int i
 | .inr x=> .str x
inductive HO where
 |lst (xs:List V)
 |tup (xs:List V)
 |dK (Mj:List (ku×V))|dT (Mj:List (List ku×V))
 |set (S:Int->Bool) (n:Nat)
 |ins (C dx:Lp) (fs:List (Str×V))
 |own (x:Lp)
 |xd (fs:List (Str×V))
 |met (f x:Lp)
 |rng (lo hi:Int)
 |frz (o:Obj) (u:HO)
 |W2 (ps:Array Lf)
 |ext (φ:Heap->Prop)
 |Xs (φ:Mg->Heap->Prop)
abbrev Hp:=Lp->Option HO
noncomputable def upd (H:Hp) (a:Lp) (o:HO):Hp:=fun b=>if b=a then lD o else H b
theorem aB:upd H a o a=lD o:=by unfold upd;rw[if_pos rfl]
theorem az (h:b≠a):upd H a o b=H b:=by unfold upd;rw[if_neg h]
theorem bX {H:Hp} (h:H a=lD o) (h':H b=Ld):a≠b:=by intro e;subst e;rw[h] at h';cases h'
def Q1 (h:Heap) (a:Lp) (items:Array Lf):Prop:=∃o,h.get? a=lD o/\(o.cls= .type "tuple"/\∃n,o.data= .seq items n)/\o.dict=Ld
theorem Q1.tup (x:Q1 h a items):IsTup h a items:=let⟨o,e,c,_⟩:=x;⟨o,e,c⟩
theorem Q1.lt (x:Q1 h a items):a<h.objs.size:=let⟨_,e,_⟩:=x;Heap.lt_size e
theorem Q1.new (h:Heap) (xs:Array Lf):Q1 (h.push {cls:= .type "tuple",data:= .seq xs}) h.objs.size xs:=⟨_,Heap.get?_push_size _ rfl,⟨rfl,_,rfl⟩,rfl⟩
section
variable (P:LR) (w:Mg)
def MY (H:Hp) (h:Heap) (a:Lp):HO->Prop
 | .lst xs=>xs.length<=LL/\∃(MD:List Lf) (n:Nat),Vals xs MD/\h.get? a=lD {cls:= .type "list",data:= .seq MD.toArray n}
 | .tup xs=>xs.length<=LL/\∃MD:List Lf,Vals xs MD/\Q1 h a MD.toArray
 | .dK Mj=>Mj.length<=LL/\(a==NM)=Lw/\∃vs,KV Mj vs/\h.DictOf (xq P w) a vs
 | .dT Mj=>Mj.length<=LL/\(a==NM)=Lw/\∃xs:List (List ku×Lp×Lf),
   Paired (fun(p:List ku×V) (q:List ku×Lp×Lf)=>p.1=q.1/\H q.2.1=lD (.tup (p.1.map kV))/\RelV p.2 q.2.2) Mj xs/\
   ∃o es ep,h.get? a=lD o/\o.ExactDict/\o.data= .dict es ep/\es.toList=xs.map (entryOfKey (tupleKind (xq P w)))/\(xs.map (·.1)).Nodup
 | .set S n=>h.SetOf (intKind P w) a S n
 | .ins C dx fs=>H dx=lD (.own a)/\fs.length<=1000/\dx≠a/\h.get? a=lD (Ud C dx)/\
   ∃mA,h.Ns1 dx mA/\(∀f,Q0 (fs.lookup f) (mA f))/\PySem.Within mA (fs.map (·.1))
 | .own _=>∃o,h.get? a=lD o
 | .xd fs=>∃mA,h.Ns1 a mA/\∀f,Q0 (fs.lookup f) (mA f)
 | .rng lo hi=>∃t u v,h.get? a=lD {cls:= .type "range",data:= .fields #[.int lo t,.int hi u,.int 1 v]}
 | .frz o u=>h.get? a=lD o/\MY H h a u
 | .W2 ps=>h.get? a=lD {cls:= .none,data:= .fields ps}
 | .met f x=>h.get? a=lD (Qx (.ref f) (.ref x))
 | .ext φ=>φ h/\(∃o,h.get? a=lD o)/\∀h1 h2:Heap,φ h1->(∀o,h1.get? a=lD o->h2.get? a=lD o)->φ h2
 | .Xs φ=>φ w h/\(∃o,h.get? a=lD o)/\∀h1 h2:Heap,φ w h1->(∀o,h1.get? a=lD o->h2.get? a=lD o)->φ w h2
def Ri (H:Hp) (h:Heap):Prop:=∀a o,H a=lD o->MY P w H h a o
end
section
variable {P:LR} {w:Mg} {H H':Hp} {h h':Heap} {a:Lp} {o:HO}
theorem MY.lt (x:MY P w H h a o):a<h.objs.size:=by
 cases o with
 |lst xs=>obtain⟨_,_,_,_,e⟩:=x;exact Heap.lt_size e
 |tup xs=>obtain⟨_,_,_,p⟩:=x;exact p.lt
 |dK Mj=>obtain⟨_,_,_,_,o,_,_,e,_⟩:=x;exact Heap.lt_size e
 |dT Mj=>obtain⟨_,_,_,_,o,_,_,e,_⟩:=x;exact Heap.lt_size e
 |set S n=>obtain⟨o,_,_,_,e,_⟩:=x;exact Heap.lt_size e
 |ins C dx fs=>obtain⟨_,_,_,e,_⟩:=x;exact Heap.lt_size e
 |own y=>obtain⟨_,e⟩:=x;exact Heap.lt_size e
 |xd fs=>obtain⟨_,⟨_,_,_,e,_⟩,_⟩:=x;exact Heap.lt_size e
 |rng lo hi=>obtain⟨_,_,_,e⟩:=x;exact Heap.lt_size e
 |frz ob u=>obtain⟨e,_⟩:=x;exact Heap.lt_size e
 |W2 ps=>exact Heap.lt_size (show h.get? a=lD _ from x)
 |met f y=>exact Heap.lt_size (show h.get? a=lD _ from x)
 |ext φ=>obtain⟨_,⟨_,e⟩,_⟩:=x;exact Heap.lt_size e
 |Xs φ=>obtain⟨_,⟨_,e⟩,_⟩:=x;exact Heap.lt_size e
theorem Paired.Ph:∀{l₁:List α} {l₂:List β},Paired F l₁ l₂->(∀a b,F a b->G a b)->Paired G l₁ l₂
 |_,_,.nil,_=> .nil
 |_,_,.cons r t,f=> .cons (f _ _ r) (Paired.Ph t f)
theorem MY.Va (x:MY P w H h a o) (k:∀b u,(b=a\/H b=lD (.own a))->h.get? b=lD u->h'.get? b=lD u)
  (ho:∀b,H b=lD (.own a)->H' b=lD (.own a)) (ht:∀b xs,H b=lD (.tup xs)->H' b=lD (.tup xs)):MY P w H' h' a o:=by
 induction o with
 |lst xs=>obtain⟨z,MD,n,r,e⟩:=x;exact⟨z,MD,n,r,k _ _ (.inl rfl) e⟩
 |tup xs=>obtain⟨z,MD,r,ob,e,c⟩:=x;exact⟨z,MD,r,ob,k _ _ (.inl rfl) e,c⟩
 |dK Mj=>obtain⟨z,y,vs,r,ob,es,ep,e,c⟩:=x;exact⟨z,y,vs,r,ob,es,ep,k _ _ (.inl rfl) e,c⟩
 |dT Mj=>obtain⟨z,y,xs,r,ob,es,ep,e,c⟩:=x;exact⟨z,y,xs,Paired.Ph r fun p q z=>⟨z.1,ht _ _ z.2.1,z.2.2⟩,ob,es,ep,k _ _ (.inl rfl) e,c⟩
 |set S n=>obtain⟨ob,es,ep,t,e,c⟩:=x;exact⟨ob,es,ep,t,k _ _ (.inl rfl) e,c⟩
 |ins C dx fs=>obtain⟨d,z,ne,e,mA,⟨od,es,ep,e2,c⟩,r⟩:=x;exact⟨ho _ d,z,ne,k _ _ (.inl rfl) e,mA,⟨od,es,ep,k _ _ (.inr d) e2,c⟩,r⟩
 |own y=>obtain⟨ob,e⟩:=x;exact⟨ob,k _ _ (.inl rfl) e⟩
 |xd fs=>obtain⟨mA,⟨od,es,ep,e,c⟩,r⟩:=x;exact⟨mA,⟨od,es,ep,k _ _ (.inl rfl) e,c⟩,r⟩
 |rng lo hi=>obtain⟨t,u,v,e⟩:=x;exact⟨t,u,v,k _ _ (.inl rfl) e⟩
 |frz ob u ih=>obtain⟨e,q⟩:=x;exact⟨k _ _ (.inl rfl) e,ih q⟩
 |W2 ps=>have e:h.get? a=lD {cls:= .none,data:= .fields ps}:=x;show h'.get? a=lD {cls:= .none,data:= .fields ps};exact k a _ (.inl rfl) e
 |met f y=>have e:h.get? a=lD (Qx (.ref f) (.ref y)):=x;show h'.get? a=lD (Qx (.ref f) (.ref y));exact k a _ (.inl rfl) e
 |ext φ=>obtain⟨p,⟨o,e⟩,st⟩:=x;exact⟨st _ _ p fun o q=>k _ _ (.inl rfl) q,⟨o,k _ _ (.inl rfl) e⟩,st⟩
 |Xs φ=>obtain⟨p,⟨o,e⟩,st⟩:=x;exact⟨st _ _ p fun o q=>k _ _ (.inl rfl) q,⟨o,k _ _ (.inl rfl) e⟩,st⟩
theorem Ri.lt (x:Ri P w H h) (e:H a=lD o):a<h.objs.size:=(x a o e).lt
theorem Ri.fresh (x:Ri P w H h) (e:h.objs.size<=a):H a=Ld:=by
 cases q:H a with
 |none=>rfl
 |some u=>exact absurd (LQ (x.lt q) e) (MC _)
theorem Ri.kept (x:Ri P w H h) (k:∀b u,h.get? b=lD u->h'.get? b=lD u):Ri P w H h':=fun a o e=>
 (x a o e).Va (fun b u _ q=>k b u q) (fun _ q=>q) fun _ _ q=>q
theorem Ri.laid (x:Ri P w H h) (k:∀b u,h.get? b=lD u->h'.get? b=lD u) (hp:h.objs.size<=a) (new:MY P w (upd H a o) h' a o):Ri P w (upd H a o) h':=fun b u e=>by
 have hn:=x.fresh hp;by_cases hb:b=a
 ·subst hb;rw[aB] at e;cases e;exact new
 ·rw[az hb] at e;exact(x b u e).Va (fun c v _ q=>k c v q) (fun c q=>by rw[az (bX q hn)];exact q) fun c xs q=>by rw[az (bX q hn)];exact q
end
def Rd (H:Hp) (a:Lp) (u:HO):Prop:=H a=lD u\/∃o,H a=lD (.frz o u)
theorem Rd.ok (r:Rd H a u) (x:Ri P w H h):MY P w H h a u:=by
 rcases r with r|⟨o,r⟩
 ·exact x a u r
 ·obtain⟨_,q⟩:=x a _ r;exact q
def IJ:Option HO->Prop
 |some (.lst _)=>True
 |some (.dK _)=>True
 |some (.dT _)=>True
 |some (.set _ _)=>True
 |some (.ins _ _ _)=>True
 |some (.ext _)=>True
 |some (.Xs _)=>True
 |_=>False
section
variable {P:LR} {w:Mg} {H:Hp} {h h':Heap} {x e:Lp} {o':HO}
theorem Ri.write (ok:Ri P w H h) (mu:IJ (H x)) (he:e=x\/H e=lD (.own x)) (k:∀b u,b≠e->h.get? b=lD u->h'.get? b=lD u) (Xb:∃u,h'.get? e=lD u)
  (new:MY P w (upd H x o') h' x o'):Ri P w (upd H x o') h':=fun b u q=>by
 have X8:∀c y,H c=lD (.own y)->c≠x:=fun c y r z=>by subst z;rw[r] at mu;exact mu
 have aaw:∀c xs,H c=lD (.tup xs)->c≠x:=fun c xs r z=>by subst z;rw[r] at mu;exact mu
 by_cases hb:b=x
 ·subst hb;rw[aB] at q;cases q;exact new
 ·rw[az hb] at q
  by_cases WZ:b=e
  ·have q':H b=lD (.own x):=by
    rcases he with z|z
    ·exact absurd (WZ.trans z) hb
    ·rw[WZ];exact z
   rw[q] at q';cases q';obtain⟨v,hv⟩:=Xb;exact⟨v,by rw[WZ];exact hv⟩
  ·refine(ok b u q).Va (fun c v hc r=>k c v ?_ r) (fun c r=>by rw[az (X8 c b r)];exact r) fun c xs r=>by rw[az (aaw c xs r)];exact r
   rcases hc with rfl|hc
   ·exact WZ
   ·rintro rfl
    rcases he with z|z
    ·exact X8 c b hc z
    ·rw[hc] at z;cases z;exact hb rfl
end
structure Un (fs ex:List Lp) (H H':Hp) (h h':Heap):Prop where
 keep:∀b o,h.get? b=lD o->H b=Ld->b∉fs->b∉ex->h'.get? b=lD o
 slot:∀b o,h.get? b=lD o->H b=Ld->b∈fs->b∉ex->∃sl,h'.get? b=lD {o with slots:=sl}
 free:∀b o,h.get? b=lD o->H b=Ld->b∉ex->H' b=Ld
 there:∀b o,h.get? b=lD o->b∉ex->∃o',h'.get? b=lD o'
 SF:∀b xs,H b=lD (.tup xs)->H' b=lD (.tup xs)
 Sb:∀b o u,H b=lD (.frz o u)->H' b=lD (.frz o u)
 Sy:∀b ps,H b=lD (.W2 ps)->∃more,H' b=lD (.W2 (ps++more))
section
variable {fs fs' ex ex':List Lp} {H H1 H2:Hp} {h h1 h2 h':Heap} {a x e:Lp} {o:HO}
theorem Un.any (u:Un fs ex H H1 h h1) (q:h.get? b=lD ob) (n:H b=Ld) (hx:b∉ex):∃sl,h1.get? b=lD {ob with slots:=sl}:=by
 by_cases hb:b∈fs
 ·exact u.slot b ob q n hb hx
 ·exact⟨ob.slots,u.keep b ob q n hb hx⟩
theorem Un.kept (k:∀b u,h.get? b=lD u->h'.get? b=lD u):Un fs ex H H h h':=
 ⟨fun b ob q _ _ _=>k b ob q,fun b ob q _ _ _=>⟨ob.slots,k b ob q⟩,fun _ _ _ n _=>n,fun b ob q _=>⟨ob,k b ob q⟩,fun _ _ q=>q,fun _ _ _ q=>q,fun _ ps q=>⟨#[],by rw[q];simp⟩⟩
theorem Un.refl:Un fs ex H H h h:=Un.kept fun _ _ q=>q
theorem Un.laid (k:∀b u,h.get? b=lD u->h'.get? b=lD u) (hp:h.objs.size<=a) (hn:H a=Ld):Un fs ex H (upd H a o) h h' where
 keep:=fun b u q _ _ _=>k b u q
 slot:=fun b u q _ _ _=>⟨u.slots,k b u q⟩
 free:=fun b u q n _=>by rw[az (Ml (LQ (Heap.lt_size q) hp))];exact n
 there:=fun b u q _=>⟨u,k b u q⟩
 SF:=fun b xs q=>by rw[az (bX q hn)];exact q
 Sb:=fun b u xs q=>by rw[az (bX q hn)];exact q
 Sy:=fun b ps q=>⟨#[],by rw[az (bX q hn),q];simp⟩
theorem Un.write (mu:IJ (H x)) (he:e=x\/H e=lD (.own x)) (k:∀b u,b≠e->h.get? b=lD u->h'.get? b=lD u) (Xb:∃u,h'.get? e=lD u):Un fs ex H (upd H x o) h h':=by
 have hx:∀b,H b=Ld->b≠x:=fun b n z=>by subst z;rw[n] at mu;exact mu
 have hb:∀b,H b=Ld->b≠e:=fun b n z=>by
  subst z;rcases he with r|r
  ·exact hx b n r
  ·rw[n] at r;cases r
 have hm:∀b u,H b=lD u->¬IJ (lD u)->b≠x:=fun b u q nm z=>by subst z;rw[q] at mu;exact nm mu
 refine⟨fun b u q n _ _=>k b u (hb b n) q,fun b u q n _ _=>⟨u.slots,k b u (hb b n) q⟩,fun b u q n _=>by rw[az (hx b n)];exact n,fun b u q _=> ?_,
  fun b xs q=>by rw[az (hm b _ q fun z=>z)];exact q,fun b u xs q=>by rw[az (hm b _ q fun z=>z)];exact q,fun b ps q=>⟨#[],by rw[az (hm b _ q fun z=>z),q];simp⟩⟩
 by_cases WZ:b=e
 ·subst WZ;exact Xb
 ·exact⟨u,k b u WZ q⟩
end
noncomputable def JK (h:Heap) (H:Hp):List Lp:=(Me h.objs.size).filter fun a=>(H a).isSome
noncomputable def qB (h:Heap) (H:Hp):Heap:=PySem.W.hideAll h (JK h H)
theorem yl (h:Heap) (H:Hp):(qB h H).objs.size=h.objs.size:=PySem.W.hideAll_size _ _
theorem zq (e:h.get? b=lD o) (n:H b=Ld):(qB h H).get? b=lD o:=
 PySem.W.hideAll_get _ e fun hm=>by have q:=(MQ.mp hm).2;rw[n] at q;simp at q
theorem Ds (e:(qB h H).get? b=lD o):h.get? b=lD o/\H b=Ld:=by
 have e':=PySem.W.of_hideAll (JK h H) e;refine⟨e',?_⟩;cases q:H b with
 |none=>rfl
 |some x=>have hm:b∈JK h H:=MQ.mpr ⟨Nj.mpr (Heap.lt_size e'),by simp[q]⟩;have z:(qB h H).get? b=Ld:=PySem.W.hideAll_none (JK h H) hm;rw[z] at e;cases e
structure Mod (K:Lc) (mg:Str->Option Lf) (base:Heap):Prop where
 kin:K.In base
 glob:base.Ns Ma mg
 blt:∃mb,base.Ns builtinsNs mb/\∀x:Str,x≠ "__name__"->mb x=ML x
 nolimit:base.NoLimit
structure Cx where
 prog:LR
 w:Mg
 K:Lc
 mg:Str->Option Lf
 base:Heap
 A:L0
 N:List Str
 s₀:Lm
 H₀:Hp
 env:Env
 outer:List Env
 stack:List Env
 ex:List Lp
 fn:Str->Bool
 calm:Bool
 pn:List (Lp×Obj)
 xe:Lf->Lm->Prop
noncomputable def zh (l:List Env):List Lp:=l.filterMap (·.frame)
noncomputable abbrev Cx.fs (X:Cx):List Lp:=zh X.outer
def J7 (sc:Pk) (x:Str):Prop:=sc.names.lookup x=lD .local\/sc.names.lookup x=lD .cell\/sc.names.lookup x=lD .free
def JX (sc:Pk) (x:Str):Prop:=sc.names.lookup x=lD .local\/sc.names.lookup x=lD .cell
def Ke (env:Env) (h:Heap) (m:Str->Option Lf) (x:Str) (u:Lf):Prop:=
 (env.kindOf x=lD .local/\m x=lD u)\/((env.kindOf x=lD .cell\/env.kindOf x=lD .free)/\∃c,env.cells.lookup x=lD c/\h.IsCell c (lD u))
structure Cx.Ok (X:Cx):Prop where
 mod:Mod X.K X.mg X.base
 kind:X.env.scope.kind= .function
 glob:X.env.globals=Ma
 blt:X.env.builtins=builtinsNs
 above:X.s₀.heap.objs.size<=X.env.locals
 inj:∀x y c,X.env.cells.lookup x=lD c->X.env.cells.lookup y=lD c->x=y
 has:∀x,(X.env.kindOf x=lD .cell\/X.env.kindOf x=lD .free)->∃c,X.env.cells.lookup x=lD c
 Xg:∀x c,X.fn x=Lk->X.env.cells.lookup x=lD c->X.s₀.heap.objs.size<=c
 hd:X.calm=Lk->X.A.handled=Ld
 frames:X.A.frames=lD X.stack
 YD:X.stack=X.outer\/(X.stack=X.env::X.outer/\X.env.frame=lD X.env.locals)
 Yg:∀b∈X.ex,b≠X.env.locals/\∀x c,X.env.cells.lookup x=lD c->c≠b
 bs:∀b o,X.base.get? b=lD o->X.s₀.heap.get? b=lD o/\X.H₀ b=Ld
 VV:X.base.objs.size<=X.s₀.heap.objs.size
 T6:∀b o,X.base.get? b=lD o->b∉X.ex
 TY:∀b∈X.ex,b∉X.fs
 Q3:X.s₀.heap.FunFrames X.base X.outer
 WH:∀b∈X.fs,X.H₀ b=Ld
structure Inv (X:Cx) (pins:List (Lp×Obj)) (σ:List (Option V)) (H:Hp) (s:Lm):Prop where
 ok:X.Ok
 os:s.os=X.s₀.os
 bare:AllBare s.gens
 base:Un X.fs X.ex X.H₀ H X.s₀.heap s.heap
 loc:∃m,s.heap.Ns X.env.locals m/\∀(i:Nat) (x:Str) (v:V),X.N[i]? =lD x->σ[i]? =lD (lD v)->J7 X.env.scope x->∃u,RelV v u/\Ke X.env s.heap m x u
 cell:∀x c,X.env.cells.lookup x=lD c->∃v,s.heap.IsCell c v
 free:H X.env.locals=Ld
 Qs:∀x c,X.env.cells.lookup x=lD c->H c=Ld
 pin:∀p∈X.pn++pins,s.heap.get? p.1=lD p.2/\H p.1=Ld/\p.1≠X.env.locals/\p.1∉X.fs/\∀v,p.2.data≠ .cell v
 NO:Ri X.prog X.w H s.heap
 len:σ.length=X.N.length
section
variable {X:Cx} {pins:List (Lp×Obj)} {σ:List (Option V)} {H H':Hp} {s:Lm} {h':Heap}
theorem Cx.Ok.aaN (ok:X.Ok) (e:X.base.get? b=lD o):b∉X.fs:=fun hb=>by have:=(ok.Q3.mem hb).1;rw[e] at this;cases this
theorem Inv.bs (I:Inv X pins σ H s):∀b o,X.base.get? b=lD o->s.heap.get? b=lD o/\H b=Ld:=fun b o e=>
 ⟨I.base.keep b o (I.ok.bs b o e).1 (I.ok.bs b o e).2 (I.ok.aaN e) (I.ok.T6 b o e),I.base.free b o (I.ok.bs b o e).1 (I.ok.bs b o e).2 (I.ok.T6 b o e)⟩
theorem Inv.bk (I:Inv X pins σ H s):∀b o,X.base.get? b=lD o->s.heap.get? b=lD o:=fun b o e=>(I.bs b o e).1
theorem Inv.mod (I:Inv X pins σ H s):Mod X.K X.mg X.base:=I.ok.mod
theorem Inv.T5 (I:Inv X pins σ H s):X.K.In s.heap:=I.ok.mod.kin.keeps I.bk
theorem Inv.lt (I:Inv X pins σ H s):X.env.locals<s.heap.objs.size:=let⟨_,hn,_⟩:=I.loc;hn.lt
theorem Inv.sz (I:Inv X pins σ H s):X.s₀.heap.objs.size<=s.heap.objs.size:=LF I.ok.above (MU I.lt)
theorem Inv.aa2 (I:Inv X pins σ H s) (h:s.heap.objs.size<=a):a∉X.fs:=fun hb=>by obtain⟨_,o,ho,_⟩:=I.ok.Q3.mem hb;exact absurd (LQ (Heap.lt_size ho) (LF I.sz h)) (MC _)
theorem Inv.WW (I:Inv X pins σ H s):∀x c,X.env.cells.lookup x=lD c->c≠X.env.locals:=fun x c e z=>by obtain⟨v,o,ho,hd⟩:=I.cell x c e;obtain⟨m,⟨o',es,ep,WN,U7,_⟩,_⟩:=I.loc;rw[z,WN] at ho;cases ho;rw[U7] at hd;cases hd
theorem Inv.Q3 (I:Inv X pins σ H s):s.heap.FunFrames X.base X.outer:=by
 have all:∀(l:List Env),(∀b∈zh l,b∈X.fs)->X.s₀.heap.FunFrames X.base l->s.heap.FunFrames X.base l:=by
  intro l
  induction l with
  |nil=>intro _ _;trivial
  |cons env r ih=>intro hs hl;obtain⟨hk,⟨L,o,hf,hn,ho,hd⟩,hr⟩:=hl;have hL:=hs L (by unfold zh;rw[NH,hf];exact LG);obtain⟨sl,e⟩:=I.base.slot L o ho (I.ok.WH L hL) hL fun z=>I.ok.TY L z hL;exact⟨hk,⟨L,_,hf,hn,e,hd⟩,ih (fun b hb=>hs b (by unfold zh;rw[NH,hf];exact Ly _ hb)) hr⟩
 exact all X.outer (fun _ hb=>hb) I.ok.Q3
theorem Inv.stack (I:Inv X pins σ H s):s.heap.FunFrames X.base X.stack:=by
 rcases I.ok.YD with e|⟨e,hf⟩
 ·rw[e];exact I.Q3
 ·rw[e];obtain⟨m,hn,_⟩:=I.loc;refine .cons (by rw[I.ok.kind];decide) hf hn ?_ I.Q3;exact Heap.get?_none_of_le (LF I.ok.VV I.ok.above)
theorem Inv.S3 (I:Inv X pins σ H s):∀b∈zh X.stack,b∈X.env.locals::X.fs:=fun b hb=>by
 rcases I.ok.YD with e|⟨e,hf⟩
 ·rw[e] at hb;exact Ly _ hb
 ·rw[e] at hb;unfold zh at hb;rw[NH,hf] at hb;exact hb
theorem Inv.To (I:Inv X pins σ H s):∀b∈zh X.stack,H b=Ld:=fun b hb=>by
 rcases LN.mp (I.S3 b hb) with e|hb
 ·rw[e];exact I.free
 ·obtain⟨_,o,ho,_⟩:=I.ok.Q3.mem hb;exact I.base.free b o ho (I.ok.WH b hb) fun z=>I.ok.TY b z hb
theorem Inv.step {g':Array Rr} {t':Nat} {d':W4} {ch:List Lp} (I:Inv X pins σ H s)
  (VB:∀b∈ch,(b∈X.ex\/X.s₀.heap.objs.size<=b)/\b≠X.env.locals/\(∀x c,X.env.cells.lookup x=lD c->c≠b)/\∀p∈X.pn++pins,p.1≠b)
  (keep:∀b o,b≠X.env.locals->b∉X.fs->b∉ch->s.heap.get? b=lD o->H b=Ld->h'.get? b=lD o)
  (slot:∀b o,b≠X.env.locals->b∈X.fs->b∉ch->s.heap.get? b=lD o->H b=Ld->∃sl,h'.get? b=lD {o with slots:=sl}) (free:∀b o,b∉ch->s.heap.get? b=lD o->H b=Ld->H' b=Ld)
  (there:∀b o,b∉ch->s.heap.get? b=lD o->∃o',h'.get? b=lD o')
  (SF:∀b xs,H b=lD (.tup xs)->H' b=lD (.tup xs)) (Sb:∀b o u,H b=lD (.frz o u)->H' b=lD (.frz o u)) (Sy:∀b ps,H b=lD (.W2 ps)->∃more,H' b=lD (.W2 (ps++more)))
  (ns:∀m,s.heap.Ns X.env.locals m->h'.Ns X.env.locals m) (NO:Ri X.prog X.w H' h') (hg:AllBare g'):
  Inv X pins σ H' {s with heap:=h',gens:=g',drawn:=d',toks:=t'}:=by
 have neL:∀b o,X.s₀.heap.get? b=lD o->b≠X.env.locals:=fun b o e=>Ml (LQ (Heap.lt_size e) I.ok.above);have Zj:∀b o,X.s₀.heap.get? b=lD o->b∉X.ex->b∉ch:=fun b o e hx hb=>by
  rcases(VB b hb).1 with z|z
  ·exact hx z
  ·exact absurd (LQ (Heap.lt_size e) z) (MC _)
 have cellK:∀x c,X.env.cells.lookup x=lD c->∀v,s.heap.IsCell c v->h'.IsCell c v:=fun x c e v ⟨o,ho,hd⟩=>by
  have X5:c∉ch:=fun z=>(VB c z).2.2.1 x c e rfl;by_cases hc:c∈X.fs
  ·obtain⟨sl,q⟩:=slot c o (I.WW x c e) hc X5 ho (I.Qs x c e);exact⟨_,q,hd⟩
  ·exact⟨o,keep c o (I.WW x c e) hc X5 ho (I.Qs x c e),hd⟩
 refine⟨I.ok,I.os,hg,⟨fun b o e n hb hx=> ?_,fun b o e n hb hx=> ?_,fun b o e n hx=> ?_,fun b o e hx=> ?_,fun b xs e=>SF b xs (I.base.SF b xs e),fun b o xs e=>Sb b o xs (I.base.Sb b o xs e),fun b ps e=> ?_⟩,?_,fun x c e=> ?_,?_,fun x c e=> ?_,fun p hp=> ?_,NO,I.len⟩
 ·exact keep b o (neL b o e) hb (Zj b o e hx) (I.base.keep b o e n hb hx) (I.base.free b o e n hx)
 ·obtain⟨sl,e1⟩:=I.base.slot b o e n hb hx;obtain⟨XQ,e2⟩:=slot b _ (neL b o e) hb (Zj b o e hx) e1 (I.base.free b o e n hx);exact⟨XQ,e2⟩
 ·obtain⟨o',e1⟩:=I.base.there b o e hx;exact free b o' (Zj b o e hx) e1 (I.base.free b o e n hx)
 ·obtain⟨o',e1⟩:=I.base.there b o e hx;exact there b o' (Zj b o e hx) e1
 ·obtain⟨m1,e1⟩:=I.base.Sy b ps e;obtain⟨m2,e2⟩:=Sy b _ e1;exact⟨m1++m2,by rw[e2,Array.append_assoc]⟩
 ·obtain⟨m,hn,hl⟩:=I.loc
  refine⟨m,ns m hn,fun i x v e1 e2 e3=> ?_⟩;obtain⟨u,r,l⟩:=hl i x v e1 e2 e3;refine⟨u,r,?_⟩;rcases l with l|⟨k,c,e,z⟩
  ·exact .inl l
  ·exact .inr ⟨k,c,e,cellK x c e _ z⟩
 ·obtain⟨v,z⟩:=I.cell x c e;exact⟨v,cellK x c e v z⟩
 ·obtain⟨m,⟨o,_,_,ho,_⟩,_⟩:=I.loc;exact free _ o (fun z=>(VB _ z).2.1 rfl) ho I.free
 ·obtain⟨v,o,ho,hd⟩:=I.cell x c e;exact free c o (fun z=>(VB c z).2.2.1 x c e rfl) ho (I.Qs x c e)
 ·obtain⟨e,n,ne,nf,d⟩:=I.pin p hp;have X5:p.1∉ch:=fun z=>(VB p.1 z).2.2.2 p hp rfl;exact⟨keep p.1 p.2 ne nf X5 e n,free p.1 p.2 X5 e n,ne,nf,d⟩
theorem Inv.un {t':Nat} (I:Inv X pins σ H s) (u:Un X.fs [] H H' s.heap h') (NO:Ri X.prog X.w H' h'):Inv X pins σ H' {s with heap:=h',toks:=t'}:=by obtain⟨m,⟨o,es,ep,ho,r⟩,_⟩:=id I.loc;obtain⟨sl,hL⟩:=u.any ho I.free (by simp);exact I.step (g':=s.gens) (d':=s.drawn) (ch:=[]) (fun _ z=>nomatch z) (fun b o _ hb _ e n=>u.keep b o e n hb (by simp)) (fun b o _ hb _ e n=>u.slot b o e n hb (by simp)) (fun b o _ e n=>u.free b o e n (by simp)) (fun b o _ e=>u.there b o e (by simp)) u.SF u.Sb u.Sy (fun m' hm=>by obtain⟨o',Wj,Yp,WN,r'⟩:=hm;rw[ho] at WN;cases WN;exact⟨_,Wj,Yp,hL,r'⟩) NO I.bare
theorem Inv.call {g':Array Rr} {t':Nat} {d':W4} {ch:List Lp} (I:Inv X pins σ H s) (u:Un (zh X.stack) ch H H' s.heap h') (NO:Ri X.prog X.w H' h') (hg:AllBare g')
  (VB:∀b∈ch,(b∈X.ex\/X.s₀.heap.objs.size<=b)/\b≠X.env.locals/\(∀x c,X.env.cells.lookup x=lD c->c≠b)/\∀p∈X.pn++pins,p.1≠b):
  Inv X pins σ H' {s with heap:=h',gens:=g',drawn:=d',toks:=t'}:=by
 obtain⟨m,⟨o,es,ep,ho,r⟩,_⟩:=id I.loc;obtain⟨sl,hL⟩:=u.any ho I.free fun z=>(VB _ z).2.1 rfl;exact I.step (ch:=ch) VB (fun b o hL hb hc e n=>u.keep b o e n (fun z=>(LN.mp (I.S3 b z)).elim hL hb) hc) (fun b o _ _ hc e n=>u.any e n hc) (fun b o hc e n=>u.free b o e n hc) (fun b o hc e=>u.there b o e hc) u.SF u.Sb u.Sy (fun m' hm=>by obtain⟨o',Wj,Yp,WN,r'⟩:=hm;rw[ho] at WN;cases WN;exact⟨_,Wj,Yp,hL,r'⟩) NO hg
theorem Inv.turned {t':Nat} {it:Lp} (I:Inv X pins σ H s) (k:∀b o,b≠it->s.heap.get? b=lD o->h'.get? b=lD o) (hn:H it=Ld) (hL:it≠X.env.locals)
  (h1:it∈X.ex\/X.s₀.heap.objs.size<=it) (h2:∀x c,X.env.cells.lookup x=lD c->c≠it) (h3:∀p∈X.pn++pins,p.1≠it):Inv X pins σ H {s with heap:=h',toks:=t'}:=by
 have nit:∀b u,H b=lD u->b≠it:=fun b u e z=>by rw[z,hn] at e;cases e
 refine I.step (g':=s.gens) (d':=s.drawn) (ch:=[it]) (fun b hb=> ?_) (fun b o _ _ hc e _=>k b o (fun z=>hc (by simp[z])) e) (fun b o _ _ hc e _=>⟨o.slots,k b o (fun z=>hc (by simp[z])) e⟩) (fun _ _ _ _ n=>n)
  (fun b o hc e=>⟨o,k b o (fun z=>hc (by simp[z])) e⟩) (fun _ _ e=>e) (fun _ _ _ e=>e) (fun b ps e=>⟨#[],by rw[e];simp⟩) (fun m hm=> ?_) (fun b u e=> ?_) I.bare
 ·have e:b=it:=by simpa using hb
  subst e;exact⟨h1,hL,h2,h3⟩
 ·obtain⟨o,es,ep,ho,r⟩:=hm;exact⟨o,es,ep,k _ o (Ne.symm hL) ho,r⟩
 ·refine(I.NO b u e).Va (fun c v hc q=>k c v ?_ q) (fun _ q=>q) fun _ _ q=>q
  rcases hc with z|z
  ·rw[z];exact nit b u e
  ·exact nit c _ z
theorem Inv.tok (I:Inv X pins σ H s) (t:Nat):Inv X pins σ H {s with toks:=t}:=I.un Un.refl I.NO
theorem Inv.kept {t':Nat} (I:Inv X pins σ H s) (k:∀b u,s.heap.get? b=lD u->h'.get? b=lD u):Inv X pins σ H {s with heap:=h',toks:=t'}:=I.un (Un.kept k) (I.NO.kept k)
theorem Inv.laid {a:Lp} {o:HO} {t':Nat} (I:Inv X pins σ H s) (k:∀b u,s.heap.get? b=lD u->h'.get? b=lD u) (hp:s.heap.objs.size<=a) (new:MY X.prog X.w (upd H a o) h' a o):
  Inv X pins σ (upd H a o) {s with heap:=h',toks:=t'}:=I.un (Un.laid k hp (I.NO.fresh hp)) (I.NO.laid k hp new)
theorem Inv.write {x e:Lp} {o:HO} {t':Nat} (I:Inv X pins σ H s) (mu:IJ (H x)) (he:e=x\/H e=lD (.own x)) (k:∀b u,b≠e->s.heap.get? b=lD u->h'.get? b=lD u) (Xb:∃u,h'.get? e=lD u)
  (new:MY X.prog X.w (upd H x o) h' x o):Inv X pins σ (upd H x o) {s with heap:=h',toks:=t'}:=I.un (Un.write mu he k Xb) (I.NO.write mu he k Xb new)
theorem Inv.Ts (I:Inv X pins σ H s) (h:∀p∈X2,s.heap.get? p.1=lD p.2/\H p.1=Ld/\p.1≠X.env.locals/\p.1∉X.fs/\∀v,p.2.data≠ .cell v):Inv X X2 σ H s:=
 ⟨I.ok,I.os,I.bare,I.base,I.loc,I.cell,I.free,I.Qs,fun p hp=>(LM.mp hp).elim (fun z=>I.pin p (Mm _ z)) (h p),I.NO,I.len⟩
theorem ue {N:List Str} (hN:N.Nodup) {i j:Nat} (a:N[i]? =lD x) (b:N[j]? =lD x):i=j:=by obtain⟨h1,e1⟩:=Lj.mp a;obtain⟨h2,e2⟩:=Lj.mp b;exact(List.getElem_inj hN).mp (e1.trans e2.symm)
theorem yV {M:Zw} {A:L0} {E:Lf->Lm->Prop} {i:Nat} {x:Str} {v:V} {u:Lf} {Q:Unit->Lm->Prop} (I:Inv X pins σ H s) (hN:X.N.Nodup) (hi:X.N[i]? =lD x) (hx:JX X.env.scope x) (r:RelV v u)
  (h:∀s',Inv X pins (σ.set i (lD v)) H s'->(∃a,Heap.SameBut a s.heap s'.heap/\(a=X.env.locals\/X.env.cells.lookup x=lD a))->Q () s') (hf:X.fn x=Lk\/X.env.scope.names.lookup x=lD .local:=by first|exact .inl rfl|exact .inr rfl|assumption):wpAny M A (storeName X.env x u) Q E s:=by
 obtain⟨m,hn,hl⟩:=id I.loc;have aaV:(X.env.scope.kind== .class||(X.env.scope.kind== .module&&X.env.locals !=X.env.globals))=Lw:=by rw[I.ok.kind];rfl
 have hiσ:i<σ.length:=by rw[I.len];exact(Lj.mp hi).1
 have WW:=I.WW;have tracked:∀{a:Lp} {h':Heap},(∃o,s.heap.get? a=lD o/\H a=Ld)->Heap.SameBut a s.heap h'->Ri X.prog X.w H h':=fun{a h'} ha hs b ob e=>by
  obtain⟨_,_,Wn⟩:=ha;refine(I.NO b ob e).Va (fun c w' hc q=>(hs.2 c ?_).trans q) (fun _ q=>q) fun _ _ q=>q;rintro rfl;rcases hc with rfl|hc
  ·rw[Wn] at e;cases e
  ·rw[Wn] at hc;cases hc
 rcases hx with hk|hk
 ·refine wpAny_storeName_local hk hn (fun h' YG hs=> ?_) aaV
  obtain⟨oL,_,_,Y6,_⟩:=id hn;refine h _ ⟨I.ok,I.os,I.bare,⟨fun b o e n hb hx=> ?_,fun b o e n hb hx=> ?_,I.base.free,fun b o e hx=> ?_,I.base.SF,I.base.Sb,I.base.Sy⟩,⟨_,YG,fun j y v' e1 e2 e3=> ?_⟩,fun y c e=> ?_,I.free,I.Qs,fun p hp=> ?_,tracked ⟨oL,Y6,I.free⟩ hs,by simpa using I.len⟩ ⟨_,hs,.inl rfl⟩
  ·exact(hs.2 b (Ml (LQ (Heap.lt_size e) I.ok.above))).trans (I.base.keep b o e n hb hx)
  ·obtain⟨sl,e1⟩:=I.base.slot b o e n hb hx;exact⟨sl,(hs.2 b (Ml (LQ (Heap.lt_size e) I.ok.above))).trans e1⟩
  ·obtain⟨o',e1⟩:=I.base.there b o e hx;exact⟨o',(hs.2 b (Ml (LQ (Heap.lt_size e) I.ok.above))).trans e1⟩
  ·by_cases hj:j=i
   ·subst hj;rw[hi] at e1;cases e1;rw[NQ hiσ] at e2;cases e2;exact⟨u,r,.inl ⟨hk,by simp⟩⟩
   ·rw[N7 (Ne.symm hj)] at e2
    obtain⟨u',r',q⟩:=hl j y v' e1 e2 e3;refine⟨u',r',?_⟩;rcases q with⟨k,e⟩|⟨k,c,e,z⟩
    ·refine .inl ⟨k,?_⟩;have:y≠x:=fun e=>hj (ue hN e1 (e▸hi));simp[this,e]
    ·exact .inr ⟨k,c,e,z.sameBut hs (WW y c e)⟩
  ·obtain⟨w',z⟩:=I.cell y c e;exact⟨w',z.sameBut hs (WW y c e)⟩
  ·obtain⟨e,n,ne,nf,d⟩:=I.pin p hp;exact⟨(hs.2 p.1 ne).trans e,n,ne,nf,d⟩
 ·have Z3:X.fn x=Lk:=by
   rcases hf with z|z
   ·exact z
   ·rw[z] at hk;cases hk
  obtain⟨c,hc⟩:=I.ok.has x (.inl hk);obtain⟨w',z⟩:=I.cell x c hc;refine wpAny_storeName_cell I.ok.kind hk hc z (fun h' Sj hs=> ?_);obtain⟨oc,Xh,aaB⟩:=id z;refine h {s with heap:=h'} ⟨I.ok,I.os,I.bare,⟨fun b o e n hb hx=> ?_,fun b o e n hb hx=> ?_,I.base.free,fun b o e hx=> ?_,I.base.SF,I.base.Sb,I.base.Sy⟩,⟨m,hn.sameBut hs (Ne.symm (WW x c hc)),fun j y v' e1 e2 e3=> ?_⟩,fun y c' e=> ?_,I.free,I.Qs,fun p hp=> ?_,tracked ⟨oc,Xh,I.Qs x c hc⟩ hs,by simpa using I.len⟩ ⟨c,hs,.inr hc⟩
  ·exact(hs.2 b (Ml (LQ (Heap.lt_size e) (I.ok.Xg x c Z3 hc)))).trans (I.base.keep b o e n hb hx)
  ·obtain⟨sl,e1⟩:=I.base.slot b o e n hb hx;exact⟨sl,(hs.2 b (Ml (LQ (Heap.lt_size e) (I.ok.Xg x c Z3 hc)))).trans e1⟩
  ·obtain⟨o',e1⟩:=I.base.there b o e hx;exact⟨o',(hs.2 b (Ml (LQ (Heap.lt_size e) (I.ok.Xg x c Z3 hc)))).trans e1⟩
  ·by_cases hj:j=i
   ·subst hj;rw[hi] at e1;cases e1;rw[NQ hiσ] at e2;cases e2;exact⟨u,r,.inr ⟨.inl hk,c,hc,Sj⟩⟩
   ·rw[N7 (Ne.symm hj)] at e2
    obtain⟨u',r',q⟩:=hl j y v' e1 e2 e3;refine⟨u',r',?_⟩;rcases q with q|⟨k,c',e,z'⟩
    ·exact .inl q
    ·refine .inr ⟨k,c',e,z'.sameBut hs ?_⟩;rintro rfl;exact hj (ue hN e1 (I.ok.inj _ _ _ e hc▸hi))
  ·by_cases hcc:c'=c
   ·subst hcc;exact⟨_,Sj⟩
   ·obtain⟨w2,z2⟩:=I.cell y c' e;exact⟨w2,z2.sameBut hs hcc⟩
  ·obtain⟨e,n,ne,nf,d⟩:=I.pin p hp;refine⟨(hs.2 p.1 ?_).trans e,n,ne,nf,d⟩;intro q;rw[q,Xh] at e;have q':oc=p.2:=LZ e;exact d w' (by rw[<-q'];exact aaB)
theorem tN {i:Nat} {v:V} {u:Lf} {Q:Unit->Lm->Prop} (I:Inv X pins σ H s) (hN:X.N.Nodup) (hi:X.N[i]? =lD x) (hx:JX X.env.scope x) (r:RelV v u)
  (h:∀s',Inv X pins (σ.set i (lD v)) H s'->Q () s') (hf:X.fn x=Lk\/X.env.scope.names.lookup x=lD .local:=by first|exact .inl rfl|exact .inr rfl|assumption):wpAny M A (storeName X.env x u) Q E s:=
 yV I hN hi hx r (fun s' I' _=>h s' I') hf
theorem Inv.X6 {s':Lm} {ch:List Lp} (I:Inv X pins σ H s) (ho:s'.os=s.os) (u:Un (zh X.stack) ch H H' s.heap s'.heap) (NO:Ri X.prog X.w H' s'.heap) (hg:AllBare s'.gens)
  (VB:∀b∈ch,(b∈X.ex\/X.s₀.heap.objs.size<=b)/\b≠X.env.locals/\(∀x c,X.env.cells.lookup x=lD c->c≠b)/\∀p∈X.pn++pins,p.1≠b):Inv X pins σ H' s':=by
 obtain⟨h',g',d',t',o'⟩:=s';have e:o'=s.os:=ho;subst e;exact I.call (g':=g') (t':=t') (d':=d') u NO hg VB
end
abbrev XK:=Lf->Option Lp->Hp->Prop
abbrev St:=List (Option V)
abbrev VK:=V->Hp->Prop
abbrev TE:=St->Hp->VK->Prop
abbrev TT:=St->Hp->(Bool->Hp->Prop)->Prop
abbrev TA:=St->Hp->(List V->Hp->Prop)->Prop
structure Ends where
 nx:St->Hp->Prop
 rt:VK
 bk:St->Hp->Prop:=fun _ _=>False
 ct:St->Hp->Prop:=fun _ _=>False
abbrev TS:=Ends->St->Hp->Prop
def EP (X:Cx) (pins:List (Lp×Obj)) (σ:St) (Q:VK) (u:Lf) (s':Lm):Prop:=∃v H',Inv X pins σ H' s'/\RelV v u/\Q v H'
def TP (X:Cx) (pins:List (Lp×Obj)) (σ:St) (Q:Bool->Hp->Prop) (b:Bool) (s':Lm):Prop:=∃H',Inv X pins σ H' s'/\Q b H'
def AP (X:Cx) (pins:List (Lp×Obj)) (σ:St) (Q:List V->Hp->Prop) (us:List Lf) (s':Lm):Prop:=∃vs H',Inv X pins σ H' s'/\Vals vs us/\Q vs H'
def SP (X:Cx) (pins:List (Lp×Obj)) (D:Ends) (f:Flow) (s':Lm):Prop:=
 match f with
 | .next=>∃σ' H',Inv X pins σ' H' s'/\D.nx σ' H'
 | .brk=>∃σ' H',Inv X pins σ' H' s'/\D.bk σ' H'
 | .cont=>∃σ' H',Inv X pins σ' H' s'/\D.ct σ' H'
 | .ret u=>∃v σ' H',Inv X pins σ' H' s'/\RelV v u/\D.rt v H'
def PE (X:Cx) (e:Mv) (t:TE):Prop:=
 ∀(pins:List (Lp×Obj)) (s:Lm) (σ:St) (H:Hp) (Q:VK),Inv X pins σ H s->t σ H Q->wpAny (model X.prog X.w) X.A (eval e X.env) (EP X pins σ Q) X.xe s
def PT (X:Cx) (e:Mv) (t:TT):Prop:=
 ∀(pins:List (Lp×Obj)) (s:Lm) (σ:St) (H:Hp) (Q:Bool->Hp->Prop),Inv X pins σ H s->t σ H Q->wpAny (model X.prog X.w) X.A (isTrue e X.env (eval e X.env)) (TP X pins σ Q) X.xe s
def PW (X:Cx) (e:Mv) (t:TT):Prop:=
 ∀(whole:Sem Lf) (pins:List (Lp×Obj)) (s:Lm) (σ:St) (H:Hp) (Q:Bool->Hp->Prop),Inv X pins σ H s->t σ H Q->wpAny (model X.prog X.w) X.A (isTrue e X.env whole) (TP X pins σ Q) X.xe s
theorem PW.pt (h:PW X e t):PT X e t:=h _
def PA (X:Cx) (es:List Mv) (t:TA):Prop:=
 ∀(pos:Pos) (pins:List (Lp×Obj)) (s:Lm) (σ:St) (H:Hp) (Q:List V->Hp->Prop),Inv X pins σ H s->t σ H Q->wpAny (model X.prog X.w) X.A (spliced (backTo pos (MM es X.env))) (AP X pins σ Q) X.xe s
def PS (X:Cx) (st:NZ) (t:TS):Prop:=
 ∀(pins:List (Lp×Obj)) (s:Lm) (σ:St) (H:Hp) (D:Ends),Inv X pins σ H s->t D σ H->wpAny (model X.prog X.w) X.A (exec st X.env) (SP X pins D) X.xe s
def Rq (X:Cx) (st:List NZ) (t:TS):Prop:=
 ∀(pins:List (Lp×Obj)) (s:Lm) (σ:St) (H:Hp) (D:Ends),Inv X pins σ H s->t D σ H->wpAny (model X.prog X.w) X.A (execs st X.env) (SP X pins D) X.xe s
theorem ce {α:Type} {t:Sem α} {Q Q':α->Lm->Prop} {M:Zw} {A:L0} {E:Lf->Lm->Prop} {s:Lm} (h:wpAny M A t Q E s) (hQ:∀a s,Q a s->Q' a s):wpAny M A t Q' E s:=wpAny_mono h hQ fun _ _ x=>x
section
variable {X:Cx}
def oi (i:Nat):TE:=fun σ H Q=>∃v,σ[i]? =lD (lD v)/\Q v H
def tC (v:V):TE:=fun _ H Q=>Q v H
theorem GI (hN:X.N[i]? =lD x) (hv:J7 X.env.scope x) (hd:(x==("__debug__":Str))=Lw:=by decide) (Tf:(x==("__classdict__":Str))=Lw:=by decide):PE X (.Name x pos) (oi i):=by
 intro pins s σ H Q I h;obtain⟨v,e,h⟩:=h;obtain⟨m,hn,hl⟩:=I.loc;obtain⟨u,r,l⟩:=hl i x v hN e hv;have fin:EP X pins σ Q u s:=⟨v,H,I,r,h⟩;rcases l with⟨hk,hm⟩|⟨hk,c,hc,Wo⟩
 ·exact Wq (wpAny_loadName_local I.ok.kind hk hn hm fin) hd
 ·rcases hk with hk|hk
  ·exact Wq (wpAny_loadName_cell I.ok.kind hk hc Wo fin) hd
  ·exact Wq (wpAny_loadName_free I.ok.kind hk hc Wo fin Tf) hd
theorem aO {i j pos}:PE X (.Constant (.int i) j pos) (tC (.int i)):=fun _ _ _ H _ I h=>wpAny_Constant_int ⟨.int i,H,I.tok _,⟨_,rfl⟩,h⟩
theorem sM {b j pos}:PE X (.Constant (.bool b) j pos) (tC (.bl b)):=fun _ _ _ H _ I h=>Constant_bool ⟨.bl b,H,I,rfl,h⟩
theorem qk {j pos}:PE X (.Constant .none j pos) (tC .ON):=fun _ _ _ H _ I h=>Constant_none ⟨.ON,H,I,rfl,h⟩
theorem uB {x j pos}:PE X (.Constant (.str x) j pos) (tC (.str x)):=fun _ _ _ H _ I h=>Calls.Constant_str ⟨.str x,H,I.tok _,⟨_,rfl⟩,h⟩
def Gl (X:Cx) (x:Str):Prop:=X.env.kindOf x=lD .globalImplicit
theorem Dy (I:Inv X pins σ H s) (hg:Gl X x) (hm:X.mg x=lD u) (h:Q u s)
  (hd:(x==("__debug__":Str))=Lw:=by decide):wpAny (model X.prog X.w) X.A (eval (.Name x pos) X.env) Q E s:=
 Calls.Name_function_global I.ok.kind hg (Calls.loadGlobal_global (by rw[I.ok.glob];exact I.mod.glob.keeps I.bk) hm h) hd
theorem my (I:Inv X pins σ H s) (hg:Gl X x) (hm:X.mg x=Ld) (hv:ML x=lD u) (h:Q u s)
  (hn:x≠ "__name__":=by decide) (hd:(x==("__debug__":Str))=Lw:=by decide):wpAny (model X.prog X.w) X.A (eval (.Name x pos) X.env) Q E s:=by
 obtain⟨mb,h1,h2⟩:=I.mod.blt;exact Calls.Name_function_global I.ok.kind hg (Calls.loadGlobal_builtin (by rw[I.ok.glob];exact I.mod.glob.keeps I.bk) hm (by rw[I.ok.blt];exact h1.keeps I.bk) ((h2 x hn).trans hv) h) hd
theorem l6 (hg:Gl X x) (hm:X.mg x=Ld) (hv:ML x=lD u) (r:RelV v u) (hn:x≠ "__name__":=by decide) (hd:(x==("__debug__":Str))=Lw:=by decide):PE X (.Name x pos) (tC v):=
 fun _ _ _ H _ I h=>my I hg hm hv ⟨v,H,I,r,h⟩ hn hd
variable {a b:Mv} {ta tb:TE} {pos:Pos}
def PC (X:Cx) (op:CmpOp) (a b:Mv) (t:TE):Prop:=
 ∀(pins:List (Lp×Obj)) (s:Lm) (σ:St) (H:Hp) (Q:VK),Inv X pins σ H s->t σ H Q->
  wpAny (model X.prog X.w) X.A (eval a X.env) (fun v s₁=>wpAny (model X.prog X.w) X.A (eval b X.env) (fun u s₂=>wpAny (model X.prog X.w) X.A (NG op v u) (EP X pins σ Q) X.xe s₂) X.xe s₁) X.xe s
def tB (t:TE):TT:=fun σ H Q=>t σ H fun x H1=>∃c,x= .bl c/\Q c H1
theorem BL (h:PC X op a b t) (h1:behindInMarks op b=Lw:=by first|exact UM _ (by decide) (by decide)|rfl):PE X (.Compare a [op] [b] pos) t:=fun pins s σ H Q I hw=>Zx (h pins s σ H Q I hw) h1
theorem ql (h:PC X op a b t) (h1:behindInMarks op b=Lw:=by first|exact UM _ (by decide) (by decide)|rfl):PT X (.Compare a [op] [b] pos) (tB t):=by intro pins s σ H Q I hw;refine Vg (ce (h pins s σ H _ I hw) fun v s1 h1=>ce h1 fun u s2 h2=>ce h2 fun c s3 ⟨x,H1,I1,r1,q1⟩=> ?_) h1;obtain⟨d,rfl,q⟩:=q1;cases r1;exact Nt ⟨H1,I1,q⟩
theorem kO {e:Mv} {t:TE} (h:PE X e t) (he:∀whole,isTrue e X.env whole=(do let v<-whole;standAt e.pos;holding [v] (truthy v)):=by intro _;rfl):PT X e (tB t):=by intro pins s σ H Q I hw;refine isTrue_plain (ce (h pins s σ H _ I hw) fun v s1 ⟨x,H1,I1,r1,q1⟩=> ?_) (he _);obtain⟨d,rfl,q⟩:=q1;cases r1;exact Nt ⟨H1,I1,q⟩
variable {tA Zi:TT} {rest:List Mv}
def Jl (t u:TT):TT:=fun σ H Q=>t σ H fun c H1=>if c=Lk then u σ H1 Q else Q Lw H1
def JY (t u:TT):TT:=fun σ H Q=>t σ H fun c H1=>if c=Lk then Q Lk H1 else u σ H1 Q
def GU (t:TT):TT:=fun σ H Q=>t σ H fun c H1=>Q (!c) H1
theorem xY (ha:PT X a tA):PW X (.BoolOp .And [a] pos) tA:=by
 intro wh pins s σ H Q I h;refine isTrue_and (ce (ha pins s σ H Q I h) fun c s1 e=> ?_);cases c with
 |true=>exact isTrue_and_nil e
 |false=>exact e
theorem uI (ha:PT X a tA):PW X (.BoolOp .Or [a] pos) tA:=by
 intro wh pins s σ H Q I h;refine isTrue_or (ce (ha pins s σ H Q I h) fun c s1 e=> ?_);cases c with
 |false=>exact isTrue_or_nil e
 |true=>exact e
theorem A6 (ha:PT X a tA) (hb:PW X (.BoolOp .And (b::rest) pos) Zi):PW X (.BoolOp .And (a::b::rest) pos) (Jl tA Zi):=by
 intro wh pins s σ H Q I h;refine isTrue_and (ce (ha pins s σ H _ I h) fun c s1 ⟨H1,I1,q1⟩=> ?_);cases c with
 |true=>exact hb wh pins s1 σ H1 Q I1 q1
 |false=>exact⟨H1,I1,q1⟩
theorem Bf (ha:PT X a tA) (hb:PW X (.BoolOp .Or (b::rest) pos) Zi):PW X (.BoolOp .Or (a::b::rest) pos) (JY tA Zi):=by
 intro wh pins s σ H Q I h;refine isTrue_or (ce (ha pins s σ H _ I h) fun c s1 ⟨H1,I1,q1⟩=> ?_);cases c with
 |true=>exact⟨H1,I1,q1⟩
 |false=>exact hb wh pins s1 σ H1 Q I1 q1
theorem mJ (ha:PT X a tA):PT X (.UnaryOp .Not a pos) (GU tA):=by intro pins s σ H Q I h;exact isTrue_not (ha pins s σ H (fun c H1=>Q (!c) H1) I h)
def Fh (ta tb:TE):TE:=fun σ H Q=>ta σ H fun x H1=>∃c,x= .bl c/\if c=Lk then tb σ H1 Q else Q (.bl Lw) H1
def Fd (ta:TE):TE:=fun σ H Q=>ta σ H fun x H1=>∃c,x= .bl c/\Q (.bl (!c)) H1
theorem B7 {op} (h:PE X a t):PE X (.BoolOp op [a] pos) t:=fun pins s σ H Q I hw=>BoolOp_one (h pins s σ H Q I hw)
theorem zC (ha:PE X a ta) (hb:PE X (.BoolOp .And (b::rest) pos) tb):PE X (.BoolOp .And (a::b::rest) pos) (Fh ta tb):=by
 intro pins s σ H Q I h;refine BoolOp_and (ce (ha pins s σ H _ I h) fun v s1 ⟨x,H1,I1,r1,q1⟩=> ?_);obtain⟨c,rfl,q1⟩:=q1;cases r1;refine Nt ?_;cases c with
 |true=>exact hb pins s1 σ H1 Q I1 q1
 |false=>exact⟨.bl Lw,H1,I1,rfl,q1⟩
theorem CK (ha:PE X a ta):PE X (.UnaryOp .Not a pos) (Fd ta):=by intro pins s σ H Q I h;refine UnaryOp_ (ce (ha pins s σ H _ I h) fun v s1 ⟨x,H1,I1,r1,q1⟩=> ?_);obtain⟨c,rfl,q1⟩:=q1;cases r1;exact not_of (Nt ⟨.bl (!c),H1,I1,rfl,q1⟩)
end
def Ql (K:Lc) (H:Hp) (a:Lp) (xs:List V):Prop:=
 Rd H a (.lst xs)\/
  ∃(o:Obj) (MD:Array Lf) (n:Nat),K.lookup a=lD o/\o.cls= .type "list"/\o.dict=Ld/\o.data= .seq MD n/\MD.size<=LL/\Vals xs MD.toList
def P9 (K:Lc) (H:Hp) (a:Lp) (xs:List V):Prop:=
 Rd H a (.tup xs)\/
  ∃(o:Obj) (MD:Array Lf) (n:Nat),K.lookup a=lD o/\(o.cls= .type "tuple"/\o.dict=Ld)/\o.data= .seq MD n/\MD.size<=LL/\Vals xs MD.toList
noncomputable def Kl:Lf->Option V
 | .none=>lD .ON
 | .bool b=>lD (.bl b)
 | .int i _=>lD (.int i)
 | .str x _=>lD (.str x)
 | .bytes b _=>lD (.X9 b)
 | .float b _=>lD (.YA b)
 | .ref a=>lD (.ref a)
 | .type n=>lD (.ty n)
 |_=>Ld
theorem RelV.abs (r:RelV x u):Kl u=lD x:=by
 cases x with
 |ON=>cases r;rfl
 |bl _=>cases r;rfl
 |int _=>obtain⟨t,rfl⟩:=r;rfl
 |str _=>obtain⟨t,rfl⟩:=r;rfl
 |X9 _=>obtain⟨t,rfl⟩:=r;rfl
 |YA _=>obtain⟨t,rfl⟩:=r;rfl
 |ref _=>cases r;rfl
 |ty _=>cases r;rfl
theorem RelV.inj (r:RelV x u) (q:RelV y u):x=y:=LZ (r.abs.symm.trans q.abs)
theorem Vals.inj:∀{xs ys:List V} {us:List Lf},Vals xs us->Vals ys us->xs=ys
 |_,_,_,.nil,.nil=>rfl
 |_,_,_,.cons r t,.cons r' t'=>by rw[r.inj r',Vals.inj t t']
section
variable {X:Cx} {pins:List (Lp×Obj)} {σ:St} {H:Hp} {s:Lm} {a:Lp} {xs ys:List V}
theorem Ql.of {K:Lc} (h:H a=lD (.lst xs)):Ql K H a xs:= .inl (.inl h)
theorem P9.of {K:Lc} (h:H a=lD (.tup xs)):P9 K H a xs:= .inl (.inl h)
theorem Inv.list (I:Inv X pins σ H s) (h:Ql X.K H a xs):∃MD:List Lf,Vals xs MD/\PlainL s.heap a MD.toArray/\xs.length<=LL:=by
 rcases h with h|⟨o,MD,n,hk,hc,hd,hs,hz,r⟩
 ·obtain⟨z,MD,n,r,e⟩:=h.ok I.NO;exact⟨MD,r,⟨_,n,e,rfl,rfl,rfl⟩,z⟩
 ·refine⟨MD.toList,r,⟨o,n,I.T5 a o hk,hc,hd,by simpa using hs⟩,?_⟩;have e:=r.length;simp only[L5] at e;omega
theorem Inv.tuple (I:Inv X pins σ H s) (h:P9 X.K H a xs):∃MD:List Lf,Vals xs MD/\IsTup s.heap a MD.toArray/\xs.length<=LL:=by
 rcases h with h|⟨o,MD,n,hk,hc,hs,hz,r⟩
 ·obtain⟨z,MD,r,p⟩:=h.ok I.NO;exact⟨MD,r,p.tup,z⟩
 ·refine⟨MD.toList,r,⟨o,I.T5 a o hk,hc.1,n,by simpa using hs⟩,?_⟩;have e:=r.length;simp only[L5] at e;omega
theorem Inv.US (I:Inv X pins σ H s) (h:Ql X.K H a xs) (h':Ql X.K H a ys):xs=ys:=by
 obtain⟨MD,r,⟨o,n,e,_,_,d⟩,_⟩:=I.list h;obtain⟨S2,r',⟨o',n',e',_,_,d'⟩,_⟩:=I.list h';rw[e] at e';cases e';rw[d] at d';injection d' with d1 _;have:MD=S2:=by simpa using congrArg Wr d1
 subst this;exact r.inj r'
theorem Inv.T4 (I:Inv X pins σ H s) (h:P9 X.K H a xs) (h':P9 X.K H a ys):xs=ys:=by
 obtain⟨MD,r,⟨o,e,_,n,d⟩,_⟩:=I.tuple h;obtain⟨S2,r',⟨o',e',_,n',d'⟩,_⟩:=I.tuple h';rw[e] at e';cases e';rw[d] at d';injection d' with d1 _;have:MD=S2:=by simpa using congrArg Wr d1
 subst this;exact r.inj r'
end
noncomputable abbrev Cx.Q4 (X:Cx) (E:Lf->Lm->Prop):Cx:={X with xe:=E}
noncomputable abbrev Cx.Vx (X:Cx):Cx:=X.Q4 fun _ _=>False
theorem Cx.Ok.Q4 {X:Cx} (ok:X.Ok) (E:Lf->Lm->Prop):(X.Q4 E).Ok:=
 ⟨ok.mod,ok.kind,ok.glob,ok.blt,ok.above,ok.inj,ok.has,ok.Xg,ok.hd,ok.frames,ok.YD,ok.Yg,ok.bs,ok.VV,ok.T6,ok.TY,ok.Q3,ok.WH⟩
theorem Cx.Ok.PJ {X:Cx} (ok:(X.Q4 E).Ok):X.Ok:=
 ⟨ok.mod,ok.kind,ok.glob,ok.blt,ok.above,ok.inj,ok.has,ok.Xg,ok.hd,ok.frames,ok.YD,ok.Yg,ok.bs,ok.VV,ok.T6,ok.TY,ok.Q3,ok.WH⟩
section
variable {X:Cx} {pins:List (Lp×Obj)} {σ:St} {H:Hp} {s:Lm} {E:Lf->Lm->Prop}
theorem Inv.Q4 (I:Inv X pins σ H s) (E:Lf->Lm->Prop):Inv (X.Q4 E) pins σ H s:=⟨I.ok.Q4 E,I.os,I.bare,I.base,I.loc,I.cell,I.free,I.Qs,I.pin,I.NO,I.len⟩
theorem Inv.PJ (I:Inv (X.Q4 E) pins σ H s):Inv X pins σ H s:=⟨I.ok.PJ,I.os,I.bare,I.base,I.loc,I.cell,I.free,I.Qs,I.pin,I.NO,I.len⟩
theorem SP.PJ (h:SP (X.Q4 E) pins D f s'):SP X pins D f s':=by
 cases f with
 |next=>obtain⟨σ',H',I,q⟩:=h;exact⟨σ',H',I.PJ,q⟩
 |brk=>obtain⟨σ',H',I,q⟩:=h;exact⟨σ',H',I.PJ,q⟩
 |cont=>obtain⟨σ',H',I,q⟩:=h;exact⟨σ',H',I.PJ,q⟩
 |ret u=>obtain⟨v,σ',H',I,r,q⟩:=h;exact⟨v,σ',H',I.PJ,r,q⟩
theorem Rq.Vx {st:List NZ} (h:Rq X.Vx st t):Rq X st t:=fun pins s σ H D I hw=>
 wpAny_mono (h pins s σ H D (I.Q4 _) hw) (fun _ _ q=>q.PJ) fun _ _ z=>False.elim z
end
section
variable {X:Cx} {st:NZ} {rest:List NZ} {t u:TS} {e:Mv} {te:TE} {pos:Pos}
def zT:TS:=fun D σ H=>D.nx σ H
def GF (t u:TS):TS:=fun D σ H=>t {D with nx:=u D} σ H
theorem dG:Rq X [] zT:=fun _ _ σ H _ I h=>Qv ⟨σ,H,I,h⟩
theorem ah (h1:PS X st t) (h2:Rq X rest u):Rq X (st::rest) (GF t u):=by
 intro pins s σ H D I h;refine XA (ce (h1 pins s σ H {D with nx:=u D} I h) fun f s1 q=> ?_);cases f with
 |next=>obtain⟨σ',H',I',q⟩:=q;exact h2 pins s1 σ' H' D I' q
 |ret v=>exact q
 |brk=>exact q
 |cont=>exact q
theorem aD (h1:PS X st t):Rq X [st] t:=by
 intro pins s σ H D I h;refine XA (ce (h1 pins s σ H D I h) fun f s1 q=> ?_);cases f with
 |next=>exact Qv q
 |ret v=>exact q
 |brk=>exact q
 |cont=>exact q
theorem Inv.quiet {pins:List (Lp×Obj)} {σ:St} {H:Hp} {s:Lm} (I:Inv X pins σ H s):interactive X.env=Lw:=by simp[interactive,I.ok.kind]
def zt (te:TE):TS:=fun D σ H=>te σ H fun _ H1=>D.nx σ H1
theorem jN (he:PE X e te) (hs:Nz e Ld pos.line X.env=pure Lw:=by rfl):PS X (.Expr e pos) (zt te):=by intro pins s σ H D I h;exact wpAny_Expr_any (ce (he pins s σ H _ I h) fun v s1 ⟨x,H1,I1,r1,q1⟩=>⟨σ,H1,I1,q1⟩) I.quiet hs
def Ib (te:TE):TS:=fun D σ H=>te σ H D.rt
theorem bJ (he:PE X e te):PS X (.Return (lD e) pos) (Ib te):=by intro pins s σ H D I h;exact wpAny_Return_some (ce (he pins s σ H _ I h) fun v s1 ⟨x,H1,I1,r1,q1⟩=>⟨x,σ,H1,I1,r1,q1⟩)
def FZ (c:TT) (t u:TS):TS:=fun D σ H=>c σ H fun b H1=>if b=Lk then t D σ H1 else u D σ H1
theorem iI (hc:PT X c tc) (ha:Rq X a t) (hb:Rq X b u):PS X (.If c a b pos) (FZ tc t u):=by
 intro pins s σ H D I h;refine wpAny_If (ce (hc pins s σ H _ I h) fun d s1 ⟨H1,I1,q1⟩=> ?_);cases d with
 |true=>exact ha pins s1 σ H1 D I1 q1
 |false=>exact hb pins s1 σ H1 D I1 q1
end
abbrev TG:=V->St->Hp->(St->Hp->Prop)->Prop
abbrev Hi:=List V->St->Hp->(St->Hp->Prop)->Prop
def PG (X:Cx) (target:Mv) (t:TG):Prop:=
 ∀(pins:List (Lp×Obj)) (s:Lm) (σ:St) (H:Hp) (v:V) (u:Lf) (Q:St->Hp->Prop),Inv X pins σ H s->RelV v u->t v σ H Q->
  wpAny (model X.prog X.w) X.A (assign target X.env u) (fun _ s'=>∃σ' H',Inv X pins σ' H' s'/\Q σ' H') X.xe s
def JM (X:Cx) (ts:List Mv) (t:Hi):Prop:=
 ∀(pins:List (Lp×Obj)) (s:Lm) (σ:St) (H:Hp) (vs:List V) (us:List Lf) (Q:St->Hp->Prop),Inv X pins σ H s->Vals vs us->t vs σ H Q->
  wpAny (model X.prog X.w) X.A (assignInOrder ((assignEach ts X.env).map (·.2)) us) (fun _ s'=>∃σ' H',Inv X pins σ' H' s'/\Q σ' H') X.xe s
section
variable {X:Cx} {pos:Pos}
def o0 (i:Nat):TG:=fun v σ H Q=>Q (σ.set i (lD v)) H
theorem bH (hN:X.N.Nodup) (hi:X.N[i]? =lD x) (hx:JX X.env.scope x) (hf:X.fn x=Lk\/X.env.scope.names.lookup x=lD .local:=by first|exact .inl rfl|exact .inr rfl|assumption):PG X (.Name x pos) (o0 i):=by intro pins s σ H v u Q I r h;exact wpAny_assign_Name (tN I hN hi hx r (fun s' I'=>⟨_,H,I',h⟩) hf)
noncomputable def HD:Hi:=fun vs σ H Q=>vs=[]/\Q σ H
noncomputable def Bb (t:TG) (u:Hi):Hi:=fun vs σ H Q=>∃v r,vs=v::r/\t v σ H fun σ' H'=>u r σ' H' Q
theorem jR:JM X [] HD:=by intro pins s σ H vs us Q I r h;obtain⟨e,h⟩:=h;subst e;cases r;exact assignInOrder_nil ⟨σ,H,I,h⟩
theorem dR (h1:PG X e t) (h2:JM X es u)
  (hs:(assignEach (e::es) X.env).map (·.2)=assign e X.env::(assignEach es X.env).map (·.2):=by rfl):JM X (e::es) (Bb t u):=by
 intro pins s σ H vs us Q I r h;obtain⟨v,vr,e1,h⟩:=h;subst e1;cases r with
 |cons r rr=>rw[hs];refine assignInOrder_cons (ce (h1 pins s σ H _ _ _ I r h) fun _ s1 ⟨σ1,H1,I1,q1⟩=> ?_);exact h2 pins s1 σ1 H1 _ _ Q I1 rr q1
def FR (K:Lc) (n:Nat) (t:Hi):TG:=fun v σ H Q=>∃a xs,v= .ref a/\P9 K H a xs/\xs.length=n/\t xs σ H Q
theorem nK (hc:X.calm=Lk) (h:JM X es t)
  (hn:(assignEach es X.env).length=n:=by rfl) (Se:(assignEach es X.env).findIdx? (·.1)=Ld:=by rfl):PG X (.Tuple es k pos) (FR X.K n t):=by
 intro pins s σ H v u Q I r hw;obtain⟨a,xs,e1,hq,hl,hw⟩:=hw;subst e1;cases r;obtain⟨MD,rv,ht,hz⟩:=I.tuple hq;refine assign_Tuple_tuple (I.ok.hd hc) ht (by simp[hn,<-hl,rv.length]) Se fun h' hx=> ?_;have I1:=I.kept (t':=s.toks) fun b o e=>hx b o (Ml (Heap.lt_size e)) e;exact h pins _ σ H xs _ Q I1 (by simpa using rv) hw
def Gs (te:TE) (g:TG):TS:=fun D σ H=>te σ H fun x H1=>g x σ H1 D.nx
theorem bB {i:Nat} {x:Str} {e:Mv} {te:TE} {pos':Pos} (hN:X.N.Nodup) (hi:X.N[i]? =lD x) (hx:JX X.env.scope x) (he:PE X e te) (hs:Nz e (lD (.Name x pos')) pos.line X.env=pure Lw:=by rfl) (hf:X.fn x=Lk\/X.env.scope.names.lookup x=lD .local:=by first|exact .inl rfl|exact .inr rfl|assumption):
  PS X (.Assign [.Name x pos'] e pos) (Gs te (o0 i)):=by
 intro pins s σ H D I h;refine wpAny_Assign_Name (ce (he pins s σ H _ I h) fun v s1 ⟨y,H1,I1,r1,q1⟩=> ?_) hs;exact tN I1 hN hi hx r1 (fun s2 I2=>⟨_,H1,I2,q1⟩) hf
end
section
variable {X:Cx} {pos:Pos}
def Cp (c:TT) (tb:TS):TS:=fun D σ H=>∃W:Nat->St->Hp->Prop,(∃m,W m σ H)/\∀m σ H,W m σ H->
 c σ H fun b H1=>if b=Lk then∃N:St->Hp->Prop,(∀σ' H',N σ' H'->∃m',m'<m/\W m' σ' H')/\tb {D with nx:=N,ct:=N,bk:=D.nx} σ H1 else D.nx σ H1
theorem sX (hp:OP (model X.prog X.w) X.A X.env X.xe) (hc:PT X c tc) (hb:Rq X body tb):PS X (.While c body [] pos) (Cp tc tb):=by
 intro pins s σ H D I h;obtain⟨W,⟨m0,w0⟩,turn⟩:=h;refine wpAny_While (codeAny_whileLoop (fun n s'=>∃σ' H',Inv X pins σ' H' s'/\W n σ' H') ?_ m0 ⟨σ,H,I,w0⟩);rintro n s1 ⟨σ1,H1,I1,w1⟩;refine N0 hp (ce (hc pins s1 σ1 H1 _ I1 (turn n σ1 H1 w1)) fun b s2 ⟨H2,I2,q2⟩=> ?_);cases b with
 |true=>
  obtain⟨N,hN,q2⟩:=q2;rw[if_pos rfl];refine N0 hp (ce (hb pins s2 σ1 H2 _ I2 q2) fun f s3 q3=> ?_);cases f with
  |next=>obtain⟨σ3,H3,I3,n3⟩:=q3;obtain⟨m',hm,w3⟩:=hN σ3 H3 n3;exact⟨m',hm,σ3,H3,I3,w3⟩
  |cont=>obtain⟨σ3,H3,I3,n3⟩:=q3;obtain⟨m',hm,w3⟩:=hN σ3 H3 n3;exact⟨m',hm,σ3,H3,I3,w3⟩
  |brk=>exact q3
  |ret v=>exact q3
 |false=>rw[if_neg LA];exact Qv ⟨σ1,H2,I2,q2⟩
end
structure It where
 go:Nat->Hp->Prop
 Xp:Nat->Hp->V->Hp->Prop
 stop:Nat->Hp->Prop
def n9 (X:Cx) (pins:List (Lp×Obj)) (H:Hp) (b:Lp):Prop:=
 H b=Ld/\b≠X.env.locals/\b∉X.fs/\(b∈X.ex\/X.s₀.heap.objs.size<=b)/\(∀x c,X.env.cells.lookup x=lD c->c≠b)/\∀p∈X.pn++pins,p.1≠b
theorem Inv.TQ (I:Inv X pins σ H s) (hb:s.heap.objs.size<=b) (hn:H' b=Ld):n9 X pins H' b:=by
 refine⟨hn,OV (LQ I.lt hb),I.aa2 hb,.inr (LF I.sz hb),fun x c e z=> ?_,fun p hp z=> ?_⟩
 ·obtain⟨v,q⟩:=I.cell x c e;exact absurd (LQ q.lt (by rw[z];exact hb)) (MC _)
 ·exact absurd (LQ (Heap.lt_size (I.pin p hp).1) (by rw[z];exact hb)) (MC _)
structure Turn (P:LR) (w:Mg) (K:Lc) (tg:Mv) (J:It) (fp:List Lp) (it:Lp) (tn:Nat->Heap->Prop):Prop where
 mem:it∈fp
 obj:∀i h,tn i h->∀b∈fp,∃o,h.get? b=lD o/\∀v,o.data≠ .cell v
 keep:∀i h h',tn i h->(∀b∈fp,∀o,h.get? b=lD o->h'.get? b=lD o)->tn i h'
 item:∀(X:Cx),X.prog=P->X.w=w->X.K=K->X.calm=Lk->∀(i:Nat) (pins:List (Lp×Obj)) (s:Lm) (σ:St) (H:Hp) (E:Lf->Lm->Prop),Inv X pins σ H s->(∀b∈fp,n9 X pins H b)->tn i s.heap->J.go i H->
  wpAny (model P w) X.A (pyNext (.ref it)) (fun r s1=>∃u,r=lD u/\
   wpAny (model P w) X.A (letOwnedTupleGo tg (.ref it) u) (fun _ s2=>∃x H',Inv X pins σ H' s2/\RelV x u/\J.Xp i H x H'/\tn (i+1) s2.heap/\∀b∈fp,H' b=Ld) E s1) E s
 done:∀(X:Cx),X.prog=P->X.w=w->X.K=K->X.calm=Lk->∀(i:Nat) (pins:List (Lp×Obj)) (s:Lm) (σ:St) (H:Hp) (E:Lf->Lm->Prop),Inv X pins σ H s->(∀b∈fp,n9 X pins H b)->tn i s.heap->J.stop i H->
  wpAny (model P w) X.A (pyNext (.ref it)) (fun r s1=>r=Ld/\Inv X pins σ H s1) E s
 self:∀(A:L0) (i:Nat) (s:Lm) (Q:Lf->Lm->Prop) (E:Lf->Lm->Prop),tn i s.heap->Q (.ref it) s->wpAny (model P w) A (pyIter (.ref it)) Q E s
abbrev TI:=St->Hp->(It->Hp->Prop)->Prop
def Kz (X:Cx) (pins:List (Lp×Obj)) (σ:St) (tg:Mv) (R:It->Hp->Prop) (itv:Lf) (s2:Lm):Prop:=
 ∃(it:Lp) (fp:List Lp) (tn:Nat->Heap->Prop) (J:It) (H':Hp),itv= .ref it/\Inv X pins σ H' s2/\Turn X.prog X.w X.K tg J fp it tn/\tn 0 s2.heap/\(∀b∈fp,n9 X pins H' b)/\R J H'
def PI (X:Cx) (tg iter:Mv) (wi:TI):Prop:=
 ∀(pins:List (Lp×Obj)) (s:Lm) (σ:St) (H:Hp) (R:It->Hp->Prop),Inv X pins σ H s->wi σ H R->
  wpAny (model X.prog X.w) X.A (eval iter X.env) (fun v s1=>wpAny (model X.prog X.w) X.A (pyIter v) (Kz X pins σ tg R) X.xe s1) X.xe s
theorem sQ {M:Zw} {A:L0} {E:Lf->Lm->Prop} {s:Lm} {tg:Mv} {it:Lp} {u:Lf} {o:Obj} {n:String} {vs:Array Lf} {Q:Unit->Lm->Prop} (ho:s.heap.get? it=lD o) (hc:o.cls= .type n) (hd:o.data= .fields vs)
  (hn:["enumerate","zip","dict_itemiterator","dict_reverseitemiterator","odict_iterator","itertools.zip_longest","itertools.pairwise"].contains n=Lw) (hQ:Q () s):wpAny M A (letOwnedTupleGo tg (.ref it) u) Q E s:=by
 unfold letOwnedTupleGo;cases tg<;>first
  |exact Li hQ
  |(cases u<;>first
    |exact Li hQ
    |(refine Bn (wpAny_load ho ?_)
      rw[hc,hd];show wpAny M A (if(["enumerate","zip","dict_itemiterator","dict_reverseitemiterator","odict_iterator","itertools.zip_longest","itertools.pairwise"].contains n&&vs[0]? ==lD (rawInt _))=Lk then _ else _) Q E s;rw[if_neg (by intro h;rw[hn,O8] at h;cases h)];exact Li hQ))
noncomputable def Ko (K:Lc) (a:Lp):It:=
 ⟨fun i H=>∃xs x,Ql K H a xs/\xs[i]? =lD x,fun i H x H'=>H'=H/\∀xs,Ql K H a xs->xs[i]? =lD x,fun i H=>∃xs,Ql K H a xs/\xs.length<=i⟩
noncomputable def J9 (K:Lc) (a:Lp):It:=
 ⟨fun i H=>∃xs x,P9 K H a xs/\xs[i]? =lD x,fun i H x H'=>H'=H/\∀xs,P9 K H a xs->xs[i]? =lD x,fun i H=>∃xs,P9 K H a xs/\xs.length<=i⟩
noncomputable def IC (lo:Int) (n:Nat):It:=⟨fun i _=>i<n,fun i H x H'=>H'=H/\x= .int (lo+i),fun i _=>n<=i⟩
theorem zc {K:Lc} (a it:Lp):Turn P w K tg (Ko K a) [it] it (fun i h=>h.IsListIter it a i) where
 mem:=by simp
 obj:=fun i h st b hb=>by
  have e:b=it:=by simpa using hb
  subst e;obtain⟨o,e,c,d⟩:=st;exact⟨o,e,fun v z=>by rw[d] at z;cases z⟩
 keep:=fun i h h' st k=>st.at fun o e=>k it (by simp) o e
 item:=by intro X hP hw hK hc i pins s σ H E I hf st hg;subst hP hw hK;obtain⟨xs,x,hq,hx⟩:=hg;obtain⟨MD,rv,p,hz⟩:=I.list hq;obtain⟨u,hu,ru⟩:=rv.get hx;obtain⟨f0,f1,f2,f3,f4,f5⟩:=hf it (by simp);refine Uq st p.isList (by simpa using hu) fun h' Sf sb=> ?_;have I1:=I.turned (t':=s.toks) (fun b o hb e=>(sb.2 b hb).trans e) f0 f1 f3 f4 f5;obtain⟨o,e,c,d⟩:=id Sf;exact⟨u,rfl,sQ e c d (by decide) ⟨x,H,I1,ru,⟨rfl,fun ys hy=>by rw[I.US hy hq];exact hx⟩,Sf,fun b hb=>(hf b hb).1⟩⟩
 done:=by intro X hP hw hK hc i pins s σ H E I hf st hg;subst hP hw hK;obtain⟨xs,hq,hx⟩:=hg;obtain⟨MD,rv,p,hz⟩:=I.list hq;obtain⟨f0,f1,f2,f3,f4,f5⟩:=hf it (by simp);have hl:=rv.length;exact Vh (I.ok.hd hc) st p.isList (by simp;omega) fun h' eb=>⟨rfl,I.turned (fun b o hb e=>eb b o hb e) f0 f1 f3 f4 f5⟩
 self:=fun _ _ _ _ _ st h=>Vi st h
theorem vn {K:Lc} (a it:Lp):Turn P w K tg (J9 K a) [it] it (fun i h=>h.IsTupleIter it a i) where
 mem:=by simp
 obj:=fun i h st b hb=>by
  have e:b=it:=by simpa using hb
  subst e;obtain⟨o,e,c,d⟩:=st;exact⟨o,e,fun v z=>by rw[d] at z;cases z⟩
 keep:=fun i h h' st k=>st.at fun o e=>k it (by simp) o e
 item:=by intro X hP hw hK hc i pins s σ H E I hf st hg;subst hP hw hK;obtain⟨xs,x,hq,hx⟩:=hg;obtain⟨MD,rv,p,hz⟩:=I.tuple hq;obtain⟨u,hu,ru⟩:=rv.get hx;obtain⟨f0,f1,f2,f3,f4,f5⟩:=hf it (by simp);refine wpAny_pyNext_tuple_item st (show s.heap.IsTuple a MD.toArray from p) (by simpa using hu) fun h' Sf sb=> ?_;have I1:=I.turned (t':=s.toks) (fun b o hb e=>(sb.2 b hb).trans e) f0 f1 f3 f4 f5;obtain⟨o,e,c,d⟩:=id Sf;exact⟨u,rfl,sQ e c d (by decide) ⟨x,H,I1,ru,⟨rfl,fun ys hy=>by rw[I.T4 hy hq];exact hx⟩,Sf,fun b hb=>(hf b hb).1⟩⟩
 done:=by intro X hP hw hK hc i pins s σ H E I hf st hg;subst hP hw hK;obtain⟨xs,hq,hx⟩:=hg;obtain⟨MD,rv,p,hz⟩:=I.tuple hq;obtain⟨f0,f1,f2,f3,f4,f5⟩:=hf it (by simp);have hl:=rv.length;exact wpAny_pyNext_tuple_end (I.ok.hd hc) st (show s.heap.IsTuple a MD.toArray from p) (by simp;omega) fun h' eb=>⟨rfl,I.turned (fun b o hb e=>eb b o hb e) f0 f1 f3 f4 f5⟩
 self:=fun _ _ _ _ _ st h=>wpAny_pyIter_tupleiter st h
theorem u7 {K:Lc} (it:Lp) (lo:Int) (n:Nat):Turn P w K tg (IC lo n) [it] it (fun i h=>IsRangeIter h it (lo+(i:Nat)*1) ((n:Int) - (i:Nat)) 1) where
 mem:=by simp
 obj:=fun i h st b hb=>by
  have e:b=it:=by simpa using hb
  subst e;exact⟨_,st,fun v z=>by have z':=z;cases z'⟩
 keep:=fun i h h' st k=>k it (by simp) _ st
 item:=by intro X hP hw hK hc i pins s σ H E I hf st hg;subst hP hw hK;obtain⟨f0,f1,f2,f3,f4,f5⟩:=hf it (by simp);have W:=Walks.range (prog:=X.prog) (w:=X.w) (I.ok.hd hc) it lo 1 n;refine W.item i s _ _ hg st fun v h' tk hv Sf kk=> ?_;obtain⟨t,rfl⟩:=hv;have I1:Inv X pins σ H {s with heap:=h',toks:=tk}:=I.turned (fun b o hb e=>kk b o (by simpa using hb) e) f0 f1 f3 f4 f5;refine⟨_,rfl,sQ Sf rfl rfl (by decide) ⟨.int (lo+i),H,I1,⟨t,?_⟩,⟨rfl,rfl⟩,Sf,fun b hb=>(hf b hb).1⟩⟩;rw[Int.mul_one]
 done:=by intro X hP hw hK hc i pins s σ H E I hf st hg;subst hP hw hK;obtain⟨f0,f1,f2,f3,f4,f5⟩:=hf it (by simp);exact wpAny_pyNext_range_end (I.ok.hd hc) st (by have:n<=i:=hg;omega) fun h' eb=>⟨rfl,I.turned (fun b o hb e=>eb b o hb e) f0 f1 f3 f4 f5⟩
 self:=fun _ _ _ _ _ st h=>wpAny_pyIter_rangeiter st h
section
variable {X:Cx} {tg:Mv}
theorem tz {pins:List (Lp×Obj)} {σ:St} {H:Hp} {s:Lm} {R:It->Hp->Prop} {E:Lf->Lm->Prop} {lo hi:Int} {t u v:Tok} {tk:Nat} (I:Inv X pins σ H s) (h1: -(2^62)<=lo) (h2:lo<2^62) (h3: -(2^62)<=hi) (h4:hi<2^62)
  (q:R (IC lo (hi - lo).toNat) H):wpAny (model X.prog X.w) X.A (pyIter (.ref s.heap.objs.size)) (Kz X pins σ tg R) E {s with heap:=s.heap.push {cls:= .type "range",data:= .fields #[.int lo t,.int hi u,.int 1 v]},toks:=tk}:=by
 refine wpAny_pyIter_range (IsRange.new ..) (small_one h1 h2 h3 h4) ?_;have I1:Inv X pins σ H {s with heap:=s.heap.push {cls:= .type "range",data:= .fields #[.int lo t,.int hi u,.int 1 v]},toks:=tk}:=I.kept fun b o e=>Heap.get?_push_of_some _ e;refine⟨(s.heap.push {cls:= .type "range",data:= .fields #[.int lo t,.int hi u,.int 1 v]}).objs.size,[(s.heap.push {cls:= .type "range",data:= .fields #[.int lo t,.int hi u,.int 1 v]}).objs.size],_,_,H,rfl,
  I1.kept (t':=tk) fun b o e=>Heap.get?_push_of_some _ e,u7 _ lo (hi - lo).toNat,?_,fun b hb=> ?_,q⟩
 ·have e1:lo+((0:Nat):Int)*1=lo:=by simp
  have e2:(((hi - lo).toNat:Nat):Int) - ((0:Nat):Int)=LJ.Range.rangeSize lo hi 1:=by rw[rangeSize_one];split<;>omega
  show IsRangeIter _ _ (lo+((0:Nat):Int)*1) ((((hi - lo).toNat:Nat):Int) - ((0:Nat):Int)) 1;rw[e1,e2];exact Heap.get?_push_size _ rfl
 ·have e:b=(s.heap.push {cls:= .type "range",data:= .fields #[.int lo t,.int hi u,.int 1 v]}).objs.size:=by simpa using hb
  subst e;exact I1.TQ (Ll _) (I1.NO.fresh (Ll _))
def Fj (ta:TA):TI:=fun σ H R=>ta σ H fun vs H1=>∃j:Int,vs=[.int j]/\ -(2^62)<=j/\j<2^62/\R (IC 0 j.toNat) H1
def ET (ta:TA):TI:=fun σ H R=>ta σ H fun vs H1=>∃i j:Int,vs=[.int i,.int j]/\(-(2^62)<=i/\i<2^62/\ -(2^62)<=j/\j<2^62)/\R (IC i (j - i).toNat) H1
theorem jk (hg:Gl X "range") (hm:X.mg "range"=Ld) (ha:PA X [a] ta) (hs:MM [a] X.env=[(Lw,eval a X.env)]:=by rfl):PI X tg (.Call (.Name "range" p) [a] [] pos) (Fj ta):=by
 intro pins s σ H R I h;refine Call_ (my I hg hm boot_range (OB (ce (ha pos pins s σ H _ I h) fun us s1 ⟨vs,H1,I1,r1,q1⟩=> ?_) hs rfl));obtain⟨j,e,q1,q2,q⟩:=q1;subst e;cases r1 with
 |cons r rr=>cases rr;obtain⟨t,rfl⟩:=r;exact call_range_1 (tz I1 (by omega) (by omega) q1 q2 (by simpa using q))
theorem yj (hg:Gl X "range") (hm:X.mg "range"=Ld) (ha:PA X [a,b] ta) (hs:MM [a,b] X.env=[(Lw,eval a X.env),(Lw,eval b X.env)]:=by rfl) (Zh:MM [b] X.env=[(Lw,eval b X.env)]:=by rfl):
  PI X tg (.Call (.Name "range" p) [a,b] [] pos) (ET ta):=by
 intro pins s σ H R I h;refine Call_ (my I hg hm boot_range (OB (ce (ha pos pins s σ H _ I h) fun us s1 ⟨vs,H1,I1,r1,q1⟩=> ?_) (by rw[hs,Zh]) (by rw[Zh];rfl)));obtain⟨i,j,e,⟨q1,q2,q3,q4⟩,q⟩:=q1;subst e;cases r1 with
 |cons r rr=>
  cases rr with
  |cons r' rr=>cases rr;obtain⟨t,rfl⟩:=r;obtain⟨t',rfl⟩:=r';exact call_range_2 (tz I1 q1 q2 q3 q4 q)
def Bm (wi:TI) (g:TG) (tb:TS):TS:=fun D σ H=>wi σ H fun J H1=>∃W:Nat->Nat->St->Hp->Prop,(∃m,W 0 m σ H1)/\∀i m σ H,W i m σ H->
 (J.stop i H/\D.nx σ H)\/(J.go i H/\∃N:St->Hp->Prop,(∀σ' H',N σ' H'->∃m',m'<m/\W (i+1) m' σ' H')/\∀x H',J.Xp i H x H'->g x σ H' fun σ2 H2=>tb {D with nx:=N,ct:=N,bk:=D.nx} σ2 H2)
noncomputable def md (fp:List Lp) (h:Heap):List (Lp×Obj):=fp.filterMap fun b=>(h.get? b).map fun o=>(b,o)
theorem gZ (hb:b∈fp) (e:h.get? b=lD o):(b,o)∈md fp h:=M5.mpr ⟨b,hb,by rw[e];rfl⟩
theorem yz (hp:p∈md fp h):p.1∈fp/\h.get? p.1=lD p.2:=by
 obtain⟨b,hb,e⟩:=M5.mp hp;cases q:h.get? b with
 |none=>rw[q] at e;cases e
 |some o=>rw[q] at e;have e':=LZ e;subst e';exact⟨hb,q⟩
theorem Inv.pinned (I:Inv X pins σ H s) (hf:∀b∈fp,n9 X pins H b) (ho:∀b∈fp,∃o,s.heap.get? b=lD o/\∀v,o.data≠ .cell v):Inv X (pins++md fp s.heap) σ H s:=
 I.Ts fun p hp=>(LM.mp hp).elim (fun z=>I.pin p (LO _ z)) fun z=>by obtain⟨hb,e⟩:=yz z;obtain⟨f0,f1,f2,_⟩:=hf p.1 hb;obtain⟨o,e',d⟩:=ho p.1 hb;rw[e] at e';cases e';exact⟨e,f0,f1,f2,d⟩
theorem Inv.QD (I:Inv X (pins++pl) σ H s):Inv X pins σ H s:=I.Ts fun p hp=>I.pin p (LO _ (Mm _ hp))
theorem jL (hp:OP (model X.prog X.w) X.A X.env X.xe) (hc:X.calm=Lk) (hi:PI X tg iter wi) (hg:PG X tg g) (hb:Rq X body tb)
  (hs:∀x,foldedSetIterable iter X.env x=pure x:=by intro _;rfl):PS X (.For tg iter body [] pos) (Bm wi g tb):=by
 intro pins s σ H D I h;refine wpAny_For (ce (hi pins s σ H _ I h) fun v s1 h1=>ce h1 fun itv s2 h2=> ?_) hs;obtain⟨it,fp,tn,J,H2,e,I2,T,st2,f2,W,⟨m0,w0⟩,turn⟩:=h2;subst e;have WG:∀{H':Hp},(∀b∈fp,H' b=Ld)->∀b∈fp,n9 X pins H' b:=fun hn b hb=>⟨hn b hb,(f2 b hb).2⟩;refine codeAny_forLoop_any (fun n s'=>∃i σ' H',Inv X pins σ' H' s'/\tn i s'.heap/\(∀b∈fp,H' b=Ld)/\W i n σ' H') ?_ m0 ⟨0,σ,H2,I2,st2,fun b hb=>(f2 b hb).1,w0⟩;rintro n s3 ⟨i,σ3,H3,I3,st3,fr3,w3⟩;rcases turn i n σ3 H3 w3 with⟨stop,qn⟩|⟨go,N,hN,step⟩
 ·refine N0 hp (ce (T.done X rfl rfl rfl hc i pins s3 σ3 H3 X.xe I3 (WG fr3) st3 stop) fun r s4 ⟨hr,I4⟩=> ?_);subst hr;exact Qv ⟨σ3,H3,I4,qn⟩
 ·refine N0 hp (ce (T.item X rfl rfl rfl hc i pins s3 σ3 H3 X.xe I3 (WG fr3) st3 go) fun r s4 ⟨u,hr,h4⟩=> ?_)
  subst hr;refine N0 hp (ce h4 fun _ s5 ⟨x,H5,I5,r5,y5,Xk,YW⟩=> ?_);have I5':=I5.pinned (WG YW) (T.obj _ _ Xk);refine N0 hp (ce (hg _ s5 σ3 H5 x u _ I5' r5 (step x H5 y5)) fun _ s6 ⟨σ6,H6,I6,q6⟩=> ?_);refine N0 hp (ce (hb _ s6 σ6 H6 _ I6 q6) fun f s7 q7=> ?_);have again:∀{σ7:St} {H7:Hp},Inv X (pins++md fp s5.heap) σ7 H7 s7->N σ7 H7->∃m,m<n/\∃i σ' H',Inv X pins σ' H' s7/\tn i s7.heap/\(∀b∈fp,H' b=Ld)/\W i m σ' H':=fun{σ7 H7} I7 n7=>by obtain⟨m',hm,w7⟩:=hN σ7 H7 n7;refine⟨m',hm,i+1,σ7,H7,I7.QD,T.keep _ _ _ Xk fun b hb o e=>(I7.pin (b,o) (LO _ (LO _ (gZ hb e)))).1,fun b hb=> ?_,w7⟩;obtain⟨o,e,d⟩:=T.obj _ _ Xk b hb;exact(I7.pin (b,o) (LO _ (LO _ (gZ hb e)))).2.1
  cases f with
  |next=>obtain⟨σ7,H7,I7,n7⟩:=q7;exact again I7 n7
  |cont=>obtain⟨σ7,H7,I7,n7⟩:=q7;exact again I7 n7
  |brk=>obtain⟨σ7,H7,I7,q7⟩:=q7;exact⟨σ7,H7,I7.QD,q7⟩
  |ret v=>obtain⟨x7,σ7,H7,I7,r7,q7⟩:=q7;exact⟨x7,σ7,H7,I7.QD,r7,q7⟩
end
abbrev R2:=V->V->Hp->VK->Prop
def OpR (X:Cx) (f:Lf->Lf->Sem Lf) (r:R2):Prop:=
 ∀(pins:List (Lp×Obj)) (s:Lm) (σ:St) (H:Hp) (x y:V) (v u:Lf) (Q:VK),Inv X pins σ H s->RelV x v->RelV y u->r x y H Q->
  wpAny (model X.prog X.w) X.A (f v u) (EP X pins σ Q) X.xe s
def J0 (X:Cx) (f:Lf->Sem Lf) (r:V->Hp->VK->Prop):Prop:=
 ∀(pins:List (Lp×Obj)) (s:Lm) (σ:St) (H:Hp) (x:V) (v:Lf) (Q:VK),Inv X pins σ H s->RelV x v->r x H Q->
  wpAny (model X.prog X.w) X.A (f v) (EP X pins σ Q) X.xe s
def im (X:Cx) (f:Lf) (r:List V->Hp->VK->Prop):Prop:=
 ∀(pins:List (Lp×Obj)) (s:Lm) (σ:St) (H:Hp) (xs:List V) (us:List Lf) (Q:VK),Inv X pins σ H s->Vals xs us->r xs H Q->
  wpAny (model X.prog X.w) X.A (call f us) (EP X pins σ Q) X.xe s
def F4 (r:R2) (ta tb:TE):TE:=fun σ H Q=>ta σ H fun x H1=>tb σ H1 fun y H2=>r x y H2 Q
def KI (r:V->Hp->VK->Prop) (ta:TE):TE:=fun σ H Q=>ta σ H fun x H1=>r x H1 Q
def rI (C:Int->Int->Prop) (g:Int->Int->V):R2:=fun x y H Q=>∃i j,x= .int i/\y= .int j/\C i j/\Q (g i j) H
def vU (g:Int->Int->V):R2:=fun x y H Q=>∃i j,x= .int i/\y= .int j/\Q (g i j) H
def rU (g:Int->V):V->Hp->VK->Prop:=fun x H Q=>∃i,x= .int i/\Q (g i) H
section
variable {X:Cx} {a b c:Mv} {ta tb tc:TE} {pos:Pos}
theorem Gz (ha:PE X a ta) (hb:PE X b tb) {R:V->V->Hp->Prop} (I:Inv X pins σ H s)
  (h:ta σ H fun x H1=>tb σ H1 fun y H2=>R x y H2) {f:Lf->Lf->Sem Lf}
  (hf:∀v u s2 x y H2,Inv X pins σ H2 s2->RelV x v->RelV y u->R x y H2->wpAny (model X.prog X.w) X.A (f v u) Q X.xe s2):
  wpAny (model X.prog X.w) X.A (eval a X.env) (fun v s₁=>wpAny (model X.prog X.w) X.A (eval b X.env) (fun u s₂=>wpAny (model X.prog X.w) X.A (f v u) Q X.xe s₂) X.xe s₁) X.xe s:=by
 refine ce (ha pins s σ H _ I h) fun v s1 ⟨x,H1,I1,r1,q1⟩=> ?_;refine ce (hb pins s1 σ H1 _ I1 q1) fun u s2 ⟨y,H2,I2,r2,q2⟩=> ?_;exact hf v u s2 x y H2 I2 r1 r2 q2
theorem fZ (ho:OpR X (Nl op) r) (ha:PE X a ta) (hb:PE X b tb):PE X (.BinOp a op b pos) (F4 r ta tb):=by intro pins s σ H Q I h;exact wpAny_BinOp (Gz ha hb I h fun v u s2 x y H2 I2 rx ry q=>ho pins s2 σ H2 x y v u Q I2 rx ry q)
theorem Fw (ho:J0 X (unaryOp op) r) (ha:PE X a ta):PE X (.UnaryOp op a pos) (KI r ta):=by intro pins s σ H Q I h;exact UnaryOp_ (ce (ha pins s σ H _ I h) fun v s1 ⟨x,H1,I1,r1,q1⟩=>ho pins s1 σ H1 x v Q I1 r1 q1)
theorem JT {g:Int->Int->Int}
  (rule:∀(i j:Int) (t u:Tok) (s:Lm) (Q:Lf->Lm->Prop) (E:Lf->Lm->Prop),C i j->Q (.int (g i j) s.toks) {s with toks:=s.toks+1}->wpAny (model X.prog X.w) X.A (f (.int i t) (.int j u)) Q E s):
  OpR X f (rI C fun i j=> .int (g i j)):=by
 intro pins s σ H x y v u Q I rx ry h;obtain⟨i,j,rfl,rfl,hc,q⟩:=h;obtain⟨t,rfl⟩:=rx;obtain⟨t',rfl⟩:=ry;exact rule i j t t' s _ _ hc ⟨.int (g i j),H,I.tok _,⟨_,rfl⟩,q⟩
theorem JE {g:Int->Int->Int}
  (rule:∀(i j:Int) (t u:Tok) (s:Lm) (Q:Lf->Lm->Prop) (E:Lf->Lm->Prop),Q (.int (g i j) s.toks) {s with toks:=s.toks+1}->wpAny (model X.prog X.w) X.A (f (.int i t) (.int j u)) Q E s):
  OpR X f (vU fun i j=> .int (g i j)):=by
 intro pins s σ H x y v u Q I rx ry h;obtain⟨i,j,rfl,rfl,q⟩:=h;obtain⟨t,rfl⟩:=rx;obtain⟨t',rfl⟩:=ry;exact rule i j t t' s _ _ ⟨.int (g i j),H,I.tok _,⟨_,rfl⟩,q⟩
theorem Gj {g:Int->Int->Bool}
  (rule:∀(i j:Int) (t u:Tok) (s:Lm) (Q:Lf->Lm->Prop) (E:Lf->Lm->Prop),Q (.bool (g i j)) s->wpAny (model X.prog X.w) X.A (f (.int i t) (.int j u)) Q E s):
  OpR X f (vU fun i j=> .bl (g i j)):=by
 intro pins s σ H x y v u Q I rx ry h;obtain⟨i,j,rfl,rfl,q⟩:=h;obtain⟨t,rfl⟩:=rx;obtain⟨t',rfl⟩:=ry;exact rule i j t t' s _ _ ⟨.bl (g i j),H,I,rfl,q⟩
def Gq (i j:Int):Prop:=0<=j/\j<=1000000/\i.natAbs<2^64
def VZ (i j:Int):Prop:=(-(2^64)<i/\i<2^64)\/(-(2^64)<j/\j<2^64)
theorem VZ.ok (h:VZ i j):IntMulOk i j:=by
 rcases h with⟨h1,h2⟩|⟨h1,h2⟩
 ·exact .of_left (aa3 h1 h2)
 ·exact .of_right (aa3 h1 h2)
theorem Hv:OpR X (Nl .Add) (vU fun i j=> .int (i+j)):=JE fun _ _ _ _ _ _ _ q=>add_int q
theorem HC:OpR X (Nl .Sub) (vU fun i j=> .int (i - j)):=JE fun _ _ _ _ _ _ _ q=>sub_int q
theorem FY:OpR X (Nl .Mult) (rI VZ fun i j=> .int (i*j)):=JT fun _ _ _ _ _ _ _ hc q=>mul_int q hc.ok
theorem ms:OpR X (Nl .Mod) (rI (fun _ j=>0<j) fun i j=> .int (i % j)):=JT fun i j _ _ _ _ _ hc q=>by have h1:(0:Int)<j:=hc;exact mod_int' (by omega) (by rw[Int.fmod_eq_emod_of_nonneg i (by omega)];exact q)
theorem HL:OpR X (Nl .Pow) (rI Gq fun i j=> .int (i^j.toNat)):=JT fun _ _ _ _ _ _ _ hc q=>pow_int_small hc.1 hc.2.1 hc.2.2 q
theorem KY {g:Int->Int}
  (rule:∀(i:Int) (t:Tok) (s:Lm) (Q:Lf->Lm->Prop) (E:Lf->Lm->Prop),Q (.int (g i) s.toks) {s with toks:=s.toks+1}->wpAny (model X.prog X.w) X.A (f (.int i t)) Q E s):
  J0 X f (rU fun i=> .int (g i)):=by
 intro pins s σ H x v Q I rx h;obtain⟨i,rfl,q⟩:=h;obtain⟨t,rfl⟩:=rx;exact rule i t s _ _ ⟨.int (g i),H,I.tok _,⟨_,rfl⟩,q⟩
theorem C1:J0 X (unaryOp .USub) (rU fun i=> .int (-i)):=KY fun _ _ _ _ _ q=>neg_int q
end
section
variable {X:Cx} {a b c:Mv} {ta tb tc:TE} {pos:Pos}
theorem Ic (I:Inv X pins σ H s) (q:Q (.bl k) H) (e:k=k'):EP X pins σ Q (.bool k') s:=by subst e;exact⟨.bl k,H,I,rfl,q⟩
theorem Fr:OpR X (NG .Lt) (vU fun i j=> .bl (decide (i<j))):=Gj fun _ _ _ _ _ _ _ q=>lt_int q
theorem A7:OpR X (NG .Gt) (vU fun i j=> .bl (decide (j<i))):=Gj fun _ _ _ _ _ _ _ q=>gt_int q
theorem Jg:OpR X (NG .GtE) (vU fun i j=> .bl (decide (j<=i))):=Gj fun _ _ _ _ _ _ _ q=>ge_int q
theorem Gb:OpR X (NG .Is) (fun x y H Q=>y= .ON/\Q (.bl (decide (x= .ON))) H):=by
 intro pins s σ H x y v u Q I rx ry h;obtain⟨rfl,q⟩:=h;cases ry;refine is_none_gen (Ic I q ?_);cases x<;>first
  |(cases rx;rfl)
  |(obtain⟨t,rfl⟩:=rx;rfl)
theorem jz (b:Mv) (h:op≠ .In:=by decide) (h2:op≠ .NotIn:=by decide):behindInMarks op b=Lw:=by
 have e1:(op==CmpOp.In)=Lw:=by cases op<;>first|rfl|exact absurd rfl h
 have e2:(op==CmpOp.NotIn)=Lw:=by cases op<;>first|rfl|exact absurd rfl h2
 cases b<;>simp[behindInMarks,e1,e2]
theorem xw {op:CmpOp} {r:R2} (ho:OpR X (NG op) r) (ha:PE X a ta) (hb:PE X b tb) (hm:behindInMarks op b=Lw):PE X (.Compare a [op] [b] pos) (F4 r ta tb):=by intro pins s σ H Q I h;exact Zx (Gz ha hb I h fun v u s2 x y H2 I2 rx ry q=>ho pins s2 σ H2 x y v u Q I2 rx ry q) hm
def Bc (t:TE):TT:=fun σ H Q=>t σ H fun x H'=>∃k,x= .bl k/\Q k H'
theorem fV (ho:OpR X (NG op) r) (ha:PE X a ta) (hb:PE X b tb) (hm:behindInMarks op b=Lw):PT X (.Compare a [op] [b] pos) (Bc (F4 r ta tb)):=by
 intro pins s σ H Q I h;refine Vg (ce (ha pins s σ H _ I h) fun v s1 ⟨x,H1,I1,r1,q1⟩=>ce (hb pins s1 σ H1 _ I1 q1) fun u s2 ⟨y,H2,I2,r2,q2⟩=>
  ce (ho pins s2 σ H2 x y v u _ I2 r1 r2 q2) fun c s3 ⟨z,H3,I3,r3,k,e,q3⟩=> ?_) hm
 subst e;cases r3;exact Nt ⟨H3,I3,q3⟩
theorem qT:(LL:Nat)<2^63:=by rw[VG];decide
theorem vp:OpR X (Nl .Add) (fun x y H Q=>∃i j,x= .str i/\y= .str j/\i.length+j.length<=LL/\Q (.str (i++j)) H):=by intro pins s σ H x y v u Q I rx ry h;obtain⟨i,j,rfl,rfl,hz,q⟩:=h;obtain⟨t,rfl⟩:=rx;obtain⟨t',rfl⟩:=ry;exact add_str (fun t' tk=>⟨.str (i++j),H,I.tok _,⟨_,rfl⟩,q⟩) hz
theorem ng (r:Vals [x] us):∃u,us=[u]/\RelV x u:=by
 cases r with
 |cons r1 r2=>cases r2;exact⟨_,rfl,r1⟩
theorem EN (r:Vals [x,y] us):∃u w',us=[u,w']/\RelV x u/\RelV y w':=by
 cases r with
 |cons r1 r2=>
  cases r2 with
  |cons r3 r4=>cases r4;exact⟨_,_,rfl,r1,r3⟩
theorem yW (hc:X.calm=Lk):im X (.builtin "max") (fun xs H Q=>∃i j,xs=[.int i,.int j]/\Q (.int (if j>i then j else i)) H):=by
 intro pins s σ H xs us Q I r h;obtain⟨i,j,rfl,q⟩:=h;obtain⟨u,w',rfl,⟨t,rfl⟩,⟨t',rfl⟩⟩:=EN r;refine max_two_ints (I.ok.hd hc) fun h' tk k=>⟨_,H,I.kept k,?_,q⟩;by_cases hj:j>i
 ·rw[if_pos hj,if_pos hj];exact⟨_,rfl⟩
 ·rw[if_neg hj,if_neg hj];exact⟨_,rfl⟩
def JC (K:Lc) (x:V) (H:Hp) (n:Nat):Prop:=
 match x with
 | .str y=>y.length<=LL/\n=y.length
 | .X9 y=>y.size<=LL/\n=y.size
 | .ref p=>(∃xs,Ql K H p xs/\n=xs.length)\/∃xs,P9 K H p xs/\n=xs.length
 |_=>False
theorem mj:im X (.builtin "len") (fun xs H Q=>∃x n,xs=[x]/\JC X.K x H n/\Q (.int n) H):=by
 intro pins s σ H xs us Q I r h;obtain⟨x,n,rfl,e,q⟩:=h;obtain⟨u,rfl,rx⟩:=ng r;have hl:=qT;have hs:=VG;cases x with
 |str y=>obtain⟨t,rfl⟩:=rx;obtain⟨hy,e'⟩:=e;subst e';exact len_str (by omega) ⟨.int _,H,I.tok _,⟨_,rfl⟩,q⟩
 |X9 y=>obtain⟨t,rfl⟩:=rx;obtain⟨hy,e'⟩:=e;subst e';exact PySem.W.len_bytes (by omega) ⟨.int _,H,I.tok _,⟨_,rfl⟩,q⟩
 |ref p=>
  cases rx;have e':=e;rcases e' with⟨xs,hx,e'⟩|⟨xs,hx,e'⟩
  ·subst e';obtain⟨MD,r',pl,hz⟩:=I.list hx;have hlen:=r'.length;exact Calls.call_len_list pl.isList (by simp only[LC];omega) ⟨.int xs.length,H,I.tok _,⟨_,by simp only[LC];rw[hlen]⟩,q⟩
  ·subst e';obtain⟨MD,r',pl,hz⟩:=I.tuple hx;have hlen:=r'.length;exact len_tuple pl (by simp only[LC];omega) ⟨.int xs.length,H,I.tok _,⟨_,by simp only[LC];rw[hlen]⟩,q⟩
 |_=>exact(show False from e).elim
end
structure adO (h:Heap) (x dx C:Lp) (mA:Str->Option Lf):Prop where
 obj:h.get? x=lD (Ud C dx)
 ns:h.Ns1 dx mA
 ne:dx≠x
theorem Q0.some_of (r:Q0 (lD v) o):∃u,o=lD u/\RelV v u:=by
 cases o with
 |none=>exact(show False from r).elim
 |some u=>exact⟨u,rfl,r⟩
structure Cls (K:Lc) (C:Lp):Prop where
 pg:Tz K C Str.empty=Lk
 hd:S8 K C=Lk
 po:S9 K C=Lk
 sa:Nh K (.ref C) "__setattr__"=lD (lD (.builtin "object.__setattr__"))
def Gr (K:Lc) (C:Lp) (f:Str):Prop:=Nh K (.ref C) f=lD Ld
structure Con (K:Lc) (C:Lp) (f:Str) (v:V) (u:Lf):Prop where
 at_:Nh K (.ref C) f=lD (lD u)
 rel:RelV v u
 get:Ta K u "__get__"=lD Ld
 cp:PySem.W.copiedNames.contains f=Lw
structure Meth (K:Lc) (C:Lp) (m:Str) (f:Lp):Prop where
 at_:Nh K (.ref C) m=lD (lD (.ref f))
 fn:RO K (.ref f)=Lk
 kp:NF K (.ref f)=Lk
section
variable {X:Cx} {pins:List (Lp×Obj)} {σ:St} {H:Hp} {s:Lm} {A:L0} {E:Lf->Lm->Prop} {Q:Lf->Lm->Prop} {c:Lf} {b:Bool}
inductive Rb (K:Lc) (H:Hp):V->Lf->Prop where
 |ON:Rb K H .ON (.type "NoneType")
 |bl (x:Bool):Rb K H (.bl x) (.type "bool")
 |int (i:Int):Rb K H (.int i) (.type "int")
 |str (x:Str):Rb K H (.str x) (.type "str")
 |YA (x:UInt64):Rb K H (.YA x) (.type "float")
 |lst {a:Lp} {xs:List V} (e:H a=lD (.lst xs)):Rb K H (.ref a) (.type "list")
 |frz {a:Lp} {o:Obj} {xs:List V} (e:H a=lD (.frz o (.lst xs))):Rb K H (.ref a) (.type "list")
 |tup {a:Lp} {xs:List V} (e:H a=lD (.tup xs)):Rb K H (.ref a) (.type "tuple")
 |dK {a:Lp} {Mj:List (ku×V)} (e:H a=lD (.dK Mj)):Rb K H (.ref a) (.type "dict")
 |dT {a:Lp} {Mj:List (List ku×V)} (e:H a=lD (.dT Mj)):Rb K H (.ref a) (.type "dict")
 |ins {a C dx:Lp} {fs:List (Str×V)} (e:H a=lD (.ins C dx fs)) (cl:Cls K C) (ha:Nh K (.ref C) "__class__"=lD (lD (.builtin "object.__class__")))
   (hn:Ta K (.builtin "object.__class__") "__get__"=lD (lD (.builtin "getset_descriptor.__get__"))) (htk:PySem.W.takesIn K (.builtin "object.__class__")=lD Lk)
   (hm:PySem.W.mroIn K C (.type "object")=lD Lk):Rb K H (.ref a) (.ref C)
end
structure OG (k:Nat) (A:L0):Prop where
 hd:A.handled=Ld
 dp:A.depth+3*k+5<recursionLimit
 un:A.units+16*k+200<cLine
theorem OG.mono (r:OG k A) (h:j<=k):OG j A:=⟨r.hd,by have:=r.dp;omega,by have:=r.un;omega⟩
theorem OG.deeper (r:OG (k+1) A) (env:Env):OG k (A.deeper env):=
 ⟨r.hd,by have:=r.dp;show A.depth+1+3*k+5<_;omega,by have:=r.un;show A.units+3+16*k+200<_;omega⟩
theorem OG.depth (r:OG k A):A.depth<recursionLimit:=by have:=r.dp;omega
theorem OG.units (r:OG k A):A.units+64<cLine:=by have:=r.un;omega
def nV:TA:=fun _ H Q=>Q [] H
def gI (ta:TE) (tr:TA):TA:=fun σ H Q=>ta σ H fun x H1=>tr σ H1 fun xs H2=>Q (x::xs) H2
section
variable {X:Cx} {e:Mv} {es:List Mv} {te:TE} {t:TA} {pos:Pos}
theorem aE:PA X [] nV:=fun _ _ _ _ H Q I h=>Calls.spliced_nil ⟨[],H,I,.nil,h⟩
theorem ar (ha:PE X e te) (hr:PA X es t) (hs:MM (e::es) X.env=(Lw,eval e X.env)::MM es X.env:=by rfl):PA X (e::es) (gI te t):=by intro pos pins s σ H Q I h;rw[hs];refine Calls.spliced_cons (ce (ha pins s σ H _ I h) fun u s1 ⟨x,H1,I1,r1,q1⟩=> ?_);exact ce (hr pos pins s1 σ H1 _ I1 q1) fun us s2 ⟨xs,H2,I2,r2,q2⟩=>⟨x::xs,H2,I2,.cons r1 r2,q2⟩
def Hr (t:TA):TE:=fun σ H Q=>t σ H fun xs H1=>xs.length<=LL/\∀p,H1 p=Ld->Q (.ref p) (upd H1 p (.tup xs))
def Jz (t:TA):TE:=fun σ H Q=>t σ H fun xs H1=>xs.length<=LL/\∀p,H1 p=Ld->Q (.ref p) (upd H1 p (.lst xs))
theorem fJ {x1} (h:PA X es t):PE X (.Tuple es x1 pos) (Hr t):=by intro pins s σ H Q I hq;refine wpAny_Tuple_spliced (ce (h pos pins s σ H _ I hq) fun us s1 ⟨xs,H1,I1,r,z,q⟩=>⟨by rw[<-r.length];exact z,?_⟩);have hf:=I1.NO.fresh (Ll _);refine⟨.ref s1.heap.objs.size,upd H1 s1.heap.objs.size (.tup xs),I1.laid (fun b u e=>Heap.get?_push_of_some _ e) (Ll _) ?_,rfl,q _ hf⟩;exact⟨z,us,r,⟨_,Heap.get?_push_size _ rfl,⟨rfl,_,rfl⟩,rfl⟩⟩
theorem gm (h:PA X es t):PE X (.List es pos) (Jz t):=by intro pins s σ H Q I hq;refine wpAny_List_spliced (ce (h pos pins s σ H _ I hq) fun us s1 ⟨xs,H1,I1,r,z,q⟩=>⟨by rw[<-r.length];exact z,?_⟩);have hf:=I1.NO.fresh (Ll _);refine⟨.ref s1.heap.objs.size,upd H1 s1.heap.objs.size (.lst xs),I1.laid (fun b u e=>Heap.get?_push_of_some _ e) (Ll _) ?_,rfl,q _ hf⟩;exact⟨z,us,0,r,Heap.get?_push_size _ rfl⟩
end
abbrev Sp:=List V->Hp->VK->XK->Prop
abbrev vA:=List Env->Hp->Lm->XK->Lf->Lm->Prop
structure V7 (P:LR) (w:Mg) (K:Lc) (mg:Str->Option Lf) (base:Heap) (A:L0) (outer:List Env) (s:Lm) (H:Hp):Prop where
 frames:A.frames=lD outer
 mod:Mod K mg base
 bs:∀b o,base.get? b=lD o->s.heap.get? b=lD o/\H b=Ld
 VV:base.objs.size<=s.heap.objs.size
 Q3:s.heap.FunFrames base outer
 WH:∀b∈zh outer,H b=Ld
 NO:Ri P w H s.heap
 bare:AllBare s.gens
def CE (outer:List Env) (P:LR) (w:Mg) (H:Hp) (s:Lm) (Q:VK) (u:Lf) (s':Lm):Prop:=
 ∃v H',s'.os=s.os/\AllBare s'.gens/\Un (zh outer) [] H H' s.heap s'.heap/\Ri P w H' s'.heap/\RelV v u/\Q v H'
def CR (CX:vA) (outer:List Env) (P:LR) (w:Mg) (H:Hp) (s:Lm) (Q:VK) (E:XK) (r:Ws) (s':Lm):Prop:=
 match r with
 | .ok (.ret u)=>CE outer P w H s Q u s'
 | .ok _=>False
 | .error e=>CX outer H s E e s'
structure FnOk (P:LR) (w:Mg) (K:Lc) (mg:Str->Option Lf) (base:Heap) (CX:vA) (k:Nat) (f:Lp) (fd:M8) (ps:List Str) (sp:Sp):Prop where
 len:∀vs H Q E,sp vs H Q E->vs.length=ps.length
 run:∀(A:L0) (outer:List Env) (s:Lm) (H:Hp) (args:Args) (us:List Lf) (vs:List V) (Q:VK) (E:XK),OG k A->V7 P w K mg base A outer s H->QP s fd args (ps.zip us)->Vals vs us->sp vs H Q E->
  codeAny (model P w) A (.call (.ref f) args) (CR CX outer P w H s Q E) s
theorem FnOk.imp {P:LR} {w:Mg} {K:Lc} {mg:Str->Option Lf} {base:Heap} {CX:vA} {k:Nat} {f:Lp} {fd:M8} {ps:List Str} {sp Z1:Sp} (F:FnOk P w K mg base CX k f fd ps sp)
  (h:∀vs H Q E,Z1 vs H Q E->sp vs H Q E):FnOk P w K mg base CX k f fd ps Z1:=
 ⟨fun vs H Q E q=>F.len vs H Q E (h _ _ _ _ q),fun A outer s H args us vs Q E hr he hb hv hs=>F.run A outer s H args us vs Q E hr he hb hv (h _ _ _ _ hs)⟩
section
variable {X:Cx} {pins:List (Lp×Obj)} {σ:St} {H:Hp} {s s':Lm}
theorem Inv.aai (I:Inv X pins σ H s):V7 X.prog X.w X.K X.mg X.base X.A X.stack s H:=
 ⟨I.ok.frames,I.ok.mod,I.bs,LF I.ok.VV I.sz,I.stack,I.To,I.NO,I.bare⟩
theorem Inv.after {Q:VK} {u:Lf} (I:Inv X pins σ H s) (h:CE X.stack X.prog X.w H s Q u s'):EP X pins σ Q u s':=by obtain⟨v,H',os,bare,un,NO,r,q⟩:=h;obtain⟨hh,g,d,t,os'⟩:=s';obtain rfl:os'=s.os:=os;exact⟨v,H',I.call (h':=hh) (g':=g) (d':=d) (t':=t) (ch:=[]) un NO bare (fun b z=>absurd z (by simp)),r,q⟩
end
def oW (sp:Sp) (Tx:List V) (E:XK) (t:TA):TE:=fun σ H Q=>t σ H fun vs H1=>sp (vs++Tx) H1 Q E
def Binds (K:Lc) (fd:M8) (ps:List Str) (ds:List Lf):Prop:=
 ∀(s:Lm) (us:List Lf),K.In s.heap->(us++ds).length=ps.length->QP s fd ⟨us,[]⟩ (ps.zip (us++ds))
theorem Binds.all {K:Lc} {fd:M8} {ps:List Str} (h:∀us:List Lf,us.length=ps.length->bindArgs fd ⟨us,[]⟩=pure (ps.zip us)):Binds K fd ps []:=fun s us _ hl=>by rw[L6] at hl⊢;exact .of_eq (h us hl)
def uL (CX:vA) (X:Cx) (E:XK):Prop:=∀(pins:List (Lp×Obj)) (σ:St) (H:Hp) (s:Lm) (e:Lf) (s':Lm),Inv X pins σ H s->CX X.stack H s E e s'->X.xe e s'
section
variable {X:Cx} {CX:vA} {k:Nat} {f C:Lp} {fd:M8} {ps:List Str} {sp:Sp} {Tx:List V} {ds:List Lf} {E:XK} {x m:Str} {p pos apos:Pos} {e o:Mv} {es:List Mv} {ta:TE} {t:TA}
theorem G4 {pins:List (Lp×Obj)} {σ:St} {H:Hp} {s:Lm} {Q:VK} {us:List Lf} {vs:List V} (F:FnOk X.prog X.w X.K X.mg X.base CX k f fd ps sp) (hr:OG k X.A) (hb:Binds X.K fd ps ds) (hd:Vals Tx ds) (hx:uL CX X E)
  (I:Inv X pins σ H s) (r:Vals vs us) (h:sp (vs++Tx) H Q E):wpAny (model X.prog X.w) X.A (call (.ref f) us) (EP X pins σ Q) X.xe s:=by
 have r2:Vals (vs++Tx) (us++ds):=r.append hd;have hl:(us++ds).length=ps.length:=by rw[<-r2.length];exact F.len _ _ _ _ h
 refine wpAny_call (Ur (F.run X.A X.stack s H ⟨us,[]⟩ (us++ds) (vs++Tx) Q E hr I.aai (hb s us I.T5 hl) r2 h) fun r s' hq=> ?_);cases r with
 |error e=>exact hx pins σ H s e s' I hq
 |ok fl=>
  cases fl with
  |ret u=>exact I.after hq
  |next=>exact False.elim hq
  |brk=>exact False.elim hq
  |cont=>exact False.elim hq
theorem Dq (F:FnOk X.prog X.w X.K X.mg X.base CX k f fd ps sp) (hr:OG k X.A) (hg:Gl X x) (hm:X.mg x=lD (.ref f)) (hk:NF X.K (.ref f)=Lk) (hb:Binds X.K fd ps ds) (hd:Vals Tx ds) (hx:uL CX X E)
  (ha:PA X (e::es) t) (W3:(x==("__debug__":Str))=Lw:=by decide) (he:MM (e::es) X.env=(Lw,eval e X.env)::MM es X.env:=by rfl) (Vu:(backTo pos (MM es X.env)).any (·.1)=Lw:=by rfl):
  PE X (.Call (.Name x p) (e::es) [] pos) (oW sp Tx E t):=by
 intro pins s σ H Q I h;refine Q8 (Dy I hg hm ?_ W3);refine PySem.W.callWith_K I.ok.mod.kin hk (ce (ha pos pins s σ H _ I h) fun us s1 ⟨vs,H1,I1,r,q⟩=>⟨I1.T5,?_⟩) he Vu;exact G4 F hr hb hd hx I1 r q
structure Mk (K:Lc) (C f:Lp):Prop where
 makes:Ue K C=Lk
 init:Nh K (.ref C) "__init__"=lD (lD (.ref f))
 fn:RO K (.ref f)=Lk
 kp:NF K (.ref C)=Lk
end
section
variable {X:Cx} {CX:vA} {k:Nat} {f C:Lp} {fd:M8} {ps ks:List Str} {sp:Sp} {E:XK} {x m:Str} {p pos apos acp:Pos} {e o:Mv} {es:List Mv} {kws:List Rt} {te ta:TE} {t tk:TA} {nm:Option Str}
structure aaP (K:Lc) (fd:M8) (ps ks:List Str) (g:List Lf->List Lf->List Lf) (gV:List V->List V->List V):Prop where
 to:∀(s:Lm) (us ws:List Lf),K.In s.heap->(g us ws).length=ps.length->QP s fd ⟨us,ks.zip ws⟩ (ps.zip (g us ws))
 rel:∀{vs:List V} {us:List Lf} {zs:List V} {ws:List Lf},Vals vs us->Vals zs ws->Vals (gV vs zs) (g us ws)
variable {g:List Lf->List Lf->List Lf} {gV:List V->List V->List V}
end
structure OM (N P:List Str) (sc:Pk):Prop where
 kind:sc.kind= .function
 co:sc.isCoroutine=Lw
 gen:sc.isGenerator=Lw
 nd:N.Nodup
 pre:N.take P.length=P
 par:∀x∈P,sc.names.lookup x=lD .local\/sc.names.lookup x=lD .cell
 Wz:∀y∈sc.names,y.2≠ .free
theorem o8 {kindOf:Str->Option Md}:∀{binds:List (Str×Lf)} {m:Str->Option Lf},(∀v,(x,v)∉binds)->bindL kindOf binds m x=m x
 |[],_,_=>rfl
 |(n,v)::r,m,h=>by
  unfold bindL;rw[o8 fun w hw=>h w (Ly _ hw)];split
  ·have:x≠n:=by rintro rfl;exact h v LG
   simp[this]
  ·rfl
theorem o7 {kindOf:Str->Option Md}:∀{binds:List (Str×Lf)} {m:Str->Option Lf},(∀v,(x,v)∉binds)->bindC kindOf binds m x=m x
 |[],_,_=>rfl
 |(n,v)::r,m,h=>by
  unfold bindC;rw[o7 fun w hw=>h w (Ly _ hw)];split
  ·rfl
  ·have:x≠n:=by rintro rfl;exact h v LG
   simp[this]
theorem o9 {kindOf:Str->Option Md}:∀{P:List Str} {vs:List Lf} {i:Nat} {m:Str->Option Lf},P.Nodup->P[i]? =lD x->vs[i]? =lD v->kindOf x=lD .local->
  bindL kindOf (P.zip vs) m x=lD v
 |[],_,_,_,_,h,_,_=>by simp at h
 |_::_,[],_,_,_,_,h,_=>by simp at h
 |p::P,w::vs,0,m,nd,h1,h2,hk=>by simp at h1 h2;subst h1;subst h2;show bindL kindOf ((p,w)::P.zip vs) m p=_;unfold bindL;rw[o8 fun v hv=>(MJ.mp nd).1 (Rk hv).1,if_pos hk];simp
 |p::P,w::vs,i+1,m,nd,h1,h2,hk=>by unfold bindL;exact o9 (MJ.mp nd).2 (by simpa using h1) (by simpa using h2) hk
theorem oD {kindOf:Str->Option Md}:∀{P:List Str} {vs:List Lf} {i:Nat} {m:Str->Option Lf},P.Nodup->P[i]? =lD x->vs[i]? =lD v->kindOf x≠lD .local->
  bindC kindOf (P.zip vs) m x=lD v
 |[],_,_,_,_,h,_,_=>by simp at h
 |_::_,[],_,_,_,_,h,_=>by simp at h
 |p::P,w::vs,0,m,nd,h1,h2,hk=>by simp at h1 h2;subst h1;subst h2;show bindC kindOf ((p,w)::P.zip vs) m p=_;unfold bindC;rw[o7 fun v hv=>(MJ.mp nd).1 (Rk hv).1,if_neg hk];simp
 |p::P,w::vs,i+1,m,nd,h1,h2,hk=>by unfold bindC;exact oD (MJ.mp nd).2 (by simpa using h1) (by simpa using h2) hk
noncomputable def start (N:List Str) (vs:List V):St:=vs.map lD++Lq (N.length - vs.length) Ld
noncomputable def lF (CX:vA) (P:LR) (w:Mg) (K:Lc) (mg:Str->Option Lf) (base:Heap) (N:List Str) (qual:Str) (scope:Pk) (f:Lp) (cd:Lf) (A:L0) (outer:List Env) (s:Lm) (H:Hp) (E:XK):Cx where
 prog:=P
 w:=w
 K:=K
 mg:=mg
 base:=base
 A:=A.deeper (envOfC qual scope s.heap.objs.size f cd)
 N:=N
 s₀:=s
 H₀:=H
 env:=envOfC qual scope s.heap.objs.size f cd
 outer:=outer
 stack:=envOfC qual scope s.heap.objs.size f cd::outer
 ex:=[]
 calm:=Lk
 fn:=fun _=>Lk
 pn:=[]
 xe:=fun e s'=>wpAny (model P w) (A.deeper (envOfC qual scope s.heap.objs.size f cd)) (leaving (envOfC qual scope s.heap.objs.size f cd) e) (fun _ s''=>CX outer H s E e s'') (fun e' s''=>CX outer H s E e' s'') s'
theorem uo {sc:Pk} (h:sc.names.lookup x=lD .cell):∃c,(NA n sc.names []).lookup x=lD c:=by have q:=Oi sc.names n [] (.inl h);exact Ng.mp q
theorem yi {K:Lc}
  (S:OM N ps scope) (hd:A.handled=Ld) (e0:V7 P w K mg base A outer s H) (hl:vs.length=ps.length) (r:Vals vs us)
  (x:InCallC s s.heap.objs.size (bindL (envOfC qual scope s.heap.objs.size f cd).kindOf (ps.zip us) fun _=>Ld) (NA (s.heap.objs.size+1) scope.names []) (bindC (envOfC qual scope s.heap.objs.size f cd).kindOf (ps.zip us) fun _=>Ld) s1):
  Inv (lF CX P w K mg base N qual scope f cd A outer s H E) [] (start N vs) H s1:=by
 have Vu:ps.length<=N.length:=by have:=congrArg NP S.pre;rw[Ms] at this;omega
 obtain⟨h1,tk,rfl,hk⟩:=x.done;have Yj:∀b:Lp,b∉(lF CX P w K mg base N qual scope f cd A outer s H E).ex:=fun b z=>absurd (show b∈([]:List Lp) from z) (by simp);refine⟨⟨e0.mod,S.kind,rfl,rfl,Ll _,fun y z c h1 h2=> ?_,fun y hy=> ?_,fun y c _ h=> ?_,fun _=>hd,L0.frames_deeper e0.frames,.inr ⟨rfl,rfl⟩,fun b z=>absurd z (Yj b),e0.bs,e0.VV,fun b _ _=>Yj b,fun b z=>absurd z (Yj b),e0.Q3,e0.WH⟩,
  rfl,e0.bare,Un.kept hk,⟨_,x.toInCall.ns,fun i y v h1 h2 h3=> ?_⟩,fun y c h=>⟨_,x.cell y c h⟩,e0.NO.fresh (Ll _),fun y c h=> ?_,fun p hp=>absurd (show p∈([]:List (Lp×Obj)) from hp) (by simp),e0.NO.kept hk,?_⟩
 ·exact name_of_addr x.apart (Nn h1) (Nn h2)
 ·have hy:=hy
  rcases hy with hy|hy
  ·exact uo hy
  ·exact absurd rfl (S.Wz _ (Nn hy))
 ·exact MU (x.above y c (Nn h))
 ·have hi:i<vs.length:=by
   unfold start at h2;by_cases hi:i<vs.length
   ·exact hi
   ·rw[LX (by simpa using hi)] at h2;rw[NL] at h2;split at h2<;>cases h2
  have ha:vs[i]? =lD v:=by
   unfold start at h2;rw[LK (by simpa using hi),Ls] at h2;cases e:vs[i]? with
   |none=>rw[e] at h2;cases h2
   |some a=>rw[e] at h2;cases h2;rfl
  obtain⟨u,hu,rv⟩:=r.get ha;have hp:ps[i]? =lD y:=by rw[<-S.pre,ND (by omega)];exact h1
  have ndP:ps.Nodup:=by rw[<-S.pre];exact S.nd.sublist (List.take_sublist _ _)
  refine⟨u,rv,?_⟩;rcases S.par y (LH hp) with k|k
  ·exact .inl ⟨k,o9 ndP hp hu k⟩
  ·obtain⟨c,e⟩:=uo k;refine .inr ⟨.inl k,c,e,?_⟩;have q:=x.cell y c e;rw[oD ndP hp hu (by show scope.names.lookup y≠_;rw[k];decide)] at q;exact q
 ·exact e0.NO.fresh (MU (x.above y c (Nn h)))
 ·unfold start;show _=N.length;rw[Ln,Lh,LI];omega
theorem Jt {CX:vA} {P:LR} {w:Mg} {K:Lc} {mg:Str->Option Lf} {base:Heap} {k:Nat} {f:Lp} {name qual:Str} {params:Arguments} {body:List NZ} {scope:Pk} {dV kV doc pm Ny ct oc:Lf} {an od:Option Lp}
  {UK:Array (Option Lf)} {N ps:List Str} {sp:Sp} (lk:K.lookup f=lD ⟨oc,od,.func (N2 name qual params body scope dV kV doc pm an Ny ct),UK⟩) (Tf:P5 K Ny qual=Lk) (S:OM N ps scope)
  (len:∀vs H Q E,sp vs H Q E->vs.length=ps.length)
  (Pu:∀(A:L0) (outer:List Env) (s:Lm) (H:Hp) (vs:List V) (Q:VK) (E:XK),OG k (A.deeper (envOfC qual scope s.heap.objs.size f Ny))->sp vs H Q E->
   ∃t,Rq (lF CX P w K mg base N qual scope f Ny A outer s H E) body t/\t {nx:=fun _ H'=>Q .ON H',rt:=Q} (start N vs) H):
  FnOk P w K mg base CX (k+1) f (N2 name qual params body scope dV kV doc pm an Ny ct) ps sp:=by
 refine⟨len,fun A outer s H args us vs Q E hr e0 hb r Xr=> ?_⟩;have hl:=len _ _ _ _ Xr;have KX:K.In s.heap:=e0.mod.kin.keeps fun b o e=>(e0.bs b o e).1;have lim:s.heap.NoLimit:=e0.mod.nolimit.keeps fun b o e=>(e0.bs b o e).1;have Qc:∀y∈ps.zip us,scope.names.lookup y.1=lD .local\/(scope.names.lookup y.1=lD .cell/\((NA (s.heap.objs.size+1) scope.names []).lookup y.1).isSome=Lk):=fun⟨n,v⟩ hy=>by
  rcases S.par n (Rk hy).1 with q|q
  ·exact .inl q
  ·exact .inr ⟨q,Oi _ _ _ (.inl q)⟩
 refine codeAny_call_function hr.depth (KX _ _ lk) rfl S.co S.gen rfl (PySem.W.codeRec_of KX Tf) (hb _ _ _ _ ?_);refine wpAny_newFunctionEnv_cells S.kind Qc fun env he s1 x=> ?_;subst he;refine⟨lim.keeps x.toInCall.keep,codeAny_func ?_⟩;obtain⟨t,ht,hq⟩:=Pu A outer s H vs Q E (hr.deeper _) Xr;have I:Inv (lF CX P w K mg base N qual scope f Ny A outer s H E) [] (start N vs) H s1:=yi S hr.hd e0 hl r x;refine wpAny_mono (ht [] s1 (start N vs) H _ I hq) (fun fl s' hs=> ?_) fun e s' hs=>hs
 have fin:∀{σ':St} {H':Hp} {v:V} {u:Lf},Inv (lF CX P w K mg base N qual scope f Ny A outer s H E) [] σ' H' s'->RelV v u->Q v H'->CE outer P w H s Q u s':=
  fun{σ' H' v u} J rv q=>⟨v,H',J.os,J.bare,J.base,J.NO,rv,q⟩
 cases fl with
 |ret u=>obtain⟨v,σ',H',J,rv,q⟩:=hs;exact fin J rv q
 |next=>obtain⟨σ',H',J,q⟩:=hs;exact fin (v:=V.ON) (u:=Lf.none) J rfl q
 |brk=>obtain⟨_,_,_,q⟩:=hs;exact False.elim q
 |cont=>obtain⟨_,_,_,q⟩:=hs;exact False.elim q
section
variable {X:Cx} {x:Str} {p pos:Pos} {e:Mv} {es:List Mv} {t:TA} {id T:String} {r:List V->Hp->VK->Prop}
def E9 (r:List V->Hp->VK->Prop) (t:TA):TE:=fun σ H Q=>t σ H fun vs H1=>r vs H1 Q
theorem cQ (hc:im X (.builtin id) r) (hg:Gl X x) (hm:X.mg x=Ld) (hv:ML x=lD (.builtin id)) (ha:PA X (e::es) t) (hn:x≠ "__name__":=by decide) (W3:(x==("__debug__":Str))=Lw:=by decide)
  (he:MM (e::es) X.env=(Lw,eval e X.env)::MM es X.env:=by rfl) (Vu:(backTo pos (MM es X.env)).any (·.1)=Lw:=by rfl):PE X (.Call (.Name x p) (e::es) [] pos) (E9 r t):=by
 intro pins s σ H Q I h;refine Q8 (my I hg hm hv ?_ hn W3);exact YM (ce (ha pos pins s σ H _ I h) fun us s1 ⟨vs,H1,I1,r1,q1⟩=>hc pins s1 σ H1 vs us Q I1 r1 q1) he Vu
theorem fw (hc:im X (.type T) r) (hg:Gl X x) (hm:X.mg x=Ld) (hv:ML x=lD (.type T)) (ha:PA X (e::es) t) (hn:x≠ "__name__":=by decide) (W3:(x==("__debug__":Str))=Lw:=by decide)
  (he:MM (e::es) X.env=(Lw,eval e X.env)::MM es X.env:=by rfl) (Vu:(backTo pos (MM es X.env)).any (·.1)=Lw:=by rfl):PE X (.Call (.Name x p) (e::es) [] pos) (E9 r t):=by
 intro pins s σ H Q I h;refine Q8 (my I hg hm hv ?_ hn W3);exact OB (ce (ha pos pins s σ H _ I h) fun us s1 ⟨vs,H1,I1,r1,q1⟩=>hc pins s1 σ H1 vs us Q I1 r1 q1) he Vu
end
end L2
namespace HT
open PySem PyProof.Rows
section
open PySem.SeqAt
open PySem.AutoSeq1 (wpAny_loadPart')
open PySem.MeetsSeq PySem.MeetsSeq2 PySem.MeetsSeq3
end
section
variable {prog:LR} {w:Mg} {A:L0} {E:Lf->Lm->Prop} {s:Lm}
theorem cat_tup {t b:Lp} {vs ws:List Lf} {Q:Lf->Lm->Prop} (ht:IsTup s.heap t vs.toArray) (hb:IsTup s.heap b ws.toArray) (hv:vs≠[])
  (h1:ws=[]->Q (.ref t) s) (h2:ws≠[]->Q (.ref s.heap.objs.size) {s with heap:=s.heap.push {cls:= .type "tuple",data:= .seq (vs++ws).toArray}})
  (hsz:vs.length+ws.length<=LL):wpAny (model prog w) A (Nl .Add (.ref t) (.ref b)) Q E s:=by
 obtain⟨⟨cls,dd,data,sl⟩,ho,hc,n,hd⟩:=id ht;obtain⟨⟨aau,Zf,data2,Sn⟩,WT,WE,n2,hd2⟩:=id hb;simp only at hc hd WE hd2;subst hc hd WE hd2;have e:vs.toArray++ws.toArray=(vs++ws).toArray:=by simp
 by_cases hw:ws=[]
 ·exact Us ⟨_,ho,rfl⟩ ⟨_,WT,rfl⟩ RP TB PB Pn (Pb _ _)
   (tuple_addW1 t b vs.toArray ws.toArray n n2 dd Zf sl Sn (by simpa using hv) (by simp[hw])) ⟨ho,WT,h1 hw⟩
 ·refine Us ⟨_,ho,rfl⟩ ⟨_,WT,rfl⟩ RP TB PB Pn (Pb _ _)
   (tuple_addW2 t b vs.toArray ws.toArray n n2 dd Zf sl Sn (by simpa using hv) (by simpa using hw) (by rw[LC,LC];exact hsz)) ⟨ho,WT,?_⟩
  rw[e];exact h2 hw
noncomputable def sIx (n d:Nat):Option Int->Nat
 |none=>d
 |some v=>if v<0 then(v+(n:Int)).toNat else min v.toNat n
theorem sIx_none (n d:Nat):sIx n d Ld=d:=rfl
theorem sIx_nat (n d k:Nat):sIx n d (lD (k:Int))=min k n:=by show(if(k:Int)<0 then((k:Int)+(n:Int)).toNat else min (k:Int).toNat n)=min k n;rw[if_neg (by omega),MV]
theorem HR (n d:Nat) (hd:d<=n) (o:Option Int):sIx n d o<=n:=by
 cases o with
 |none=>exact hd
 |some v=>
  show(if v<0 then(v+(n:Int)).toNat else min v.toNat n)<=n;by_cases hv:v<0
  ·rw[if_pos hv];omega
  ·rw[if_neg hv];exact VH _ _
theorem wj (v:Int) (n d:Nat):(if v<0 then max (v+(n:Int)) 0 else min v (n:Int))=((sIx n d (lD v):Nat):Int):=by
 show(if v<0 then max (v+(n:Int)) 0 else min v (n:Int))=(((if v<0 then(v+(n:Int)).toNat else min v.toNat n):Nat):Int);by_cases hv:v<0
 ·simp only[if_pos hv];omega
 ·simp only[if_neg hv];omega
theorem vq (lo hi:Option Int) (n:Nat):LJ.Slice.sliceAdjust lo hi 1 (n:Int)=(((sIx n 0 lo:Nat):Int),((sIx n n hi:Nat):Int)):=by
 have h1:¬((1:Int)<0):=by omega
 unfold LJ.Slice.sliceAdjust;simp only[h1,if_false];refine Prod.ext ?_ ?_
 ·cases lo with
  |none=>rfl
  |some v=>exact wj v n 0
 ·cases hi with
  |none=>rfl
  |some v=>exact wj v n n
theorem uM (i j:Nat):LJ.Slice.slicePlaces (i:Int) (j:Int) 1=j - i:=by
 unfold LJ.Slice.slicePlaces;have h1:(1:Int)>0:=by omega
 simp only[h1,if_true,XB];split<;>omega
theorem fy (p:P6 v o) (h:Q o s):wpAny (model prog w) A (LJ.Slice.slicePartIndex v) Q E s:=by
 cases p with
 |none=>exact slicePart_none h
 |int i t=>exact slicePart_int h
theorem gH {lo hi:Option Int} {Q:Int×Int×Nat->Lm->Prop} (hs:s.heap.IsSliceOf sl vl vu .none) (pl:P6 vl lo) (pu:P6 vu hi)
  (h:Q (((sIx n 0 lo:Nat):Int),1,sIx n n hi - sIx n 0 lo) s):wpAny (model prog w) A (LJ.Slice.sliceApplied (.ref sl) (pure (n:Int))) Q E s:=by
 obtain⟨os,T8,Vs,Vz⟩:=id hs;unfold LJ.Slice.sliceApplied LJ.Slice.sliceFields;refine Bn (Bn (OW T8 Vz rfl (Bn (OW T8 Vz rfl (Bn (OW T8 Vz rfl (Li ?_)))))));refine Bn (slicePart_none ?_);rw[if_neg (by decide)];refine Bn (fy pl (Bn (fy pu (Bn (Li ?_)))));show wpAny _ _ (match LJ.Slice.sliceAdjust lo hi 1 (n:Int) with|(lo,hi)=>pure (lo,(1:Int),LJ.Slice.slicePlaces lo hi 1)) _ _ s;rw[vq lo hi n];show wpAny _ _ (pure (((sIx n 0 lo:Nat):Int),(1:Int),LJ.Slice.slicePlaces ((sIx n 0 lo:Nat):Int) ((sIx n n hi:Nat):Int) 1)) _ _ s;rw[uM];exact Li h
theorem AA (xs:Array Lf) (i k:Nat):((Me k).filterMap fun(m:Nat)=>xs[((i:Int)+(m:Int)*1).toNat]?).toArray=((xs.toList.drop i).take k).toArray:=by
 have e:(fun(m:Nat)=>xs[((i:Int)+(m:Int)*1).toNat]?)=fun m=>xs[i+m]? :=by
  funext m;have:((i:Int)+(m:Int)*1).toNat=i+m:=by omega
  rw[this]
 rw[e];have:=pick_run xs i k;rw[Ug] at this;have e2:((fun x=>xs[x]?)∘fun x=>i+x)=fun m=>xs[i+m]? :=rfl;rw[e2] at this;rw[this]
theorem getItem_tuple_cut {lo hi:Option Int} (ht:IsTup s.heap t items) (hs:s.heap.IsSliceOf sl vl vu .none) (pl:P6 vl lo) (pu:P6 vu hi)
  (hw:¬(sIx items.size 0 lo=0/\sIx items.size items.size hi=items.size))
  (h:Q (.ref s.heap.objs.size) {s with heap:=s.heap.push {cls:= .type "tuple",data:= .seq ((items.toList.drop (sIx items.size 0 lo)).take (sIx items.size items.size hi - sIx items.size 0 lo)).toArray}})
  (hsz:items.size<=LL):wpAny (model prog w) A (getItem (.ref t) (.ref sl)) Q E s:=by
 have QB:sizeOk (.seq ((items.toList.drop (sIx items.size 0 lo)).take (sIx items.size items.size hi - sIx items.size 0 lo)).toArray):=by show((items.toList.drop (sIx items.size 0 lo)).take (sIx items.size items.size hi - sIx items.size 0 lo)).toArray.size<=LL;rw[LC,Ms,M6,L5];omega
 have hj:sIx items.size items.size hi<=items.size:=HR _ _ (Ll _) hi;obtain⟨os,T8,Vs,Vz⟩:=id hs;have YF:s.TypeIs (.ref sl) "slice":=⟨os,T8,Vs⟩;unfold getItem
 try with_reducible refine Nd ?_
 first|refine Bn (Li ?_)|skip
 refine Bn (Ru ht.typeIs (by decide) ?_);refine Bn (M9 ht.typeIs Mf
  (MN Mf ht.typeIs entry_tuple_getitem ?_ (args_tuple_getitem _ _)))
 show wpAny _ _ (LJ.Tuple.tupleItemsOf (.ref t)>>=_) _ _ s;refine Bn (tupleItemsOf_ ht ?_);refine Bn (Po YF ?_);rw[if_pos (by decide)];refine Bn (gH hs pl pu ?_);have Z2:¬((((sIx items.size 0 lo:Nat):Int)==0&&(1:Int)==1&&(sIx items.size items.size hi - sIx items.size 0 lo)==items.size)=Lk):=by intro q;rw[LU,LU] at q;have q1:=eq_of_beq q.1.1;have q2:=eq_of_beq q.2;exact hw ⟨by omega,by omega⟩
 show wpAny _ _ (if(((sIx items.size 0 lo:Nat):Int)==0&&(1:Int)==1&&(sIx items.size items.size hi - sIx items.size 0 lo)==items.size)=Lk then _ else _) _ _ s;rw[if_neg Z2,AA]
 first
  |exact Bn (Mb (Li ⟨_,rfl,Li h⟩) QB)
  |exact Bn (Mb (Bn (Li (Li ⟨_,rfl,Li h⟩))) QB)
  |exact Bn (Bn (Mb (Li (Li ⟨_,rfl,Li h⟩)) QB))
  |exact Bn (Bn (Mb (Li ⟨_,rfl,Li h⟩) QB))
end
end HT
namespace L2
open PySem PySem.Spec PyProof.Rows
abbrev TO:=St->Hp->(Option Int->Hp->Prop)->Prop
def PO (X:Cx) (e:Option Mv) (t:TO):Prop:=
 ∀(pins:List (Lp×Obj)) (s:Lm) (σ:St) (H:Hp) (Q:Option Int->Hp->Prop),Inv X pins σ H s->t σ H Q->
  wpAny (model X.prog X.w) X.A (evalPart e X.env) (fun u s'=>∃o H',Inv X pins σ H' s'/\P6 u o/\Q o H') X.xe s
noncomputable def w6:TO:=fun _ H Q=>Q Ld H
noncomputable def AB (t:TE):TO:=fun σ H Q=>t σ H fun x H1=>∃i,x= .int i/\Q (lD i) H1
section
variable {X:Cx} {e:Mv} {te:TE} {lo hi:Option Mv} {tl th:TO} {pos p2:Pos}
theorem lS:PO X Ld w6:=by intro pins s σ H Q I h;rw[TC];exact Li ⟨Ld,H,I,.none,h⟩
theorem hV (h:PE X e te):PO X (lD e) (AB te):=by intro pins s σ H Q I hw;rw[evalPart_some];refine ce (h pins s σ H _ I hw) fun u s1 ⟨x,H1,I1,r1,q1⟩=> ?_;obtain⟨i,rfl,q⟩:=q1;obtain⟨t,rfl⟩:=r1;exact⟨lD i,H1,I1,.int i t,q⟩
def Iw (X:Cx) (r:V->Option Int->Option Int->Hp->VK->Prop):Prop:=
 ∀(pins:List (Lp×Obj)) (s:Lm) (σ:St) (H:Hp) (x:V) (v vl vu:Lf) (lo hi:Option Int) (sl:Lp) (Q:VK),Inv X pins σ H s->RelV x v->s.heap.IsSliceOf sl vl vu .none->P6 vl lo->P6 vu hi->r x lo hi H Q->
  ∃T id,typeLookup (.type T) "__getitem__"=pure (lD (.builtin id))/\s.TypeIs v T/\wpAny (model X.prog X.w) X.A (getItem v (.ref sl)) (EP X pins σ Q) X.xe s
def KG (r:V->Option Int->Option Int->Hp->VK->Prop) (te:TE) (tl th:TO):TE:=fun σ H Q=>te σ H fun x H1=>tl σ H1 fun l H2=>th σ H2 fun u H3=>r x l u H3 Q
theorem iW {r:V->Option Int->Option Int->Hp->VK->Prop} (hr:Iw X r) (he:PE X e te) (hl:PO X lo tl) (hu:PO X hi th):PE X (.Subscript e (.Slice lo hi Ld p2) pos) (KG r te tl th):=by intro pins s σ H Q I h;refine Subscript_ (ce (he pins s σ H _ I h) fun v s1 ⟨x,H1,I1,r1,q1⟩=> ?_);refine wpAny_Slice (ce (hl pins s1 σ H1 _ I1 q1) fun vl s2 ⟨l,H2,I2,pl,q2⟩=>ce (hu pins s2 σ H2 _ I2 q2) fun vu s3 ⟨u,H3,I3,pu,q3⟩=> ?_);rw[TC];refine Li ?_;have I4:Inv X pins σ H3 {s3 with heap:=s3.heap.push {cls:= .type "slice",data:= .fields #[vl,vu,.none]}}:=I3.kept (t':=s3.toks) fun b ob q=>Heap.get?_push_of_some _ q;obtain⟨T,id,hT,ht,hg⟩:=hr pins {s3 with heap:=s3.heap.push {cls:= .type "slice",data:= .fields #[vl,vu,.none]}} σ H3 x v vl vu l u s3.heap.objs.size Q I4 r1 (Heap.IsSliceOf.new ..) pl pu q3;show wpAny (model X.prog X.w) X.A (subscriptTail e (.Slice lo hi Ld p2) v (.ref s3.heap.objs.size)) (EP X pins σ Q) X.xe {s3 with heap:=s3.heap.push {cls:= .type "slice",data:= .fields #[vl,vu,.none]}};exact tail_any (ops:=[.ref s3.heap.objs.size,v]) ht hT hg (by with_unfolding_all rfl)
noncomputable def yR (xs:List V) (lo hi:Option Int):List V:=(xs.drop (HT.sIx xs.length 0 lo)).take (HT.sIx xs.length xs.length hi - HT.sIx xs.length 0 lo)
theorem kX (xs:List V) (lo hi:Option Int):(yR xs lo hi).length<=xs.length:=by unfold yR;rw[Ms,M6];omega
def Jp (K:Lc):V->Option Int->Option Int->Hp->VK->Prop:=fun x lo hi H Q=>∃a xs,x= .ref a/\P9 K H a xs/\
 ¬(HT.sIx xs.length 0 lo=0/\HT.sIx xs.length xs.length hi=xs.length)/\∀p,H p=Ld->Q (.ref p) (upd H p (.tup (yR xs lo hi)))
theorem GP:Iw X (Jp X.K):=by
 intro pins s σ H x v vl vu lo hi sl Q I rx hs pl pu h;obtain⟨a,xs,rfl,hx,hw,q⟩:=h;cases rx;obtain⟨MD,r,ht,hz⟩:=I.tuple hx;have hlen:MD.toArray.size=xs.length:=by rw[LC];exact r.length.symm
 refine⟨"tuple",_,Mf.lookup,ht.typeIs,?_⟩;refine HT.getItem_tuple_cut ht hs pl pu (by rw[hlen];exact hw) ?_ (by rw[hlen];exact hz);rw[hlen];refine⟨.ref s.heap.objs.size,_,I.laid (fun b ob q=>Heap.get?_push_of_some _ q) (Ll _) ?_,rfl,q _ (I.NO.fresh (Ll _))⟩;exact⟨LF (kX xs lo hi) hz,_,(r.drop (HT.sIx xs.length 0 lo)).take (HT.sIx xs.length xs.length hi - HT.sIx xs.length 0 lo),Q1.new _ _⟩
def EX (K:Lc):R2:=fun x y H Q=>∃a b xs ys,x= .ref a/\y= .ref b/\P9 K H a xs/\P9 K H b ys/\xs≠[]/\xs.length+ys.length<=LL/\
 (ys=[]->Q (.ref a) H)/\(ys≠[]->∀p,H p=Ld->Q (.ref p) (upd H p (.tup (xs++ys))))
theorem Vals.R0 (r:Vals xs us):us=[]↔xs=[]:=by
 cases r with
 |nil=>simp
 |cons _ _=>simp
theorem DN:OpR X (Nl .Add) (EX X.K):=by intro pins s σ H x y v u Q I rx ry h;obtain⟨a,b,xs,ys,rfl,rfl,ha,hb,hx,hz,q1,q2⟩:=h;cases rx;cases ry;obtain⟨MD,r1,p1,_⟩:=I.tuple ha;obtain⟨UG,r2,p2,_⟩:=I.tuple hb;refine HT.cat_tup p1 p2 (fun z=>hx (r1.R0.mp z)) (fun z=>⟨.ref a,H,I,rfl,q1 (r2.R0.mp z)⟩) (fun z=> ?_) (by rw[<-r1.length,<-r2.length];exact hz);refine⟨.ref s.heap.objs.size,_,I.laid (fun b ob q=>Heap.get?_push_of_some _ q) (Ll _) ?_,rfl,q2 (fun w=>z (r2.R0.mpr w)) _ (I.NO.fresh (Ll _))⟩;exact⟨by rw[Ln];exact hz,_,r1.append r2,Q1.new _ _⟩
end
noncomputable def HH (n:Nat) (i:Int):Option Nat:=if 0<=i then(if i<n then lD i.toNat else Ld) else if -(n:Int)<=i then lD (i+n).toNat else Ld
noncomputable def oE (xs:List α) (i:Int):Option α:=(HH xs.length i).bind fun j=>xs[j]?
theorem DZ (h:HH n i=lD j):seqIndex? i n=lD j/\j<n/\ -(n:Int)<=i/\i<n:=by
 unfold HH at h;by_cases h0:0<=i
 ·rw[if_pos h0] at h
  by_cases h1:i<n
  ·rw[if_pos h1] at h;have e:=LZ h;exact⟨by rw[seqIndex_of h0 h1,e],by omega,by omega,h1⟩
  ·rw[if_neg h1] at h;cases h
 ·rw[if_neg h0] at h
  by_cases h1: -(n:Int)<=i
  ·rw[if_pos h1] at h;have e:=LZ h;exact⟨by rw[seqIndex_neg (by omega) h1,e],by omega,h1,by omega⟩
  ·rw[if_neg h1] at h;cases h
theorem rc (h:oE xs i=lD v):∃j,seqIndex? i xs.length=lD j/\xs[j]? =lD v/\j<xs.length/\ -(xs.length:Int)<=i/\i<xs.length:=by
 unfold oE at h;cases e:HH xs.length i with
 |none=>rw[e] at h;cases h
 |some j=>rw[e] at h;obtain⟨h1,h2,h3,h4⟩:=DZ e;exact⟨j,h1,h,h2,h3,h4⟩
theorem wg {j:Nat} (h:xs[j]? =lD v):oE xs (j:Int)=lD v:=by
 have hj:=(Lj.mp h).1;have e:HH xs.length (j:Int)=lD j:=by unfold HH;rw[if_pos (by omega),if_pos (by omega)];simp
 unfold oE;rw[e];exact h
def D7 (b:Mv):Prop:=∀o i,subscripted b Lw o i=operate [o,i] (getItem o i)
def VN (X:Cx) (r:R2):Prop:=
 ∀(value slice:Mv) (pins:List (Lp×Obj)) (s:Lm) (σ:St) (H:Hp) (x y:V) (v u:Lf) (Q:VK),Inv X pins σ H s->RelV x v->RelV y u->r x y H Q->
  subscripted slice Lw v u=operate [v,u] (getItem v u)->wpAny (model X.prog X.w) X.A (subscriptTail value slice v u) (EP X pins σ Q) X.xe s
def KJ (X:Cx) (id:String) (r:V->List V->Hp->VK->Prop):Prop:=
 ∀(pins:List (Lp×Obj)) (s:Lm) (σ:St) (H:Hp) (x:V) (xs:List V) (v:Lf) (us:List Lf) (Q:VK),Inv X pins σ H s->RelV x v->Vals xs us->r x xs H Q->
  wpAny (model X.prog X.w) X.A (call (.builtin id) (v::us)) (EP X pins σ Q) X.xe s
section
variable {X:Cx} {a b:Mv} {ta tb:TE} {pos:Pos}
theorem VN.or (h:VN X r) (h':VN X r'):VN X (fun x y H Q=>r x y H Q\/r' x y H Q):=by
 intro value slice pins s σ H x y v u Q I rx ry q hs;rcases q with q|q
 ·exact h value slice pins s σ H x y v u Q I rx ry q hs
 ·exact h' value slice pins s σ H x y v u Q I rx ry q hs
theorem kl {r:R2} (hr:VN X r) (ha:PE X a ta) (hb:PE X b tb) (hs:D7 b):PE X (.Subscript a b pos) (F4 r ta tb):=by intro pins s σ H Q I h;exact Subscript_ (Gz ha hb I h fun v u s2 x y H2 I2 rx ry q=>hr a b pins s2 σ H2 x y v u Q I2 rx ry q (hs _ _))
def Iz (K:Lc):R2:=fun x y H Q=>∃p xs i v,x= .ref p/\y= .int i/\Ql K H p xs/\oE xs i=lD v/\Q v H
def G8 (K:Lc):R2:=fun x y H Q=>∃p xs i v,x= .ref p/\y= .int i/\P9 K H p xs/\oE xs i=lD v/\Q v H
def Jq:R2:=fun x y H Q=>∃z i c,x= .str z/\y= .int i/\z.length<=LL/\oE z.cps.toList i=lD c/\Q (.str ⟨#[c]⟩) H
theorem Ee:VN X (Iz X.K):=by
 intro value slice pins s σ H x y v u Q I rx ry h hs;obtain⟨p,xs,i,z,rfl,rfl,hq,he,q⟩:=h;cases rx;obtain⟨t,rfl⟩:=ry;obtain⟨MD,r,pl,hz⟩:=I.list hq;obtain⟨j,h1,h2,h3,h4,h5⟩:=rc he;obtain⟨w,ew,S7⟩:=r.get h2;have hl:=r.length;have hn:=qT;have fin:EP X pins σ Q w s:=⟨z,H,I,S7,q⟩;by_cases h0:0<=i
 ·have hj:i.toNat=j:=by
   rw[seqIndex_of h0 h5] at h1;exact LZ h1
  exact item_listR pl.isList h0 (by omega) (by rw[hj];simpa using ew) fin hs
 ·have hj:(i+(MD.toArray.size:Int)).toNat=j:=by
   rw[seqIndex_neg (by omega) h4] at h1;rw[LC,<-hl];exact LZ h1
  exact subscriptTail_builtinR pl.isList.typeIs W5.lookup
   (wpAny_getItem_list_neg pl.isList (by omega) (by rw[LC]<;>omega) (by omega) (by rw[hj];simpa using ew) ⟨rfl,fin⟩) hs
theorem Ba:VN X (G8 X.K):=by
 intro value slice pins s σ H x y v u Q I rx ry h hs;obtain⟨p,xs,i,z,rfl,rfl,hq,he,q⟩:=h;cases rx;obtain⟨t,rfl⟩:=ry;obtain⟨MD,r,pl,hz⟩:=I.tuple hq;obtain⟨j,h1,h2,h3,h4,h5⟩:=rc he;obtain⟨w,ew,S7⟩:=r.get h2;have hl:=r.length;have hn:=qT;have fin:EP X pins σ Q w s:=⟨z,H,I,S7,q⟩;exact subscriptTail_builtinR pl.typeIs slot_tuple_getitem.lookup
  (getItem_tuple pl (by omega) (by omega) (by rw[LC,<-hl];exact h1) (by simpa using ew) ⟨rfl,fin⟩) hs
theorem Gv:VN X Jq:=by
 intro value slice pins s σ H x y v u Q I rx ry h hs;obtain⟨z,i,c,rfl,rfl,hz,he,q⟩:=h;obtain⟨t,rfl⟩:=rx;obtain⟨t',rfl⟩:=ry;obtain⟨j,h1,h2,h3,h4,h5⟩:=rc he;have hl:z.cps.toList.length=z.length:=by simp[Str.length]
 rw[hl] at h1 h4 h5;have hn:=qT;exact tail_any (SU s z t) slot_str_getitem.lookup (getItem_str (by have e1:decide (i< -(2^63:Int))=Lw:=decide_eq_false (by omega);have e2:decide (i≥2^63)=Lw:=decide_eq_false (by omega);rw[e1,e2,Bool.or_false]) (by rw[h1];simpa using h2) ⟨.str ⟨#[c]⟩,H,I.tok _,⟨_,rfl⟩,q⟩) hs
def Kh (K:Lc):R2:=fun x y H Q=>Iz K x y H Q\/G8 K x y H Q\/Jq x y H Q
theorem iE:VN X (Kh X.K):=Ee.or (Ba.or Gv)
theorem rS (lo hi:Option Int) (n:Nat):(sliceBounds lo hi Ld n).1=((HT.sIx n 0 lo:Nat):Int)/\(sliceBounds lo hi Ld n).2.1=((HT.sIx n n hi:Nat):Int)/\(sliceBounds lo hi Ld n).2.2=1:=by
 refine⟨?_,?_,rfl⟩
 ·cases lo with
  |none=>simp[sliceBounds,HT.sIx]
  |some i=>
   simp only[sliceBounds,HT.sIx,Uh,show(1:Int)>0 by decide,if_true];by_cases h:i<0
   ·simp only[h,if_true]<;>omega
   ·simp only[h,if_false]<;>omega
 ·cases hi with
  |none=>simp[sliceBounds,HT.sIx]
  |some i=>
   simp only[sliceBounds,HT.sIx,Uh,show(1:Int)>0 by decide,if_true];by_cases h:i<0
   ·simp only[h,if_true]<;>omega
   ·simp only[h,if_false]<;>omega
theorem oj (MD:List Lf) (lo hi:Option Int):slicePick MD.toArray lo hi Ld=((MD.drop (HT.sIx MD.length 0 lo)).take (HT.sIx MD.length MD.length hi - HT.sIx MD.length 0 lo)).toArray:=by obtain⟨h1,h2,h3⟩:=rS lo hi MD.toArray.size;unfold slicePick;rw[h1,h2,h3];simp only[sliceRange_one,pick_run,LC]<;>rfl
def Je (K:Lc):V->Option Int->Option Int->Hp->VK->Prop:=fun x lo hi H Q=>∃a xs,x= .ref a/\Ql K H a xs/\∀p,H p=Ld->Q (.ref p) (upd H p (.lst (yR xs lo hi)))
theorem D0:Iw X (Je X.K):=by intro pins s σ H x v vl vu lo hi sl Q I rx hs pl pu h;obtain⟨a,xs,rfl,hx,q⟩:=h;cases rx;obtain⟨MD,r,ht,hz⟩:=I.list hx;have hlen:=r.length;refine⟨"list",_,W5.lookup,ht.isList.typeIs,?_⟩;refine wpAny_getItem_list_slice ht.isList hs pl pu .none (by simp) ?_ (by rw[LC]<;>omega);rw[oj,<-hlen];refine⟨.ref s.heap.objs.size,_,I.laid (fun b ob q=>Heap.get?_push_of_some _ q) (Ll _) ?_,rfl,q _ (I.NO.fresh (Ll _))⟩;exact⟨LF (kX xs lo hi) hz,_,0,(r.drop (HT.sIx xs.length 0 lo)).take (HT.sIx xs.length xs.length hi - HT.sIx xs.length 0 lo),Heap.get?_push_size _ rfl⟩
theorem j9:im X (.type "list") (fun xs H Q=>∃p ys,xs=[.ref p]/\(Ql X.K H p ys\/P9 X.K H p ys)/\∀l,H l=Ld->Q (.ref l) (upd H l (.lst ys))):=by
 intro pins s σ H xs us Q I r h;obtain⟨p,ys,rfl,hq,q⟩:=h;obtain⟨u,rfl,rx⟩:=ng r;cases rx
 have fin:∀(MD:List Lf),Vals ys MD->ys.length<=LL->∀(h':Heap) (c':Nat),(∀b o',s.heap.get? b=lD o'->h'.get? b=lD o')->
   h'.get? s.heap.objs.size=lD {cls:= .type "list",dict:=Ld,data:= .seq MD.toArray c',slots:= #[]}->EP X pins σ Q (.ref s.heap.objs.size) {s with heap:=h'}:=fun MD r' hz h' c' kp e=>
  ⟨.ref s.heap.objs.size,_,I.laid kp (Ll _) (show MY X.prog X.w _ h' _ (.lst ys) from⟨hz,MD,c',r',e⟩),rfl,q _ (I.NO.fresh (Ll _))⟩
 rcases hq with hq|hq
 ·obtain⟨MD,r',pl,hz⟩:=I.list hq;have hlen:=r'.length;obtain⟨o,ho,hc,n,hd⟩:=pl.isList;exact aa4 p (.inl rfl) ho hc hd (fun h' c' kp e=>fin MD r' hz h' c' kp e) (by simp only[LC]<;>omega)
 ·obtain⟨MD,r',pl,hz⟩:=I.tuple hq;have hlen:=r'.length;obtain⟨o,ho,hc,n,hd⟩:=pl;exact aa4 p (.inr rfl) ho hc hd (fun h' c' kp e=>fin MD r' hz h' c' kp e) (by simp only[LC]<;>omega)
theorem gh:im X (.type "tuple") (fun xs H Q=>∃p ys,xs=[.ref p]/\((Ql X.K H p ys/\∀l,H l=Ld->Q (.ref l) (upd H l (.tup ys)))\/(P9 X.K H p ys/\Q (.ref p) H))):=by
 intro pins s σ H xs us Q I r h;obtain⟨p,ys,rfl,h⟩:=h;obtain⟨u,rfl,rx⟩:=ng r;cases rx;rcases h with⟨hq,q⟩|⟨hq,q⟩
 ·obtain⟨MD,r',pl,hz⟩:=I.list hq
  have hlen:=r'.length;refine call_tuple_list pl.isList (fun h' kp=> ?_) (by simp only[LC]<;>omega);have I1:=I.kept (t':=s.toks) kp
  have I2:=
   I1.laid (t':=s.toks) (fun b o e=>Heap.get?_push_of_some _ e) (Ll _) (show MY X.prog X.w _ _ _ (.tup ys) from⟨hz,MD,r',Q1.new _ _⟩)
  exact⟨.ref h'.objs.size,_,I2,rfl,q _ (I1.NO.fresh (Ll _))⟩
 ·obtain⟨MD,r',pl,hz⟩:=I.tuple hq;exact call_tuple_same pl ⟨.ref p,H,I,rfl,q⟩
def KB (K:Lc) (T:String) (x:V) (H:Hp):Prop:=match x with
 | .str _=>T= "str"
 | .int _=>T= "int"
 | .ref p=>(T= "list"/\∃xs,Ql K H p xs)\/(T= "tuple"/\∃o,K.lookup p=lD o/\o.cls= .type "tuple"/\o.dict=Ld)\/
   (T= "dict"/\((∃Mj,H p=lD (.dK Mj))\/∃Mj,H p=lD (.dT Mj)))\/(T= "set"/\∃S n,H p=lD (.set S n))
 |_=>False
theorem HB (I:Inv X pins σ H s) (r:RelV x v) (ty:KB X.K T x H):
  s.TypeIs v T/\∀a,v= .ref a->∃ob,s.heap.get? a=lD ob/\ob.dict=Ld:=by
 cases x with
 |str z=>obtain⟨t,rfl⟩:=r;cases(show T= "str" from ty);exact⟨SU s z t,fun _ e=>nomatch e⟩
 |int i=>obtain⟨t,rfl⟩:=r;cases(show T= "int" from ty);exact⟨Ox s i t,fun _ e=>nomatch e⟩
 |ref p=>
  cases r;rcases ty with⟨rfl,xs,hq⟩|⟨rfl,o,hk,hc,hd⟩|⟨rfl,hk⟩|⟨rfl,S,n,hk⟩
  ·obtain⟨MD,_,pl,_⟩:=I.list hq;refine⟨pl.isList.typeIs,fun a e=> ?_⟩;cases e;obtain⟨o,n,e,c,hd,_⟩:=pl;exact⟨o,e,hd⟩
  ·refine⟨⟨o,I.T5 p o hk,hc⟩,fun a e=> ?_⟩;cases e;exact⟨o,I.T5 _ o hk,hd⟩
  ·have z:∃o,s.heap.get? p=lD o/\o.ExactDict:=by
    rcases hk with⟨Mj,hk⟩|⟨Mj,hk⟩
    ·obtain⟨_,_,_,_,o,_,_,e,ex,_⟩:=I.NO p _ hk;exact⟨o,e,ex⟩
    ·obtain⟨_,_,_,_,o,_,_,e,ex,_⟩:=I.NO p _ hk;exact⟨o,e,ex⟩
   obtain⟨o,e,ex⟩:=z;refine⟨⟨o,e,ex.1⟩,fun a e2=> ?_⟩;cases e2;exact⟨o,e,ex.2.1⟩
  ·obtain⟨o,_,_,_,e,ex,_⟩:=I.NO p _ hk;refine⟨⟨o,e,ex.1⟩,fun a e2=> ?_⟩;cases e2;exact⟨o,e,ex.2.1⟩
 |_=>exact False.elim ty
def JZ (K:Lc) (T:String) (r:V->List V->Hp->VK->Prop) (to:TE) (t:TA):TE:=fun σ H Q=>to σ H fun x H1=>KB K T x H1/\t σ H1 fun xs H2=>r x xs H2 Q
variable {o e:Mv} {es:List Mv} {to:TE} {t:TA} {name:Str} {apos OJ:Pos} {T id:String} {r:V->List V->Hp->VK->Prop}
theorem Cq (pa:PlainAttrs T) (slot:Slot T name id) (hty:typeOf (.builtin id)=pure (.type "method_descriptor")) (hm:KJ X id r) (ho:PE X o to) (ha:PA X (e::es) t)
  (UN:attributeBase o name X.env (eval o X.env)=eval o X.env:=by rfl)
  (aaH:((backTo OJ (MM (e::es) X.env)).all (fun x=> !x.1)&&(backToKw OJ (keywordEach [] X.env)).all (fun x=>x.1.isSome)
   &&decide ((e::es).length+([]:List Rt).length+(if([]:List Rt).isEmpty then 0 else 1)<30))=Lk:=by rfl)
  (UY:(apos.endLine==OJ.line)=Lk:=by rfl) (hs:MM (e::es) X.env=(Lw,eval e X.env)::MM es X.env:=by rfl) (WC:(backTo OJ (MM es X.env)).any (·.1)=Lw:=by rfl):
  PE X (.Call (.Attribute o name apos) (e::es) [] OJ) (JZ X.K T r to t):=by
 intro pins s σ H Q I h;refine wpAny_Call_method_late UN aaH UY rfl (ce (ho pins s σ H _ I h) fun v s1 ⟨x,H1,I1,r1,ty,q1⟩=> ?_);obtain⟨h1,h2⟩:=HB I1 r1 ty;refine⟨T,id,pa,slot,hty,h1,h2,?_⟩;have hA:=ha OJ pins s1 σ H1 _ I1 q1;rw[hs] at hA⊢;refine Calls.callWith_builtin (by show(Lw||(backTo OJ (MM es X.env)).any (·.1))=Lw;rw[WC]<;>rfl) (Calls.evalArgs_plain ?_);exact ce hA fun us s2 ⟨vs,H2,I2,r2,q2⟩=>hm pins s2 σ H2 x vs v us Q I2 r1 r2 q2
end
def K0 (X:Cx) (id:String) (r:V->List V->Hp->VK->Prop):Prop:=
 ∀(pins:List (Lp×Obj)) (s:Lm) (σ:St) (H:Hp) (x:V) (xs:List V) (v:Lf) (us:List Lf) (Q:VK),Inv X pins σ H s->RelV x v->Vals xs us->r x xs H Q->
  wpAny (model X.prog X.w) X.A (call (.builtin id) (v::us)) (EP X pins σ Q) X.xe s
theorem Vals.one:∀{x:V} {us:List Lf},Vals [x] us->∃u,us=[u]/\RelV x u
 |_,_,.cons r .nil=>⟨_,rfl,r⟩
theorem Vals.rep (h:Vals xs us):∀k:Nat,Vals (Lq k xs).flatten (Lq k us).flatten
 |0=> .nil
 |k+1=>by rw[Mz,Mz,NX,NX];exact Vals.append h (Vals.rep h k)
theorem kN (MD:List Lf):∀(k:Nat) (acc:List Lf),
  P0 (fun x1 x2=>x1++x2) acc.toArray (Lq k MD.toArray)=(acc++(Lq k MD).flatten).toArray
 |0,acc=>by simp
 |k+1,acc=>by
  have e:acc.toArray++MD.toArray=(acc++MD).toArray:=by simp
  have e2:(acc++MD)++(Lq k MD).flatten=acc++(Lq (k+1) MD).flatten:=by rw[Mz,NX,LP]
  rw[<-e2,<-kN MD k (acc++MD),<-e,Mz,P7]
section
variable {X:Cx} {pins:List (Lp×Obj)} {σ:St} {H:Hp} {s:Lm} {l b:Lp} {xs ys zs:List V}
theorem Inv.aae {MD S2:List Lf} (I:Inv X pins σ H s) (hH:H l=lD (.lst xs))
  (e:s.heap.get? l=lD {cls:= .type "list",data:= .seq MD.toArray n}) (hf:f MD.toArray=S2.toArray) (hv:Vals ys S2) (hz:ys.length<=LL):
  Inv X pins σ (upd H l (.lst ys)) {s with heap:=s.heap.update l (Obj.mapSeq f),toks:=t'}:=by
 have q:=aca e f;rw[hf] at q;refine I.write (by rw[hH];exact trivial) (.inl rfl) (fun b' u hb hu=>(Heap.get?_update_other s.heap (Obj.mapSeq f) (Ne.symm hb)).trans hu) ⟨_,q⟩ ?_;exact⟨hz,S2,_,hv,q⟩
theorem Inv.Yz (I:Inv X pins σ H s) (hv:Vals ys MD) (hz:ys.length<=LL):
  Inv X pins σ (upd H s.heap.objs.size (.lst ys)) {s with heap:=s.heap.push {cls:= .type "list",data:= .seq MD.toArray},toks:=t'}:=
 I.laid (fun _ _ q=>Heap.get?_push_of_some _ q) (Ll _) ⟨hz,MD,0,hv,Heap.get?_push_size _ rfl⟩
theorem Inv.fresh (I:Inv X pins σ H s):H s.heap.objs.size=Ld:=I.NO.fresh (Ll _)
theorem Inv.Yw (I:Inv X pins σ H s) (hH:H l=lD (.lst xs)):xs.length<=LL/\∃(MD:List Lf) (n:Nat),Vals xs MD/\xs.length=MD.length/\s.heap.get? l=lD {cls:= .type "list",data:= .seq MD.toArray n}:=by obtain⟨z,MD,n,r,e⟩:=I.NO l _ hH;exact⟨z,MD,n,r,r.length,e⟩
theorem BX (h:n<=LL):LJ.List.listTooLong n=Lw:=by unfold LJ.List.listTooLong;exact decide_eq_false (by omega)
end
section
variable {X:Cx}
def pR:V->List V->Hp->VK->Prop:=fun x vs H Q=>∃l xs y,x= .ref l/\vs=[y]/\H l=lD (.lst xs)/\xs.length<LL/\Q .ON (upd H l (.lst (xs++[y])))
theorem jc:K0 X "list.append" pR:=by intro pins s σ H x vs v us Q I rx rv h;obtain⟨l,xs,y,rfl,rfl,hH,hz,q⟩:=h;cases rx;obtain⟨u,rfl,ru⟩:=rv.one;obtain⟨z,MD,n,r,hl,e⟩:=I.Yw hH;refine Qt F.slot_list_append ⟨_,e,rfl⟩ F.entry_list_append (F.args_list_append_2 _ _) (PySem.list_append l MD.toArray n u (by rw[LC];omega)) ⟨e,?_⟩;refine⟨.ON,_,I.aae hH e (by simp) (r.append (.cons ru .nil)) ?_,rfl,q⟩;rw[Ln,Mx];omega
theorem wA (xs:List α) (k:Nat):(Lq k xs).flatten.length=k*xs.length:=by
 induction k with
 |zero=>simp
 |succ k ih=>rw[Mz,NX,Ln,ih,XD,Nat.add_comm]
end
section
variable {prog:LR} {w:Mg} {A:L0} {E:Lf->Lm->Prop} {s:Lm}
set_option maxRecDepth 100000 in
end
end L2
namespace Att
open PySem PySem.W PySem.Calls PyProof.Rows
theorem lG:∀(ns:List Int) (vs:List Lf),WellAll P h vs (ns.map WData.int)->IntsAre vs ns:=by
 intro ns
 induction ns with
 |nil=>intro vs w;rw[LY] at w;cases w;exact .nil
 |cons n ns ih=>
  intro vs w;rw[Lo] at w;cases w with
  |cons a b=>cases a;exact .cons _ _ (ih _ b)
theorem yN {l:OpenLaw} (hn:l.most=lD n)
  (VT:l.row.toRowW.claim.pre args=Lk) (ZV:WellAll P h vals args):
  ∃a vs ns,vals=[Lf.ref a]/\args=[WData.list (ns.map WData.int)]/\h.get? a=lD {cls:= .type "list",data:= .seq vs.toArray}/\IntsAre vs ns/\ns.length<=n:=by
 have hsh:=(pre_splitW VT).1;have hc:l.pre.holds [] {args:=args}=Lk:=(pre_splitW VT).2;obtain⟨d,r,rfl,h1,h2⟩:=hasAllW_cons hsh;obtain rfl:=hasAllW_nil h2;obtain⟨xs,rfl,h3⟩:=hasW_list h1;obtain⟨ns,rfl⟩:=items_int h3;have hlen:ns.length<=n:=by
  unfold OpenLaw.pre at hc;have h4:(WTm.not (.lt (.lit (.int (n:Int))) (.len (.arg 0)))).holds [] {args:=[.list (ns.map .int)]}=Lk:=by have h4:=(holds_andW hc).1;rw[hn] at h4;exact h4
  have h5:=condW_of h4 (w_not (w_lt w_lit (w_len_list (w_arg rfl))));rw[Lh] at h5;refine NN fun q=> ?_;have q':(n:Int)<((ns.length:Nat):Int):=by omega
  first
   |(rw[decide_eq_true q'] at h5;exact absurd h5 (by decide))
   |(simp at h5;omega)
 cases ZV with
 |cons w1 w2=>
  cases w2;cases w1 with
  |list ho ZQ=>exact⟨_,_,ns,rfl,rfl,ho,lG ns _ ZQ,hlen⟩
theorem yQ (l:OpenLaw) (args:List WData):l.row.toRowW.claim.post args (.bool Lk) args=Lk:=
 postW_of
  (show WShape.has [] (.bool Lk) .bool=Lk by first|rfl|decide|simp[WShape.has,WShape.arms,WShape.armsAll])
  (show(WTm.eq .res (.lit (.bool Lk))).value [] {args:=args,res:=lD (.bool Lk),after:=args}=lD (.bool (Lk==Lk)) from w_eq_bool (w_res rfl) w_lit) rfl
theorem attach_call {l:OpenLaw} {n:Nat} {q:LR} {loose:List Str} {XP:(Str->Option Lf)->Heap->Prop} {YP:Mg->Heap->Prop} {d:DefRec}
  (hn:l.most=lD n) (hdf:d.params.defaults=[])
  (call:∀(w:Mg) (s₀ s₁:Lm) (mg mb:Str->Option Lf) (fa:Lp) (o:Obj) (pm cd doc:Lf) (a:Lp) (vs:List Lf) (ns:List Int),
   Ground q loose [] XP w s₀ mg mb s₁.heap->YP w s₁.heap->
   s₁.heap.get? fa=lD o->o.data= .func (docDef d.name d.params d.body d.scope pm cd doc)->s₁.heap.CodeRec cd d.name->mg d.name=lD (.ref fa)->
   s₁.heap.get? a=lD {cls:= .type "list",data:= .seq vs.toArray}->IntsAre vs ns->ns.length<=n->s₁.gens= #[]->
   codeAny (model l.prog w) callerA (.call (.ref fa) ⟨[.ref a],[]⟩) (fun r s'=>r= .ok (.ret (.bool Lk))/\OldK s₁.heap s'.heap/\s'.os=s₁.os/\AllBare s'.gens) s₁):
  WalkO q loose XP YP l.row.toRowW d [] (fun f vs=>XF f vs):=by
 intro w s₀ s₁ mg mb G Y fa o pm cd doc dV kV ho hd Tf hD Yn hg args vals as VT ac6 hrd ZV hlo;obtain rfl:dV= .none:=Dflts.none hD hdf;obtain rfl:kV= .none:=Dflts.noKw hD;obtain⟨a,vs,ns,rfl,rfl,WJ,hints,hlen⟩:=yN hn VT ZV;refine enter_call (Ur (call w s₀ s₁ mg mb fa o pm cd doc a vs ns G Y ho (fd_plain hd) Tf Yn WJ hints hlen hg) fun r s' hq=> ?_);obtain⟨rfl,h2,h3,h4⟩:=hq;exact⟨.inl ⟨.bool Lk,.bool Lk,[],rfl,fun _=>rfl,.bool Lk,yQ l _,fun _=>⟨RF,fun _ hm=>(nomatch hm)⟩⟩,h2,h3,h4⟩
end Att
namespace L2
open PySem PySem.Spec PyProof.Rows
theorem oO:∀{vs:List Lf} {ns:List Int},IntsAre vs ns->Vals (ns.map V.int) vs
 |_,_,.nil=> .nil
 |_,_,.cons n t h=> .cons ⟨t,rfl⟩ (oO h)
def IP (H:Hp):Prop:=∀b,H b=Ld\/∃o xs,H b=lD (.frz o (.lst xs))
theorem BR {P:LR} {w:Mg} {K:Lc} {mg mb:Str->Option Lf} {CX:vA} {k:Nat} {fa a:Lp} {fd:M8} {x:Str} {sp:Sp} {s₁:Lm} {vs:List Lf} {ns:List Int}
  (KX:K.In s₁.heap) (SS:s₁.heap.Ns Ma mg) (hb:s₁.heap.Ns builtinsNs mb) (Z6:∀x:Str,x≠ "__name__"->mb x=ML x) (WD:s₁.heap.NoLimit) (hg:s₁.gens= #[])
  (ha:s₁.heap.get? a=lD {cls:= .type "list",data:= .seq vs.toArray}) (hi:IntsAre vs ns) (hl:ns.length<=LL) (hr:OG k callerA)
  (F:∀base:Heap,K.In base->base.Ns Ma mg->FnOk P w K mg base CX k fa fd [x] sp) (UH:∀(s:Lm) (u:Lf),QP s fd ⟨[u],[]⟩ [(x,u)])
  (Xr:∀H:Hp,IP H->Ql K H a (ns.map V.int)->sp [.ref a] H (fun v _=>v= .bl Lk) fun _ _ _=>False)
  (hCX:∀H e s',CX [] H s₁ (fun _ _ _=>False) e s'->False):
  codeAny (model P w) callerA (.call (.ref fa) ⟨[.ref a],[]⟩) (fun r s'=>r= .ok (.ret (.bool Lk))/\OldK s₁.heap s'.heap/\s'.os=s₁.os/\AllBare s'.gens) s₁:=by
 have rv:=oO hi;have aaM:=hi.length
 have core:∀H:Hp,IP H->Ql K H a (ns.map V.int)->Ri P w H s₁.heap->(∀b,H b≠Ld->b=a)->(H a≠Ld->K.lookup a=Ld)->
   codeAny (model P w) callerA (.call (.ref fa) ⟨[.ref a],[]⟩) (fun r s'=>r= .ok (.ret (.bool Lk))/\OldK s₁.heap s'.heap/\s'.os=s₁.os/\AllBare s'.gens) s₁:=by
  intro H hO hS NO hA hK;have Tq:∀{b:Lp} {o:Obj},s₁.heap.get? b=lD o->H b=Ld->(qB s₁.heap H).get? b=lD o:=fun e n=>zq e n;have Yj:∀{b:Lp} {o:Obj} {es:Array Na} {ep:Nat},s₁.heap.get? b=lD o->o.data= .dict es ep->H b=Ld:=fun{b o es ep} e d=>by
   cases q:H b with
   |none=>rfl
   |some u=>have e':b=a:=hA b (by rw[q];simp);subst e';rw[ha] at e;cases e;have d':Data.seq vs.toArray _=Data.dict es ep:=d;cases d'
  have Zd:∀{b:Lp} {m:Str->Option Lf},s₁.heap.Ns b m->(qB s₁.heap H).Ns b m:=fun{b m} ⟨o,es,ep,e,d,r⟩=>⟨o,es,ep,Tq e (Yj e d),d,r⟩;have hKb:K.In (qB s₁.heap H):=fun b o e=>Tq (KX b o e) (by
   cases q:H b with
   |none=>rfl
   |some u=>have e':b=a:=hA b (by rw[q];simp);subst e';rw[hK (by rw[q];simp)] at e;cases e)
  have hM:Mod K mg (qB s₁.heap H):=⟨hKb,Zd SS,⟨mb,Zd hb,Z6⟩,let⟨mc,h1,h2⟩:=WD;⟨mc,Zd h1,h2⟩⟩;have e0:V7 P w K mg (qB s₁.heap H) callerA [] s₁ H:=⟨rfl,hM,fun b o e=>Ds e,XG (yl _ _),trivial,fun b hb=>absurd (show b∈([]:List Lp) from hb) (by simp),NO,.of_eq hg⟩;refine Ur ((F _ hKb (Zd SS)).run callerA [] s₁ H ⟨[.ref a],[]⟩ [.ref a] [.ref a] _ _ hr e0 (UH s₁ (.ref a)) (.cons rfl .nil) (Xr H hO hS)) fun r s' h=> ?_;cases r with
  |error e=>exact(hCX H e s' h).elim
  |ok fl=>
   cases fl with
   |next=>exact False.elim h
   |brk=>exact False.elim h
   |cont=>exact False.elim h
   |ret u=>
    obtain⟨v,H',os,bare,un,aaO,r',q⟩:=h;have q':v= .bl Lk:=q;subst q';obtain rfl:u=Lf.bool Lk:=r';refine⟨rfl,OldK.of_keep fun b o e=> ?_,os,bare⟩;cases q:H b with
    |none=>exact un.keep b o e q (by intro z;exact absurd (show b∈([]:List Lp) from z) (by simp)) (by simp)
    |some u=>
     rcases hO b with z|⟨ob,xs,z⟩
     ·rw[q] at z;cases z
     ·have z2:=un.Sb b ob _ z;obtain⟨e1,_⟩:=NO b _ z;obtain⟨e2,_⟩:=aaO b _ z2;rw[e] at e1;cases e1;exact e2
 cases hk:K.lookup a with
 |some o=>have e:=KX a o hk;rw[ha] at e;cases e;refine core (fun _=>Ld) (fun _=> .inl rfl) (.inr ⟨_,vs.toArray,_,hk,rfl,rfl,rfl,by rw[LC,aaM];exact hl,by simpa using rv⟩) (fun b u z=>by have z':(Ld:Option HO)=lD u:=z;cases z') (fun b z=>absurd rfl z) fun z=>absurd rfl z
 |none=>
  refine core (fun b=>if b=a then lD (.frz {cls:= .type "list",data:= .seq vs.toArray} (.lst (ns.map V.int))) else Ld) (fun b=> ?_) (.inl (.inr ⟨{cls:= .type "list",data:= .seq vs.toArray},if_pos rfl⟩)) (fun b u z=> ?_) (fun b z=> ?_) fun _=>hk
  ·by_cases hb:b=a
   ·exact .inr ⟨_,_,if_pos hb⟩
   ·exact .inl (if_neg hb)
  ·by_cases hb:b=a
   ·have z':=(if_pos hb).symm.trans z;cases z';subst hb;exact⟨ha,by rw[Lh];exact hl,vs,_,rv,ha⟩
   ·have z':=(if_neg hb).symm.trans z;cases z'
  ·by_cases hb:b=a
   ·exact hb
   ·exact absurd (if_neg hb) z
noncomputable def jm (s:NZ):Arguments:=match s with
 | .FunctionDef _ a _ _ _ _ _ _ _ _=>a
 |_=>{posonlyargs:=[],args:=[],vararg:=Ld,kwonlyargs:=[],kw_defaults:=[],kwarg:=Ld,defaults:=[]}
noncomputable def bZ (s:NZ):List NZ:=match s with
 | .FunctionDef _ _ b _ _ _ _ _ _ _=>b
 |_=>[]
noncomputable def aF (s:NZ):Pk:=match s with
 | .FunctionDef _ _ _ _ _ _ sc _ _ _=>sc
 |_=>{kind:= .function,names:=[],isGenerator:=Lw,isCoroutine:=Lw}
noncomputable abbrev fT:vA:=fun _ _ _ _ _ _=>False
noncomputable abbrev E0:XK:=fun _ _ _=>False
theorem Ft:uL fT X E0:=fun _ _ _ _ _ _ _ h=>h.elim
structure PY (K:Lc) (x qual:Str) (st:NZ) (f:Lp) (fd:M8):Prop where
 ex:∃(oc:Lf) (od:Option Lp) (kV doc pm:Lf) (an:Option Lp) (Ny ct:Lf) (UK:Array (Option Lf)),
  fd=N2 x qual (jm st) (bZ st) (aF st) .none kV doc pm an Ny ct/\K.lookup f=lD ⟨oc,od,.func fd,UK⟩/\P5 K Ny qual=Lk
 kp:NF K (.ref f)=Lk
section
variable {P:LR} {w:Mg} {K:Lc} {mg:Str->Option Lf} {base:Heap}
theorem PY.ok {x qual:Str} {st:NZ} {f:Lp} {fd:M8} {N ps:List Str} {k:Nat} {sp:Sp} (F:PY K x qual st f fd) (S:OM N ps (aF st)) (len:∀vs H Q E,sp vs H Q E->vs.length=ps.length)
  (Pu:∀(Ny:Lf) (A:L0) (outer:List Env) (s:Lm) (H:Hp) (vs:List V) (Q:VK) (E:XK),OG k (A.deeper (envOfC qual (aF st) s.heap.objs.size f Ny))->sp vs H Q E->
   ∃t,Rq (lF fT P w K mg base N qual (aF st) f Ny A outer s H E).Vx (bZ st) t/\t {nx:=fun _ H'=>Q .ON H',rt:=Q} (start N vs) H):FnOk P w K mg base fT (k+1) f fd ps sp:=by
 obtain⟨oc,od,kV,doc,pm,an,Ny,ct,UK,rfl,lk,Tf⟩:=F.ex;refine Jt lk Tf S len fun A outer s H vs Q E hr Xr=> ?_;obtain⟨t,h,q⟩:=Pu Ny A outer s H vs Q E hr Xr;exact⟨t,h.Vx,q⟩
theorem PY.binds {x qual:Str} {st:NZ} {f:Lp} {fd:M8} {ps:List Str} (F:PY K x qual st f fd)
  (h:∀(kV doc pm:Lf) (an:Option Lp) (Ny ct:Lf) (us:List Lf),us.length=ps.length->bindArgs (N2 x qual (jm st) (bZ st) (aF st) .none kV doc pm an Ny ct) ⟨us,[]⟩=pure (ps.zip us)):Binds K fd ps []:=by
 obtain⟨oc,od,kV,doc,pm,an,Ny,ct,UK,rfl,lk,Tf⟩:=F.ex;exact .all (h kV doc pm an Ny ct)
theorem AD {st:NZ} {kV doc pm Ny ct:Lf} (l:K.lookup f=lD ⟨oc,od,.func (N2 x qual (jm st) (bZ st) (aF st) .none kV doc pm an Ny ct),UK⟩)
  (c:P5 K Ny qual=Lk) (k:NF K (.ref f)=Lk):PY K x qual st f (N2 x qual (jm st) (bZ st) (aF st) .none kV doc pm an Ny ct):=⟨⟨oc,od,kV,doc,pm,an,Ny,ct,UK,rfl,l,c⟩,k⟩
end
theorem FL (hr:OG k A):A.units+1<cLine:=Pc (Nat.add_le_add_left (by decide:1<=64) _) hr.units
section
variable {X:Cx}
theorem pv (i:Nat) (hN:X.N[i]? =lD x:=by rfl) (hv:J7 X.env.scope x:=by first|exact Or.inl rfl|exact Or.inr (Or.inl rfl)|exact Or.inr (Or.inr rfl)) (hd:(x==("__debug__":Str))=Lw:=by decide)
  (Tf:(x==("__classdict__":Str))=Lw:=by decide):PE X (.Name x pos) (oi i):=GI hN hv hd Tf
end
def Nk (H H':Hp):Prop:=∀b o,H b=lD o->H' b=lD o
theorem Nk.refl (H:Hp):Nk H H:=fun _ _ h=>h
theorem Nk.trans (a:Nk H H1) (b:Nk H1 H2):Nk H H2:=fun c o h=>b c o (a c o h)
theorem Nk.free (e:Nk H H') (h:H' l=Ld):H l=Ld:=by
 cases q:H l with
 |none=>rfl
 |some o=>rw[e l o q] at h;cases h
end L2
set_option maxHeartbeats 4000000
namespace L2
open PySem PySem.Spec PyProof.Rows
mutual
inductive DV (K:Lc) (H:Hp):V->Lg->Prop
 |ON:DV K H .ON .none
 |bl (b:Bool):DV K H (.bl b) (.bool b)
 |int (i:Int):DV K H (.int i) (.int i)
 |str (x:Str):DV K H (.str x) (.str x)
 |tup {a:Lp} {xs:List V} {ds:List Lg}:P9 K H a xs->Nc K H xs ds->DV K H (.ref a) (.tuple ds)
 |lst {a:Lp} {xs:List V} {ds:List Lg}:Ql K H a xs->Nc K H xs ds->DV K H (.ref a) (.list ds)
inductive Nc (K:Lc) (H:Hp):List V->List Lg->Prop
 |nil:Nc K H [] []
 |cons {v:V} {vs:List V} {d:Lg} {ds:List Lg}:DV K H v d->Nc K H vs ds->Nc K H (v::vs) (d::ds)
end
section
variable {X:Cx} {pins:List (Lp×Obj)} {σ:St} {H:Hp} {s:Lm}
mutual
theorem DV.reads (I:Inv X pins σ H s):∀{v:V} {d:Lg} {u:Lf},DV X.K H v d->RelV v u->∃as,NJ s.heap u d as
 |_,_,_,.ON,r=>by cases r;exact⟨_,.none⟩
 |_,_,_,.bl b,r=>by cases r;exact⟨_,.bool b⟩
 |_,_,_,.int i,r=>by obtain⟨t,rfl⟩:=r;exact⟨_,.int i t⟩
 |_,_,_,.str x,r=>by obtain⟨t,rfl⟩:=r;exact⟨_,.str x t⟩
 |_,_,_,.tup h hs,r=>by cases r;obtain⟨MD,rv,⟨o,e,c,n,d⟩,_⟩:=I.tuple h;obtain⟨as,q⟩:=Nc.reads I hs rv;exact⟨_,.tuple e c d (by simpa using q)⟩
 |_,_,_,.lst h hs,r=>by cases r;obtain⟨MD,rv,⟨o,n,e,c,_,d⟩,_⟩:=I.list h;obtain⟨as,q⟩:=Nc.reads I hs rv;exact⟨_,.list e c d (by simpa using q)⟩
theorem Nc.reads (I:Inv X pins σ H s):∀{vs:List V} {ds:List Lg} {us:List Lf},Nc X.K H vs ds->Vals vs us->∃as,NS s.heap us ds as
 |_,_,_,.nil,r=>by cases r;exact⟨_,.nil⟩
 |_,_,_,.cons h hs,r=>by
  cases r with
  |cons r1 r2=>obtain⟨as,q⟩:=DV.reads I h r1;obtain⟨bs,q2⟩:=Nc.reads I hs r2;exact⟨_,.cons q q2⟩
end
end
def Ef (K:Lc) (neg:Bool):R2:=fun x y H Q=>∃dx dy,DV K H x dx/\DV K H y dy/\dx.canLay0=Lk/\dy.canLay0=Lk/\dx.depth<=64/\Q (.bl (if neg then !Lg.eqv dx dy else Lg.eqv dx dy)) H
section
variable {X:Cx}
theorem rq (hu:X.A.units+64<cLine):OpR X (NG .Eq) (Ef X.K Lw):=by intro pins s σ H x y v u Q I rx ry h;obtain⟨dx,dy,h1,h2,l1,l2,hd,q⟩:=h;obtain⟨as,r1⟩:=h1.reads I rx;obtain⟨bs,r2⟩:=h2.reads I ry;exact Zy r1 r2 l1 l2 (by omega) ⟨.bl _,H,I,rfl,q⟩
theorem An (hu:X.A.units+64<cLine):OpR X (NG .NotEq) (Ef X.K Lk):=by intro pins s σ H x y v u Q I rx ry h;obtain⟨dx,dy,h1,h2,l1,l2,hd,q⟩:=h;obtain⟨as,r1⟩:=h1.reads I rx;obtain⟨bs,r2⟩:=h2.reads I ry;exact Zz r1 r2 l1 l2 (by omega) ⟨.bl _,H,I,rfl,q⟩
theorem nu:OpR X (Nl .FloorDiv) (rI (fun _ j=>0<j/\j.natAbs.log2<9000) fun i j=> .int (i/j)):=JT fun i j _ _ _ _ _ hc q=>by have h1:(0:Int)<j:=hc.1;exact floordiv_int (by omega) (by rw[Int.fdiv_eq_ediv_of_nonneg i (by omega)];exact q) (.inl (PyProof.noPylong_of_log2 hc.2))
end
noncomputable def fO (env:Env):List (Str×Md)->List (Str×Lp)->List (Str×Lp)
 |[],acc=>acc
 |(n,k)::r,acc=>if(k==Md.free)=Lk then(match env.cells.lookup n with|some c=>fO env r ((n,c)::acc)|none=>fO env r acc) else fO env r acc
theorem jx {f:Str×Md->List (Str×Lp)->Sem (ForInStep (List (Str×Lp)))}
  (h1:∀n k acc,(k==Md.free)=Lw->f (n,k) acc=pure (.yield acc)) (h2:∀n c acc,env.cells.lookup n=lD c->f (n,.free) acc=pure (.yield ((n,c)::acc))):
  ∀(names:List (Str×Md)) (acc:List (Str×Lp)),(∀y∈names,y.2= .free->∃c,env.cells.lookup y.1=lD c)->forIn names acc f=pure (fO env names acc)
 |[],acc,_=>rfl
 |(n,k)::r,acc,h=>by
  have hr:=fun y hy=>h y (Ly _ hy);rw[Rm];cases hk:(k==Md.free) with
  |false=>rw[h1 n k acc hk,pure_bind];show forIn r acc f=_;rw[jx h1 h2 r acc hr];simp only[fO,hk,Lr,if_false]
  |true=>
   have e:k= .free:=by simpa using hk
   subst e;obtain⟨c,hc⟩:=h _ LG rfl;rw[h2 n c acc hc,pure_bind];show forIn r ((n,c)::acc) f=_;rw[jx h1 h2 r _ hr];have Sj:=hc;simp only[fO,hk,if_true,Sj]
theorem u9 (h:∀y∈scope.names,y.2= .free->∃c,env.cells.lookup y.1=lD c):closureFor scope env=pure (fO env scope.names []):=by simp only[closureFor];rw[jx (fun n k acc hk=>by simp only[hk,Lr,if_false]) (fun n c acc hc=>by simp only[beq_self_eq_true,if_true,cellOf,hc,pure_bind]) scope.names [] h,pure_bind]
theorem iC:∀(names:List (Str×Md)) (acc:List (Str×Lp)),(∀x c,acc.lookup x=lD c->env.cells.lookup x=lD c)->∀x c,(fO env names acc).lookup x=lD c->env.cells.lookup x=lD c
 |[],_,h,x,c,e=>h x c e
 |(n,k)::r,acc,h,x,c,e=>by
  unfold fO at e;split at e
  ·split at e
   ·rename_i c' Sj
    refine iC r _ (fun y d q=> ?_) x c e;rw[MK] at q;split at q
    ·rename_i hy;cases q;rw[eq_of_beq hy];exact Sj
    ·exact h y d q
   ·exact iC r acc h x c e
  ·exact iC r acc h x c e
theorem jb:∀(names:List (Str×Md)) (acc:List (Str×Lp)) (x:Str),(acc.lookup x).isSome=Lk->((fO env names acc).lookup x).isSome=Lk
 |[],_,_,h=>h
 |(n,k)::r,acc,x,h=>by
  unfold fO;split
  ·split
   ·refine jb r _ x ?_
    rw[MK];split
    ·rfl
    ·exact h
   ·exact jb r acc x h
  ·exact jb r acc x h
theorem jO:∀(names:List (Str×Md)) (acc:List (Str×Lp)) (x:Str) (c:Lp),(x,Md.free)∈names->env.cells.lookup x=lD c->((fO env names acc).lookup x).isSome=Lk
 |[],_,_,_,h,_=>by cases h
 |(n,k)::r,acc,x,c,h,hc=>by
  rcases LN.mp h with z|h
  ·cases z;simp only[fO,beq_self_eq_true,if_true,hc];exact jb r _ _ (by simp[MK])
  ·unfold fO
   split
   ·split
    ·exact jO r _ x c h hc
    ·exact jO r acc x c h hc
   ·exact jO r acc x c h hc
theorem uh (h:(x,Md.free)∈names) (hc:env.cells.lookup x=lD c):(fO env names []).lookup x=lD c:=by
 have q:=jO names [] x c h hc;cases e:(fO env names []).lookup x with
 |none=>rw[e] at q;cases q
 |some d=>have z:=iC names [] (fun y d q=>by cases q) x d e;rw[hc] at z;exact z.symm
theorem uw {env:Env} {scope:Pk} {x:Str} {k:Md} (h:(relabel scope env).names.lookup x=lD k):∃k0,(x,k0)∈scope.names/\(k=k0\/(k0= .free/\k= .cell)):=by
 obtain⟨⟨n,k0⟩,hm,e⟩:=Lz.mp (Nn h);simp only at e;split at e
 ·rename_i hc
  cases e;have hk:(k0==Md.free)=Lk:=by rw[LU,LU] at hc;exact hc.1.1
  exact⟨k0,hm,.inr ⟨by simpa using hk,rfl⟩⟩
 ·cases e;exact⟨_,hm,.inl rfl⟩
theorem g7 {env:Env}:∀{names:List (Str×Md)} {x:Str},names.lookup x=lD .free->
  (names.map fun(n,k)=>if(k==Md.free&&env.scope.kind== .function&&env.kindOf n==lD .cell) then(n,Md.cell) else(n,k)).lookup x=lD .cell\/
  (names.map fun(n,k)=>if(k==Md.free&&env.scope.kind== .function&&env.kindOf n==lD .cell) then(n,Md.cell) else(n,k)).lookup x=lD .free
 |[],_,h=>by cases h
 |(n,k)::r,x,h=>by
  rw[MK] at h;rw[Lo];dsimp only;by_cases hc:(k==Md.free&&env.scope.kind== .function&&env.kindOf n==lD .cell)=Lk
  ·rw[if_pos hc,MK]
   cases hx:x==n with
   |true=>exact .inl rfl
   |false=>rw[hx] at h;exact g7 h
  ·rw[if_neg hc,MK]
   cases hx:x==n with
   |true=>rw[hx] at h;exact .inr h
   |false=>rw[hx] at h;exact g7 h
noncomputable def fC (own:List Str) (fv:List (Str×Nat)):List Str:=own++fv.map (·.1)
noncomputable def dY (own:List Str) (fv:List (Str×Nat)) (σ:St):St:=own.map (fun _=>Ld)++fv.map fun p=>(σ[p.2]?).join
def Ua (X:Cx) (scope:Pk):List (Str×Nat)->Prop
 |[]=>True
 |p::r=>(X.N[p.2]? =lD p.1/\scope.names.lookup p.1=lD .free/\(X.env.scope.names.lookup p.1=lD .cell\/X.env.scope.names.lookup p.1=lD .free))/\Ua X scope r
theorem Ua.mem:∀{fv:List (Str×Nat)},Ua X scope fv->∀p∈fv,X.N[p.2]? =lD p.1/\scope.names.lookup p.1=lD .free/\(X.env.scope.names.lookup p.1=lD .cell\/X.env.scope.names.lookup p.1=lD .free)
 |[],_,p,hp=>by cases hp
 |q::r,h,p,hp=>by
  rcases LN.mp hp with z|hp
  ·rw[z];exact h.1
  ·exact h.2.mem p hp
noncomputable def rO (X:Cx) (scope:Pk) (C:Lp):List (Str×Lp):=NA (C+1) scope.names (fO X.env scope.names [])
theorem mP:∀(names:List (Str×Md)) (n:Nat) (acc:List (Str×Lp)) (x:Str) (c:Lp),(NA n names acc).lookup x=lD c->(n<=c/\(x,Md.cell)∈names)\/acc.lookup x=lD c
 |[],_,_,_,_,h=> .inr h
 |(y,k)::r,n,acc,x,c,h=>by
  unfold NA at h;by_cases hk:(k==Md.cell)=Lk
  ·rw[if_pos hk] at h
   have e:k= .cell:=by simpa using hk
   rcases mP r _ _ x c h with⟨h1,h2⟩|h1
   ·exact .inl ⟨Py h1,Ly _ h2⟩
   ·rw[MK] at h1
    split at h1
    ·rename_i hy;cases h1;exact .inl ⟨Ll _,by rw[eq_of_beq hy,e];exact LG⟩
    ·exact .inr h1
  ·rw[if_neg hk] at h
   rcases mP r _ _ x c h with⟨h1,h2⟩|h1
   ·exact .inl ⟨h1,Ly _ h2⟩
   ·exact .inr h1
theorem CB:∀(names:List (Str×Md)) (n:Nat) (acc:List (Str×Lp)) (x:Str),(x,Md.cell)∉names->(NA n names acc).lookup x=acc.lookup x
 |[],_,_,_,_=>rfl
 |(y,k)::r,n,acc,x,h=>by
  have hr:=fun z=>h (Ly _ z);unfold NA;by_cases hk:(k==Md.cell)=Lk
  ·have e:k= .cell:=by simpa using hk
   rw[if_pos hk,CB r _ _ x hr,MK];have hy:(x==y)=Lw:=by refine beq_eq_false_iff_ne.mpr fun z=>h ?_;rw[z,e];exact LG
   rw[hy]
  ·rw[if_neg hk];exact CB r _ _ x hr
theorem mQ:∀(names:List (Str×Md)) (h:Heap) (acc:List (Str×Lp)) (x:Str) (c:Lp),(NA h.objs.size names acc).lookup x=lD c->(h.objs.size<=c/\(pushCells h names).IsCell c Ld)\/acc.lookup x=lD c
 |[],_,_,_,_,e=> .inr e
 |(y,k)::r,h,acc,x,c,e=>by
  unfold NA at e;unfold pushCells;by_cases hk:(k==Md.cell)=Lk
  ·rw[if_pos hk] at e⊢
   rw[<-Heap.size_push h {cls:= .type "cell",data:= .cell Ld}] at e;rcases mQ r _ _ x c e with⟨h1,h2⟩|h1
   ·rw[Heap.size_push] at h1;exact .inl ⟨Py h1,h2⟩
   ·rw[MK] at h1
    split at h1
    ·cases h1;exact .inl ⟨Ll _,_,Sq _ _ _ _ (Heap.get?_push_size _ rfl),rfl⟩
    ·exact .inr h1
  ·rw[if_neg hk] at e⊢;exact mQ r _ _ x c e
theorem u3:∀(names:List (Str×Md)) (n:Nat) (acc:List (Str×Lp)),(∀x c,acc.lookup x=lD c->c<n)->(∀x y c,acc.lookup x=lD c->acc.lookup y=lD c->x=y)->∀x y c,(NA n names acc).lookup x=lD c->(NA n names acc).lookup y=lD c->x=y
 |[],_,_,_,h2,x,y,c,e1,e2=>h2 x y c e1 e2
 |(z,k)::r,n,acc,h1,h2,x,y,c,e1,e2=>by
  unfold NA at e1 e2;by_cases hk:(k==Md.cell)=Lk
  ·rw[if_pos hk] at e1 e2
   refine u3 r (n+1) ((z,n)::acc) (fun a d q=> ?_) (fun a b d q1 q2=> ?_) x y c e1 e2
   ·rw[MK] at q
    split at q
    ·cases q;exact Ni _
    ·exact Oy (h1 a d q)
   ·rw[MK] at q1 q2
    split at q1
    ·rename_i ha
     split at q2
     ·rename_i hb;rw[eq_of_beq ha,eq_of_beq hb]
     ·cases q1;exact absurd (h1 b _ q2) (MC _)
    ·split at q2
     ·cases q2;exact absurd (h1 a _ q1) (MC _)
     ·exact h2 a b d q1 q2
  ·rw[if_neg hk] at e1 e2;exact u3 r n acc h1 h2 x y c e1 e2
theorem vo:∀{names:List (Str×Md)} {x:Str} {k k':Md},(names.map (·.1)).Nodup->names.lookup x=lD k->(x,k')∈names->k=k'
 |[],_,_,_,_,h,_=>by cases h
 |(y,j)::r,x,k,k',hn,h,hm=>by
  rw[Lo,MJ] at hn;rw[MK] at h;rcases LN.mp hm with e|Wl
  ·cases e;rw[beq_self_eq_true] at h;exact(LZ h).symm
  ·cases hx:x==y with
   |true=>rw[eq_of_beq hx] at Wl;exact absurd (Lz.mpr ⟨_,Wl,rfl⟩) hn.1
   |false=>rw[hx] at h;exact vo hn.2 h Wl
noncomputable def dz (X:Cx) (s:Lm) (H:Hp) (scope:Pk) (C:Lp) (N:List Str) (fp:List Lp):Cx:=
 {X with N:=N,s₀:=s,H₀:=H,env:=compEnvC scope (rO X scope C) C X.env,outer:=X.stack,stack:=X.stack,ex:=fp,fn:=fun x=>((fO X.env scope.names []).lookup x).isNone,pn:=[],xe:=fun _ _=>False}
section
variable {X:Cx} {pins:List (Lp×Obj)} {σ:St} {H:Hp} {s:Lm}
theorem o6 {scope:Pk} (I:Inv X pins σ H s) (e:(fO X.env scope.names []).lookup x=lD c):X.env.cells.lookup x=lD c/\c<s.heap.objs.size:=by have h:=iC _ _ (fun _ _ q=>by cases q) x c e;obtain⟨v,o,z,_⟩:=I.cell x c h;exact⟨h,Heap.lt_size z⟩
theorem yc (I:Inv X pins σ H s) (Qc:scope.kind= .function) (V5:(scope.names.map (·.1)).Nodup)
  (VM:∀y∈scope.names,y.2= .free->∃c,X.env.cells.lookup y.1=lD c) (hC:s.heap.objs.size<=C) (hf:∀b∈fp,n9 X pins H b) (Wm:∀b∈fp,b<s.heap.objs.size):(dz X s H scope C N fp).Ok where
 mod:=I.ok.mod
 kind:=Qc
 glob:=I.ok.glob
 blt:=I.ok.blt
 above:=hC
 inj:=u3 _ _ _ (fun x c e=>Oy (LQ (o6 I e).2 hC)) fun x y c h1 h2=>I.ok.inj x y c (o6 I h1).1 (o6 I h2).1
 has:=fun x hx=>by
  have Sm:∃k,(relabel scope X.env).names.lookup x=lD k/\(k= .cell\/k= .free):=by
   rcases hx with z|z
   ·exact⟨_,z,.inl rfl⟩
   ·exact⟨_,z,.inr rfl⟩
  obtain⟨k,hk,SR⟩:=Sm;obtain⟨k0,hm,Tr⟩:=uw hk;have e:k0= .free\/k0= .cell:=by
   rcases Tr with z|⟨z,_⟩
   ·subst z
    rcases SR with z|z
    ·exact .inr z
    ·exact .inl z
   ·exact .inl z
  have q:((rO X scope C).lookup x).isSome=Lk:=by
   rcases e with e|e
   ·subst e;obtain⟨c,hc⟩:=VM _ hm rfl;exact Oi _ _ _ (.inr (by rw[uh hm hc];rfl))
   ·subst e
    refine Oi _ _ _ (.inl ?_);cases z:scope.names.lookup x with
    |none=>exact absurd hm (fun hm=>by
      have:∀{l:List (Str×Md)},l.lookup x=Ld->(x,Md.cell)∉l:=fun{l}=>by
       induction l with
       |nil=>exact fun _=>by simp
       |cons p r ih=>
        intro h q;rw[MK] at h;rcases LN.mp q with q|q
        ·rw[<-q,beq_self_eq_true] at h;cases h
        ·split at h
         ·cases h
         ·exact ih h q
      exact this z hm)
    |some k'=>rw[vo V5 z hm]
  exact Ng.mp q
 Xg:=fun x c h1 h2=>by
  have h1':((fO X.env scope.names []).lookup x).isNone=Lk:=h1;have XT:=h2;rcases mP _ _ _ x c XT with⟨z,_⟩|z
  ·exact LF hC (Py z)
  ·rw[z] at h1';cases h1'
 hd:=I.ok.hd
 frames:=I.ok.frames
 YD:= .inl rfl
 Yg:=fun b hb=>⟨Ml (LQ (Wm b hb) hC),fun x c e=>by
  rcases mP _ _ _ x c e with⟨z,_⟩|z
  ·exact OV (LQ (LQ (Wm b hb) hC) (Py z))
  ·exact(hf b hb).2.2.2.2.1 x c (o6 I z).1⟩
 bs:=I.bs
 VV:=LF I.ok.VV I.sz
 T6:=fun b o e hb=>by
  rcases(hf b hb).2.2.2.1 with z|z
  ·exact I.ok.T6 b o e z
  ·exact absurd (LQ (Heap.lt_size e) (LF I.ok.VV z)) (MC _)
 TY:=fun b hb hs=>by
  rcases LN.mp (I.S3 b hs) with z|z
  ·exact(hf b hb).2.1 z
  ·exact(hf b hb).2.2.1 z
 Q3:=I.stack
 WH:=I.To
theorem z8 (I:Inv X pins σ H s) (Qc:scope.kind= .function) (V5:(scope.names.map (·.1)).Nodup)
  (VM:∀y∈scope.names,y.2= .free->∃c,X.env.cells.lookup y.1=lD c) (Yi:Ua X scope fv) (hD:s.heap.objs.size<=D) (Xf:D<C) (hC:s.heap.objs.size<=C) (hf:∀b∈fp,n9 X pins H b) (Wm:∀b∈fp,b<s.heap.objs.size)
  (SS:h1.Ns C m) (Xh:∀x c,(rO X scope C).lookup x=lD c->C<c->∃v,h1.IsCell c v) (hk:∀b o,s.heap.get? b=lD o->h1.get? b=lD o) (hd:∃n,h1.get? D=lD {cls:= .type "list",data:= .seq #[] n}):
  Inv (dz X s H scope C (fC own fv) fp) [] (dY own fv σ) (upd H D (.lst [])) {s with heap:=h1,toks:=t1}:=by
 have hn:=I.NO.fresh hD;obtain⟨n,hd⟩:=hd;have hCD:=OV Xf;have Vs:∀x c,(rO X scope C).lookup x=lD c->C<c\/(X.env.cells.lookup x=lD c/\c<s.heap.objs.size):=fun x c e=>by
  rcases mP _ _ _ x c e with⟨z,_⟩|z
  ·exact .inl z
  ·exact .inr (o6 I z)
 refine⟨yc I Qc V5 VM hC hf Wm,rfl,I.bare,Un.laid hk hD hn,⟨m,SS,fun i x v e1 e2 e3=> ?_⟩,fun x c e=> ?_,?_,fun x c e=> ?_,fun p hp=>absurd (show p∈([]:List (Lp×Obj)) from hp) (by simp),?_,?_⟩
 ·
  have YJ:(own++fv.map (·.1))[i]? =lD x:=e1;have Wf:(own.map (fun _=>(Ld:Option V))++fv.map fun p=>(σ[p.2]?).join)[i]? =lD (lD v):=e2;have hi:own.length<=i:=by
   by_cases hi:i<own.length
   ·rw[LK (by simpa using hi),Ls] at Wf
    cases q:own[i]? with
    |none=>rw[q] at Wf;cases Wf
    |some _=>rw[q] at Wf;cases Wf
   ·omega
  rw[LX hi,Ls] at YJ;rw[LX (by simpa using hi),Ls,Lh] at Wf;cases q:fv[i - own.length]? with
  |none=>rw[q] at YJ;cases YJ
  |some p=>
   rw[q] at YJ Wf;have ex:=LZ YJ;subst ex;have ev:(σ[p.2]?).join=lD v:=LZ Wf;obtain⟨g1,g2,g3⟩:=Yi.mem p (LH q);have Z8:σ[p.2]? =lD (lD v):=by
    cases z:σ[p.2]? with
    |none=>rw[z] at ev;cases ev
    |some y=>rw[z] at ev;exact congrArg lD ev
   obtain⟨m0,_,hl⟩:=I.loc;obtain⟨u,r,l⟩:=hl p.2 p.1 v g1 Z8 (.inr g3);refine⟨u,r,?_⟩;have l2:∃c,X.env.cells.lookup p.1=lD c/\s.heap.IsCell c (lD u):=by
    rcases l with⟨k,_⟩|⟨_,c,e,z⟩
    ·have k':X.env.scope.names.lookup p.1=lD .local:=k
     rcases g3 with z|z
     ·rw[z] at k';cases k'
     ·rw[z] at k';cases k'
    ·exact⟨c,e,z⟩
   obtain⟨c,e,o,ho,hdc⟩:=l2;refine .inr ⟨?_,c,?_,o,hk c o ho,hdc⟩
   ·exact g7 g2
   ·show(rO X scope C).lookup p.1=lD c;unfold rO;rw[CB _ _ _ _ fun z=>by cases vo V5 g2 z];exact uh (Nn g2) e
 ·rcases Vs x c e with z|⟨z,_⟩
  ·exact Xh x c e z
  ·obtain⟨v,o,ho,hdc⟩:=I.cell x c z;exact⟨v,o,hk c o ho,hdc⟩
 ·show upd H D (.lst []) C=Ld;rw[az hCD];exact I.NO.fresh hC
 ·show upd H D (.lst []) c=Ld
  rcases Vs x c e with z|⟨z1,z2⟩
  ·rw[az (OV (OX Xf z))];exact I.NO.fresh (LF hC (MU z))
  ·rw[az (Ml (LQ z2 hD))];exact I.Qs x c z1
 ·exact I.NO.laid hk hD ⟨by show 0<=LL;exact Mr _,[],n,.nil,hd⟩
 ·show(own.map (fun _=>(Ld:Option V))++fv.map fun p=>(σ[p.2]?).join).length=(own++fv.map (·.1)).length;simp
end
def Ey (X:Cx) (ifs:List Mv) (t:TT):Prop:=
 ∀(pins:List (Lp×Obj)) (s:Lm) (σ:St) (H:Hp) (Q:Bool->Hp->Prop),Inv X pins σ H s->t σ H Q->
  wpAny (model X.prog X.w) X.A (forIn ifs Lk fun c r=>if r=Lk then do let ok<-isTrue c X.env (eval c X.env);pure (ForInStep.yield ok) else pure (ForInStep.yield r)) (TP X pins σ Q) X.xe s
def tw:TT:=fun _ H Q=>Q Lk H
theorem fG:Ey X [] tw:=fun _ _ _ H _ I h=>wpAny_tests_nil ⟨H,I,h⟩
theorem BC (h:PT X c tc):Ey X [c] tc:=fun pins s σ H Q I hw=>wpAny_tests_one (h pins s σ H Q I hw)
def tj (J:It) (D:Lp) (σc:St) (g:TG) (tc:TT) (te:TE) (H1:Hp) (Fin:Hp->Prop):Prop:=
 ∃W:Nat->Nat->St->Hp->Prop,(∃m,W 0 m σc (upd H1 D (.lst [])))/\∀i m σ H,W i m σ H->
  (J.stop i H/\Fin H)\/(J.go i H/\∃N:St->Hp->Prop,(∀σ' H',N σ' H'->∃m',m'<m/\W (i+1) m' σ' H')/\
   ∀x H',J.Xp i H x H'->g x σ H' fun σ2 H2=>tc σ2 H2 fun b H3=>if b=Lk then te σ2 H3 fun y H4=>∃ys,H4 D=lD (.lst ys)/\ys.length<LL/\N σ2 (upd H4 D (.lst (ys++[y]))) else N σ2 H3)
section
variable {prog:LR} {w:Mg} {A:L0} {s:Lm}
theorem yA {elt tg iter:Mv} {ifs:List Mv} {scope:Pk} {pos:Pos} {it acc:Lf} {env:Env} {R:Ws->Lm->Prop} {XE:Lf->Lm->Prop} (hX:∀x s1,XE x s1->notedBy (model prog w) A env (fun e s2=>R (.error e) s2) x s1) (I:Nat->Lm->Prop)
  (turn:∀n s,I n s->wpAny (model prog w) A (pyNext it) (fun r s1=>match r with
   |none=>R (.ok .next) s1
   |some v=>wpAny (model prog w) A (letOwnedTupleGo tg it v) (fun _ s2=>wpAny (model prog w) A (assign tg env v) (fun _ s3=>
     wpAny (model prog w) A (forIn ifs Lk fun c r=>if r=Lk then do let ok<-isTrue c env (eval c env);pure (ForInStep.yield ok) else pure (ForInStep.yield r)) (fun ok s4=>
      if ok=Lk then wpAny (model prog w) A (eval elt env) (fun x s5=>
       wpAny (model prog w) A (call (.builtin "list.append") [acc,x]) (fun _ s6=>∃m,m<n/\I m s6) (fun _ _=>False) s5) XE s4
      else∃m,m<n/\I m s4) (fun _ _=>False) s3) (fun _ _=>False) s2) (fun _ _=>False) s1) (fun _ _=>False) s)
  (n:Nat) (h:I n s):codeAny (model prog w) A (.compLoop (.ListComp elt [⟨tg,iter,ifs,0⟩] scope pos) 0 it acc env) R s:=by
 refine codeAny_loop rfl I (fun n s hI=> ?_) n h;show wpAny _ A (Sem.onRaise (compTurn (.ListComp elt [⟨tg,iter,ifs,0⟩] scope pos) 0 it acc env) (fun x=>do noteFrame x env;theTreesLotGoes x)) _ _ s;refine wpAny_noted ?_;rw[compTurn_list]
 have no:∀{α:Type} {t:Sem α} {Q Q':α->Lm->Prop} {E:Lf->Lm->Prop} {s:Lm},wpAny (model prog w) A t Q (fun _ _=>False) s->(∀a s',Q a s'->Q' a s')->wpAny (model prog w) A t Q' E s:=
  fun h1 h2=>wpAny_mono h1 h2 fun _ _ z=>False.elim z
 refine Bn (wpAny_standAt (Bn (no (turn n s hI) fun r s1 h1=> ?_)));cases r with
 |none=>exact Li h1
 |some v=>
  refine Bn (no h1 fun _ s2 h2=>Bn (no h2 fun _ s3 h3=>Bn (no h3 fun ok s4 h4=> ?_)));cases ok with
  |false=>exact Li ⟨rfl,h4⟩
  |true=>exact Bn (Bn (wpAny_mono h4 (fun x s5 h5=>Bn (no h5 fun _ s6 h6=>Li (Li ⟨rfl,h6⟩))) hX))
end
section
variable {X:Cx} {pins:List (Lp×Obj)} {σ:St} {H:Hp} {s:Lm}
theorem qN
  (h:Q (newEnv scope s.heap.objs.size globals (NA (s.heap.objs.size+1) scope.names closure) qual Ld .none (lD env) builtinsNs) {s with heap:=pushCells (s.heap.push {cls:= .type "dict",data:= .dict #[]}) scope.names}):
  wpAny M A (newFunctionEnv scope globals closure [] qual Ld .none (lD env)) Q E s:=by
 simp only[newFunctionEnv,Option.isSome_some,if_true];refine Bn (wpAny_alloc ?_);refine Bn (wpAny_layCells _ (fun name kind cells=>by cases hkc:kind==Md.cell<;>simp[hkc]) _ _ _ _ ?_);rw[show({s with heap:=s.heap.push {cls:= .type "dict",data:= .dict #[]}}:Lm).heap.objs.size=s.heap.objs.size+1 from Heap.size_push ..];rw[V8];exact Bn (Li (Li h))
theorem uC {elt tg iter:Mv} {ifs:List Mv} {scope:Pk} {pos:Pos} {own:List Str} {fv:List (Str×Nat)} {g:TG} {tc:TT} {te:TE} {E:Lf->Lm->Prop} {it:Lp} {fp:List Lp} {tn:Nat->Heap->Prop} {J:It} {Fin:Lp->Hp->Prop}
  {RR:Lf->Lp->Ws->Lm->Prop} (I:Inv X pins σ H s) (hc:X.calm=Lk) (Qc:scope.kind= .function) (V5:(scope.names.map (·.1)).Nodup) (VM:∀y∈scope.names,y.2= .free->∃c,X.env.cells.lookup y.1=lD c) (Yi:Ua X scope fv)
  (T:Turn X.prog X.w X.K tg J fp it tn) (st:tn 0 s.heap) (hf:∀b∈fp,n9 X pins H b)
  (hg:∀C,PG (dz X s H scope C (fC own fv) fp) tg g) (ht:∀C,Ey (dz X s H scope C (fC own fv) fp) ifs tc) {W:Lp->Lf->Lm->Prop} (he:∀C,PE ((dz X s H scope C (fC own fv) fp).Q4 (W C)) elt te) (hEE:∀D C x s1,s.heap.objs.size<=C->W C x s1->notedBy (model X.prog X.w) X.A (compEnvC scope (rO X scope C) C X.env) (fun e s2=>RR (.ref D) C (.error e) s2) x s1)
  (hR:∀D,H D=Ld->tj J D (dY own fv σ) g tc te H (Fin D))
  (hRR:∀D C H' s',Inv X pins σ H' s'->Fin D H'->(∃m,s'.heap.Ns C m)->s.heap.objs.size<=C->H' C=Ld->RR (.ref D) C (.ok .next) s'):
  wpAny (model X.prog X.w) X.A (newList []) (fun acc s3=>wpAny (model X.prog X.w) X.A (newFunctionEnv scope X.env.globals (fO X.env scope.names []) [] X.env.qual Ld .none (lD X.env)) (fun YB s4=>
   codeAny (model X.prog X.w) X.A (.compStart (.ListComp elt [⟨tg,iter,ifs,0⟩] scope pos) 0 (.ref it) acc {YB with scope:=relabel scope X.env}) (RR acc YB.locals) s4) E s3) E s:=by
 refine Mb ?_;generalize Z7:s.heap.push {cls:= .type "list",dict:=Ld,data:= .seq ([]:List Lf).toArray}=h2;have hz:h2.objs.size=s.heap.objs.size+1:=by rw[<-Z7,Heap.size_push]
 refine qN (s:={s with heap:=h2}) ?_;have Xf:s.heap.objs.size<h2.objs.size:=by rw[hz];exact Ni _
 have hC:s.heap.objs.size<=h2.objs.size:=MU Xf;generalize hH1:pushCells (h2.push {cls:= .type "dict",data:= .dict #[]}) scope.names=h1;have kp2:∀b o,h2.get? b=lD o->h1.get? b=lD o:=fun b o e=>by rw[<-hH1];exact Sq _ _ b o (Heap.get?_push_of_some _ e)
 have kp:∀b o,s.heap.get? b=lD o->h1.get? b=lD o:=fun b o e=>kp2 b o (by rw[<-Z7];exact Heap.get?_push_of_some _ e);have SS:h1.Ns h2.objs.size (fun _=>Ld):=by rw[<-hH1];exact(Heap.Ns.new h2 (.type "dict")).keeps (Sq _ _)
 have Xh:∀x c,(rO X scope h2.objs.size).lookup x=lD c->h2.objs.size<c->∃v,h1.IsCell c v:=fun x c e Pm=>by
  have e':(NA (h2.push {cls:= .type "dict",data:= .dict #[]}).objs.size scope.names (fO X.env scope.names [])).lookup x=lD c:=by rw[Heap.size_push];exact e
  rcases mQ _ _ _ x c e' with⟨_,z⟩|z
  ·exact⟨Ld,by rw[<-hH1];exact z⟩
  ·exact absurd (OX (o6 I z).2 (OX Xf Pm)) (MC _)
 have hd:∃n,h1.get? s.heap.objs.size=lD {cls:= .type "list",data:= .seq #[] n}:=⟨0,kp2 _ _ (by rw[<-Z7];exact Heap.get?_push_size _ rfl)⟩;have Wm:∀b∈fp,b<s.heap.objs.size:=fun b hb=>by obtain⟨o,e,_⟩:=T.obj 0 _ st b hb;exact Heap.lt_size e
 have hn:H s.heap.objs.size=Ld:=I.NO.fresh (Ll _);obtain⟨W,⟨m0,w0⟩,turn⟩:=hR s.heap.objs.size hn;have fpX:∀{pl:List (Lp×Obj)} {H':Hp},(∀b∈fp,H' b=Ld)->(∀p∈pl,p.1∉fp)->∀b∈fp,n9 (dz X s H scope h2.objs.size (fC own fv) fp) pl H' b:=fun{pl H'} YG Vu b hb=>by have ok:=yc (C:=h2.objs.size) (N:=fC own fv) I Qc V5 VM hC hf Wm;exact⟨YG b hb,(ok.Yg b hb).1,ok.TY b hb,.inl hb,(ok.Yg b hb).2,fun p hp=>by have hp':p∈([]:List (Lp×Obj))++pl:=hp;intro z;exact Vu p (by simpa using hp') (by rw[z];exact hb)⟩
 have loop:∀s4:Lm,s4={s with heap:=h1}->
   codeAny (model X.prog X.w) X.A (.compLoop (.ListComp elt [⟨tg,iter,ifs,0⟩] scope pos) 0 (.ref it) (.ref s.heap.objs.size) (compEnvC scope (rO X scope h2.objs.size) h2.objs.size X.env)) (RR (.ref s.heap.objs.size) h2.objs.size) s4:=by
  rintro s4 rfl
  have I0:Inv (dz X s H scope h2.objs.size (fC own fv) fp) [] (dY own fv σ) (upd H s.heap.objs.size (.lst [])) {s with heap:=h1}:=
   z8 I Qc V5 VM Yi (Ll _) Xf hC hf Wm SS Xh kp hd
  have st0:tn 0 h1:=T.keep 0 _ _ st fun b _ o e=>kp b o e;have fr0:∀b∈fp,(upd H s.heap.objs.size (.lst [])) b=Ld:=fun b hb=>by rw[az (Ml (Wm b hb))];exact(hf b hb).1
  refine yA (fun x s1 z=>hEE _ _ x s1 hC z) (fun n s'=>∃i σ' H',Inv (dz X s H scope h2.objs.size (fC own fv) fp) [] σ' H' s'/\tn i s'.heap/\(∀b∈fp,H' b=Ld)/\W i n σ' H') ?_ m0 ⟨0,_,_,I0,st0,fr0,w0⟩;rintro n s5 ⟨i,σ5,H5,I5,Xk,YW,w5⟩;rcases turn i n σ5 H5 w5 with⟨stop,fin⟩|⟨go,N,hN,step⟩
  ·refine ce (T.done (dz X s H scope h2.objs.size (fC own fv) fp) rfl rfl rfl hc i [] s5 σ5 H5 (fun _ _=>False) I5 (fpX YW (by simp)) Xk stop) fun r s6 ⟨hr,I6⟩=> ?_;subst hr;obtain⟨mm,hm,_⟩:=I6.loc;refine hRR _ _ H5 s6 ?_ fin ⟨mm,hm⟩ hC I6.free;exact I.X6 (ch:=fp) I6.os I6.base I6.NO I6.bare fun b hb=>⟨(hf b hb).2.2.2.1,(hf b hb).2.1,(hf b hb).2.2.2.2.1,(hf b hb).2.2.2.2.2⟩
  ·refine ce (T.item (dz X s H scope h2.objs.size (fC own fv) fp) rfl rfl rfl hc i [] s5 σ5 H5 (fun _ _=>False) I5 (fpX YW (by simp)) Xk go) fun r s6 ⟨u,hr,h6⟩=> ?_
   subst hr;refine ce h6 fun _ s7 ⟨x,H7,I7,r7,y7,Z0,fr7⟩=> ?_;have I7':=I7.pinned (fp:=fp) (fpX fr7 (by simp)) (T.obj _ _ Z0);have back:∀{σ8:St} {H8:Hp} {s8:Lm},Inv (dz X s H scope h2.objs.size (fC own fv) fp) ([]++md fp s7.heap) σ8 H8 s8->N σ8 H8->∃m,m<n/\∃i σ' H',Inv (dz X s H scope h2.objs.size (fC own fv) fp) [] σ' H' s8/\tn i s8.heap/\(∀b∈fp,H' b=Ld)/\W i m σ' H':=fun{σ8 H8 s8} I8 n8=>by obtain⟨m',hm,w8⟩:=hN σ8 H8 n8;refine⟨m',hm,i+1,σ8,H8,I8.QD,T.keep _ _ _ Z0 fun b hb o e=>(I8.pin (b,o) (LO _ (LO _ (gZ hb e)))).1,fun b hb=> ?_,w8⟩;obtain⟨o,e,d⟩:=T.obj _ _ Z0 b hb;exact(I8.pin (b,o) (LO _ (LO _ (gZ hb e)))).2.1
   refine ce (hg _ _ s7 σ5 H7 x u _ I7' r7 (step x H7 y7)) fun _ s8 ⟨σ8,H8,I8,q8⟩=> ?_;refine ce (ht _ _ s8 σ8 H8 _ I8 q8) fun ok s9 ⟨H9,I9,q9⟩=> ?_;cases ok with
   |false=>rw[if_neg LA] at q9⊢;exact back I9 q9
   |true=>rw[if_pos rfl] at q9⊢;refine ce (he _ _ s9 σ8 H9 _ (I9.Q4 _) q9) fun y s10 ⟨v10,H10,ZN,r10,ys,hy,hl,q10⟩=> ?_;have I10:=ZN.PJ;refine ce (jc _ s10 σ8 H10 (.ref s.heap.objs.size) [v10] (.ref s.heap.objs.size) [y] (fun _ H11=>N σ8 H11) I10 rfl (.cons r10 .nil) ⟨_,ys,v10,rfl,rfl,hy,hl,q10⟩) fun _ s11 ⟨v11,H11,I11,_,q11⟩=> ?_;exact back I11 q11
 exact codeAny_compStart_list (loop _ rfl) (T.self _ 0 _ _ _ (T.keep 0 _ _ st fun b _ o e=>kp b o e) (loop _ rfl))
def oG (own:List Str) (fv:List (Str×Nat)) (wi:TI) (g:TG) (tc:TT) (te:TE):TE:=fun σ H Q=>wi σ H fun J H1=>∀D,H1 D=Ld->tj J D (dY own fv σ) g tc te H1 fun H'=>Q (.ref D) H'
theorem wQ {scope:Pk} (ok:X.Ok) (h:∀y∈scope.names,y.2= .free->(X.env.scope.names.lookup y.1=lD .cell\/X.env.scope.names.lookup y.1=lD .free)):∀y∈scope.names,y.2= .free->∃c,X.env.cells.lookup y.1=lD c:=
 fun y hy e=>ok.has y.1 (h y hy e)
theorem Jd {scope sc:Pk} (h:(scope.names.all fun y=> !(y.2==Md.free)||(sc.names.lookup y.1==lD Md.cell)||(sc.names.lookup y.1==lD Md.free))=Lk):
  ∀y∈scope.names,y.2= .free->(sc.names.lookup y.1=lD .cell\/sc.names.lookup y.1=lD .free):=fun y hy e=>by
 have q:=Mu.mp h y hy;rw[e] at q
 simpa using q
theorem fQ {elt tg iter:Mv} {ifs:List Mv} {scope:Pk} {pos:Pos} (own:List Str) (fv:List (Str×Nat)) {wi:TI} {g:TG} {tc:TT} {te:TE} (hc:X.calm=Lk) (hi:PI X tg iter wi)
  (hg:∀s H C fp,PG (dz X s H scope C (fC own fv) fp) tg g) (ht:∀s H C fp,Ey (dz X s H scope C (fC own fv) fp) ifs tc) (he:∀s H C fp,PE (dz X s H scope C (fC own fv) fp) elt te) (Yi:Ua X scope fv)
  (Z4:(scope.names.all fun y=> !(y.2==Md.free)||(X.env.scope.names.lookup y.1==lD Md.cell)||(X.env.scope.names.lookup y.1==lD Md.free))=Lk)
  (Qc:scope.kind= .function:=by rfl) (V5:(scope.names.map (·.1)).Nodup:=by decide+kernel)
  (WL:∀y∈scope.names,y.2= .local->scope.names.lookup y.1=lD .local:=by decide+kernel) (hs:∀x,foldedSetIterable iter X.env x=pure x:=by intro _;rfl):
  PE X (.ListComp elt [⟨tg,iter,ifs,0⟩] scope pos) (oG own fv wi g tc te):=by
 intro pins s σ H Q I h;have VM:=Jd Z4;rw[eval_ListComp];refine wpAny_comprehension_free (use:=Ld) rfl hs (u9 (wQ I.ok VM)) Qc WL (ce (hi pins s σ H _ I h) fun xv s1 h1=>ce h1 fun itv s2 h2=> ?_);obtain⟨it,fp,tn,J,H2,e,I2,T,st2,f2,R⟩:=h2;subst e;refine uC I2 hc Qc V5 (wQ I.ok VM) Yi T st2 f2 (fun C=>hg _ _ C _) (fun C=>ht _ _ C _) (W:=fun _ _ _=>False) (fun C=>he _ _ C _) (fun _ _ _ _ _ z=>z.elim) (Fin:=fun D H'=>Q (.ref D) H') R ?_;intro D C H' s' I' fin hm hC hn;obtain⟨m,hm⟩:=hm;refine⟨m,hm,fun h' Xj=>⟨.ref D,H',?_,rfl,fin⟩⟩;obtain⟨f0,f1,_,f3,f4,f5⟩:=I2.TQ hC hn;exact I'.turned (t':=s'.toks) (fun b o hb q=>(Xj.2 b hb).trans q) f0 f1 f3 f4 f5
end
theorem EF {J:It} {D:Lp} {σc:St} {g:TG} {tc:TT} {te:TE} {H1:Hp} {Fin:Hp->Prop} (n:Nat) (Pv:Nat->St->Hp->Prop) (h0:Pv 0 σc (upd H1 D (.lst []))) (hgo:∀i σ H,i<n->Pv i σ H->J.go i H) (Yv:∀σ H,Pv n σ H->J.stop n H)
  (hs:∀i σ H x H',i<n->Pv i σ H->J.Xp i H x H'->g x σ H' fun σ2 H2=>tc σ2 H2 fun b H3=>if b=Lk then te σ2 H3 fun y H4=>∃ys,H4 D=lD (.lst ys)/\ys.length<LL/\Pv (i+1) σ2 (upd H4 D (.lst (ys++[y]))) else Pv (i+1) σ2 H3)
  (hd:∀σ H,Pv n σ H->Fin H):tj J D σc g tc te H1 Fin:=by
 refine⟨fun i m σ H=>m=n - i/\i<=n/\Pv i σ H,⟨n,by simp,Mr _,h0⟩,?_⟩;rintro i m σ H ⟨rfl,hi,p⟩;by_cases Pm:i<n
 ·exact .inr ⟨hgo i σ H Pm p,Pv (i+1),fun σ' H' p'=>⟨n - (i+1),by omega,rfl,Pm,p'⟩,fun x H' y=>hs i σ H x H' Pm p y⟩
 ·have e:i=n:=by omega
  subst e;exact .inl ⟨Yv σ H p,hd σ H p⟩
def wW (P:LR) (w:Mg) (K:Lc) (mg:Str->Option Lf) (base:Heap) (k:Nat) (x:Str) (ps:List Str) (sp:Sp):Prop:=
 ∃(f:Lp) (fd:M8),FnOk P w K mg base fT k f fd ps sp/\Binds K fd ps []/\NF K (.ref f)=Lk/\mg x=lD (.ref f)
theorem fK (C:wW X.prog X.w X.K X.mg X.base k x ps sp) (hr:OG j X.A) (ha:PA X (e::es) t) (hjk:k<=j:=by decide) (hg:Gl X x:=by rfl)
  (W3:(x==("__debug__":Str))=Lw:=by decide) (he:MM (e::es) X.env=(Lw,eval e X.env)::MM es X.env:=by rfl) (Vu:(backTo pos (MM es X.env)).any (·.1)=Lw:=by rfl):
  PE X (.Call (.Name x p) (e::es) [] pos) (oW sp [] E0 t):=by
 obtain⟨f,fd,F,b,kp,m⟩:=C;exact Dq F (hr.mono hjk) hg m kp b .nil Ft ha W3 he Vu
theorem A2 {α:Type} {xs:List α} {i:Int} {v:α} (h0:0<=i) (h:xs[i.toNat]? =lD v):oE xs i=lD v:=by have q:=wg h;rwa [Int.toNat_of_nonneg h0] at q
theorem Nk.tup {K:Lc} (e:Nk H H') (h:P9 K H a xs):P9 K H' a xs:=by
 rcases h with(h|⟨o,h⟩)|h
 ·exact .inl (.inl (e _ _ h))
 ·exact .inl (.inr ⟨o,e _ _ h⟩)
 ·exact .inr h
theorem cc (h:H p=Ld) (o:HO):Nk H (upd H p o):=fun b u q=>by rw[az (bX q h)];exact q
theorem Ji:ML "max"=lD (.builtin "max"):=by decide+kernel
theorem zL:ML "min"=lD (.builtin "min"):=by decide+kernel
theorem fu:ML "isinstance"=lD (.builtin "isinstance"):=by decide+kernel
theorem CO:ML "len"=lD (.builtin "len"):=by decide+kernel
theorem sR:ML "sorted"=lD (.builtin "sorted"):=by decide+kernel
theorem Bp:ML "all"=lD (.builtin "all"):=by decide+kernel
theorem EJ:ML "int"=lD (.type "int"):=by decide+kernel
theorem GK:ML "bool"=lD (.type "bool"):=by decide+kernel
theorem CD:ML "list"=lD (.type "list"):=by decide+kernel
theorem l7:ML "tuple"=lD (.type "tuple"):=by decide+kernel
end L2
namespace L3
open PySem L2
abbrev D:=Lg
inductive PV where
 |fz (d:D)
 |ow (ds:List D)
 |pl (i:Nat)
abbrev aI:=List (Option PV)
structure Xc where
 cls:Str
 fs:List (Str×D)
inductive Res (α:Type) where
 |ok (a:α)
 |er (x:Xc)
 |bad
namespace Res
noncomputable def bind (r:Res α) (f:α->Res β):Res β:=match r with
 | .ok a=>f a
 | .er x=> .er x
 | .bad=> .bad
noncomputable def ME:Option α->Res α
 |some a=> .ok a
 |none=> .bad
theorem bind_ok (a:α) (f:α->Res β):(Res.ok a).bind f=f a:=rfl
end Res
abbrev bu:=Lp->Prop
noncomputable def bC (O:bu) (p:Lp):bu:=fun b=>O b\/b=p
noncomputable def Ab (O:bu) (p:Lp):bu:=fun b=>O b/\b≠p
noncomputable def SQ:bu:=fun _=>False
def Ev (O:bu) (H:Hp) (O':bu) (H':Hp):Prop:=∀b o,H b=lD o->¬O b->H' b=lD o/\¬O' b
theorem Ev.refl:Ev O H O H:=fun _ _ h n=>⟨h,n⟩
theorem Ev.trans (a:Ev O H O1 H1) (b:Ev O1 H1 O2 H2):Ev O H O2 H2:=fun p o h n=>let⟨h1,n1⟩:=a p o h n;b p o h1 n1
theorem Ev.grow (s:Nk H H'):Ev O H O H':=fun b o h n=>⟨s b o h,n⟩
theorem Ev.add (s:Nk H H') (hp:H p=Ld):Ev O H (bC O p) H':=fun b o h n=>⟨s b o h,fun z=>z.elim n fun e=>by subst e;rw[h] at hp;cases hp⟩
theorem Ev.sub (h:∀b,O' b->O b):Ev O H O' H:=fun b o e n=>⟨e,fun z=>n (h b z)⟩
theorem Ev.mut (hp:O p) (u:HO):Ev O H O (upd H p u):=fun b o h n=>⟨by rw[az (fun e=>n (by rw[e];exact hp))];exact h,n⟩
def O0 (K:Lc) (H:Hp) (a:Lp) (xs:List V):Prop:=Rd H a (.lst xs)\/∃(MD:List Lf) (n:Nat),K.lookup a=lD {cls:= .type "list",data:= .seq MD.toArray n}/\xs.length<=LL/\Vals xs MD
theorem O0.sq (h:O0 K H a xs):Ql K H a xs:=by
 rcases h with h|⟨MD,n,h1,h2,h3⟩
 ·exact .inl h
 ·exact .inr ⟨_,MD.toArray,n,h1,rfl,rfl,rfl,by rw[LC,<-h3.length];exact h2,by simpa using h3⟩
theorem O0.of (h:H a=lD (.lst xs)):O0 K H a xs:= .inl (.inl h)
theorem O0.same (e:Nk H H') (h:O0 K H a xs):O0 K H' a xs:=by
 rcases h with(h|⟨o,h⟩)|h
 ·exact .inl (.inl (e _ _ h))
 ·exact .inl (.inr ⟨o,e _ _ h⟩)
 ·exact .inr h
theorem jf (H:Hp):Nk (fun _=>Ld) H:=fun _ _ h=>by cases h
def R8 (O:bu) (K:Lc) (H:Hp) (a:Lp) (xs:List V):Prop:=O0 K H a xs/\(O a->O0 K (fun _=>Ld) a xs)
def QG (O:bu) (K:Lc) (H:Hp) (a:Lp) (xs:List V):Prop:=P9 K H a xs/\(O a->P9 K (fun _=>Ld) a xs)
section
variable {O O':bu} {K:Lc} {H H':Hp} {a:Lp} {xs:List V}
theorem R8.ev (h:R8 O K H a xs) (e:Ev O H O' H'):R8 O' K H' a xs:=by
 obtain⟨h,k⟩:=h;by_cases z:O a
 ·exact⟨O0.same (jf H') (k z),fun _=>k z⟩
 ·rcases h with(h|⟨o,h⟩)|h
  ·obtain⟨h1,h2⟩:=e a _ h z;exact⟨.inl (.inl h1),fun y=>absurd y h2⟩
  ·obtain⟨h1,h2⟩:=e a _ h z;exact⟨.inl (.inr ⟨o,h1⟩),fun y=>absurd y h2⟩
  ·exact⟨.inr h,fun _=> .inr h⟩
theorem QG.ev (h:QG O K H a xs) (e:Ev O H O' H'):QG O' K H' a xs:=by
 obtain⟨h,k⟩:=h;by_cases z:O a
 ·exact⟨(jf H').tup (k z),fun _=>k z⟩
 ·rcases h with(h|⟨o,h⟩)|h
  ·obtain⟨h1,h2⟩:=e a _ h z;exact⟨.inl (.inl h1),fun y=>absurd y h2⟩
  ·obtain⟨h1,h2⟩:=e a _ h z;exact⟨.inl (.inr ⟨o,h1⟩),fun y=>absurd y h2⟩
  ·exact⟨.inr h,fun _=> .inr h⟩
end
mutual
inductive DV (O:bu) (K:Lc) (H:Hp):V->D->Prop
 |ON:DV O K H .ON .none
 |bl (b:Bool):DV O K H (.bl b) (.bool b)
 |int (i:Int):DV O K H (.int i) (.int i)
 |str (x:Str):DV O K H (.str x) (.str x)
 |tup {a:Lp} {xs:List V} {ds:List D}:QG O K H a xs->Nc O K H xs ds->DV O K H (.ref a) (.tuple ds)
 |lst {a:Lp} {xs:List V} {ds:List D}:R8 O K H a xs->Nc O K H xs ds->DV O K H (.ref a) (.list ds)
inductive Nc (O:bu) (K:Lc) (H:Hp):List V->List D->Prop
 |nil:Nc O K H [] []
 |cons {v:V} {vs:List V} {d:D} {ds:List D}:DV O K H v d->Nc O K H vs ds->Nc O K H (v::vs) (d::ds)
end
section
variable {O O':bu} {K:Lc} {H H':Hp}
mutual
theorem DV.ev (e:Ev O H O' H'):∀{v:V} {d:D},DV O K H v d->DV O' K H' v d
 |_,_,.ON=> .ON
 |_,_,.bl b=> .bl b
 |_,_,.int i=> .int i
 |_,_,.str x=> .str x
 |_,_,.tup h hs=> .tup (h.ev e) (Nc.ev e hs)
 |_,_,.lst h hs=> .lst (h.ev e) (Nc.ev e hs)
theorem Nc.ev (e:Ev O H O' H'):∀{vs:List V} {ds:List D},Nc O K H vs ds->Nc O' K H' vs ds
 |_,_,.nil=> .nil
 |_,_,.cons h hs=> .cons (DV.ev e h) (Nc.ev e hs)
end
theorem Nc.length:∀{vs:List V} {ds:List D},Nc O K H vs ds->vs.length=ds.length
 |_,_,.nil=>rfl
 |_,_,.cons _ t=>by rw[Lu,Lu,t.length]
theorem Nc.get:∀{vs:List V} {ds:List D} {i:Nat} {d:D},Nc O K H vs ds->ds[i]? =lD d->∃v,vs[i]? =lD v/\DV O K H v d
 |_,_,_,_,.nil,e=>by simp at e
 |_,_,0,_,.cons h _,e=>by simp at e;subst e;exact⟨_,rfl,h⟩
 |_,_,i+1,d,.cons _ t,e=>by obtain⟨v,h1,h2⟩:=Nc.get t (by simpa using e);exact⟨v,by simpa using h1,h2⟩
theorem Nc.UD:∀{vs:List V} {ds:List D} {i:Nat} {v:V},Nc O K H vs ds->vs[i]? =lD v->∃d,ds[i]? =lD d/\DV O K H v d
 |_,_,_,_,.nil,e=>by simp at e
 |_,_,0,_,.cons h _,e=>by simp at e;subst e;exact⟨_,rfl,h⟩
 |_,_,i+1,v,.cons _ t,e=>by obtain⟨d,h1,h2⟩:=Nc.UD t (by simpa using e);exact⟨d,by simpa using h1,h2⟩
theorem Nc.append:∀{vs ws:List V} {ds es:List D},Nc O K H vs ds->Nc O K H ws es->Nc O K H (vs++ws) (ds++es)
 |_,_,_,_,.nil,h=>h
 |_,_,_,_,.cons h t,g=> .cons h (Nc.append t g)
theorem Nc.take:∀{vs:List V} {ds:List D} (n:Nat),Nc O K H vs ds->Nc O K H (vs.take n) (ds.take n)
 |_,_,0,_=> .nil
 |_,_,_+1,.nil=> .nil
 |_,_,n+1,.cons h t=> .cons h (Nc.take n t)
theorem Nc.drop:∀{vs:List V} {ds:List D} (n:Nat),Nc O K H vs ds->Nc O K H (vs.drop n) (ds.drop n)
 |_,_,0,h=>h
 |_,_,_+1,.nil=> .nil
 |_,_,n+1,.cons _ t=>Nc.drop n t
theorem Nc.flat (h:Nc O K H vs ds):∀n:Nat,Nc O K H (Lq n vs).flatten (Lq n ds).flatten
 |0=> .nil
 |n+1=>by rw[Mz,Mz,NX,NX];exact h.append (Nc.flat h n)
mutual
theorem DV.plain:∀{v:V} {d:D},DV O K H v d->L2.DV K H v d
 |_,_,.ON=> .ON
 |_,_,.bl b=> .bl b
 |_,_,.int i=> .int i
 |_,_,.str x=> .str x
 |_,_,.tup h hs=> .tup h.1 (Nc.plain hs)
 |_,_,.lst h hs=> .lst h.1.sq (Nc.plain hs)
theorem Nc.plain:∀{vs:List V} {ds:List D},Nc O K H vs ds->L2.Nc K H vs ds
 |_,_,.nil=> .nil
 |_,_,.cons h hs=> .cons (DV.plain h) (Nc.plain hs)
end
end
def DX (O:bu) (K:Lc) (H:Hp) (v:V):D->Prop
 | .list ds=>∃a xs,v= .ref a/\O0 K H a xs/\Nc O K H xs ds
 |d=>DV O K H v d
theorem DV.x (h:DV O K H v d):DX O K H v d:=by
 cases h with
 |lst h hs=>exact⟨_,_,rfl,h.1,hs⟩
 |ON=>exact .ON
 |bl b=>exact .bl b
 |int i=>exact .int i
 |str x=>exact .str x
 |tup h hs=>exact .tup h hs
theorem DX.plain (h:DX O K H v d):L2.DV K H v d:=by
 cases d with
 |list ds=>obtain⟨a,xs,rfl,h1,h2⟩:=h;exact .lst h1.sq h2.plain
 |none=>exact DV.plain h
 |bool b=>exact DV.plain h
 |int i=>exact DV.plain h
 |str x=>exact DV.plain h
 |tuple ds=>exact DV.plain h
 |dict Mj=>exact DV.plain h
def RU (K:Lc) (H0:Hp) (O:bu) (H:Hp) (v:V):PV->Prop
 | .fz d=>DV O K H v d
 | .ow ds=>∃a vs,v= .ref a/\O a/\H0 a=Ld/\H a=lD (.lst vs)/\Nc O K H vs ds
 | .pl _=>False
structure Rl (K:Lc) (B:bu) (H0:Hp) (O:bu) (σ:St) (H:Hp) (ρ:aI):Prop where
 same:Nk H0 H
 bo:∀a,B a->O a
 bd:∀a,B a->H0 a≠Ld
 od:∀a,H a=Ld->¬O a
 len:σ.length=ρ.length
 slot:∀(i:Nat) (x:PV),ρ[i]? =lD (lD x)->∃v,σ[i]? =lD (lD v)/\RU K H0 O H v x
 one:∀(i j:Nat) (ds es:List D) (v:V),ρ[i]? =lD (lD (.ow ds))->ρ[j]? =lD (lD (.ow es))->σ[i]? =lD (lD v)->σ[j]? =lD (lD v)->i=j
def Qd (K:Lc) (H0:Hp) (O:bu) (σ:St) (H:Hp) (ρ:aI) (v:V):PV->Prop
 | .fz d=>DV O K H v d
 | .ow ds=>∃a vs,v= .ref a/\O a/\H0 a=Ld/\H a=lD (.lst vs)/\Nc O K H vs ds/\∀(i:Nat) (es:List D),ρ[i]? =lD (lD (.ow es))->σ[i]?≠lD (lD (.ref a))
 | .pl i=>σ[i]? =lD (lD v)
def ji:PV->Prop
 | .ow _=>False
 |_=>True
noncomputable def gQ:PV->PV
 | .ow ds=> .fz (.list ds)
 |p=>p
section
variable {K:Lc} {B O O':bu} {H0 H H':Hp} {σ:St} {ρ ρ':aI} {v:V}
theorem RU.grow (s:Nk H H') (h:RU K H0 O H v x):RU K H0 O H' v x:=by
 cases x with
 |fz d=>exact DV.ev (Ev.grow s) h
 |ow ds=>obtain⟨a,vs,e,h1,h2,h3,h4⟩:=h;exact⟨a,vs,e,h1,h2,s _ _ h3,h4.ev (Ev.grow s)⟩
 |pl i=>exact h
theorem Rl.grow (R:Rl K B H0 O σ H ρ) (s:Nk H H'):Rl K B H0 O σ H' ρ:=
 ⟨R.same.trans s,R.bo,R.bd,fun a h=>R.od a (s.free h),R.len,fun i x h=>let⟨v,h1,h2⟩:=R.slot i x h;⟨v,h1,h2.grow s⟩,R.one⟩
theorem Rl.Wg (R:Rl K B H0 O σ H ρ) (h:H p=Ld):H0 p=Ld:=R.same.free h
theorem Rl.add (R:Rl K B H0 O σ H ρ) (s:Nk H H') (hp:H p=Ld) (hq:H' p≠Ld):Rl K B H0 (bC O p) σ H' ρ:=by
 refine⟨R.same.trans s,fun a h=> .inl (R.bo a h),R.bd,fun a h z=>z.elim (R.od a (s.free h)) fun e=>hq (by rw[<-e];exact h),R.len,fun i x h=> ?_,R.one⟩;obtain⟨v,h1,h2⟩:=R.slot i x h;refine⟨v,h1,?_⟩;cases x with
 |fz d=>exact DV.ev (Ev.add s hp) h2
 |ow ds=>obtain⟨a,vs,e,g1,g2,g3,g4⟩:=h2;exact⟨a,vs,e,.inl g1,g2,s _ _ g3,g4.ev (Ev.add s hp)⟩
 |pl i=>exact h2
theorem Rl.V3 (R:Rl K B H0 O σ H ρ) (h:H0 a=Ld):¬B a:=fun z=>R.bd a z h
theorem Rl.sub (R:Rl K B H0 O σ H ρ) {a:Lp} (h0:H0 a=Ld) (h:∀(i:Nat) (es:List D),ρ[i]? =lD (lD (.ow es))->σ[i]?≠lD (lD (.ref a))):Rl K B H0 (Ab O a) σ H ρ:=by
 refine⟨R.same,fun b hb=>⟨R.bo b hb,fun e=>R.V3 h0 (e▸hb)⟩,R.bd,fun b hb z=>R.od b hb z.1,R.len,fun i x hx=> ?_,R.one⟩;obtain⟨v,h1,h2⟩:=R.slot i x hx;refine⟨v,h1,?_⟩;cases x with
 |fz d=>exact DV.ev (Ev.sub fun b z=>z.1) h2
 |ow ds=>obtain⟨b,vs,e,g1,g2,g3,g4⟩:=h2;subst e;exact⟨b,vs,rfl,⟨g1,fun e=>h i ds hx (by rw[h1,e])⟩,g2,g3,g4.ev (Ev.sub fun b z=>z.1)⟩
 |pl i=>exact h2
theorem qW (h:H a=lD (.lst vs)) (n:¬O a) (hd:Nc O K H vs ds):DV O K H (.ref a) (.list ds):= .lst ⟨O0.of h,fun z=>absurd z n⟩ hd
theorem kR {pv:PV} (R:Rl K B H0 O σ H ρ) (h:Qd K H0 O σ H ρ v pv):∃O',Ev O H O' H/\Rl K B H0 O' σ H ρ/\Qd K H0 O' σ H ρ v (gQ pv):=by
 cases pv with
 |fz d=>exact⟨O,.refl,R,h⟩
 |pl i=>exact⟨O,.refl,R,h⟩
 |ow ds=>obtain⟨a,vs,rfl,h1,h2,h3,h4,h5⟩:=h;exact⟨Ab O a,Ev.sub fun b z=>z.1,R.sub h2 h5,qW h3 (fun z=>z.2 rfl) (h4.ev (Ev.sub fun b z=>z.1))⟩
theorem lO (pv:PV):ji (gQ pv):=by cases pv<;>trivial
theorem Qd.keep {pv:PV} (hs:ji pv) (e:Ev O H O' H') (h:Qd K H0 O σ H ρ v pv):Qd K H0 O' σ H' ρ' v pv:=by
 cases pv with
 |fz d=>exact DV.ev e h
 |pl i=>exact h
 |ow ds=>exact hs.elim
noncomputable def KF:Option (Option PV)->Option D
 |some (lD (.fz d))=>lD d
 |some (lD (.ow ds))=>lD (.list ds)
 |_=>Ld
noncomputable def oV (ρ:aI):PV->Option D
 | .fz d=>lD d
 | .ow ds=>lD (.list ds)
 | .pl i=>KF ρ[i]?
theorem jS {pv:PV} (R:Rl K B H0 O σ H ρ) (h:Qd K H0 O σ H ρ v pv) (e:oV ρ pv=lD d):DX O K H v d:=by
 cases pv with
 |fz d'=>cases e;exact DV.x h
 |ow ds=>cases e;obtain⟨a,vs,rfl,h1,h2,h3,h4,h5⟩:=h;exact⟨a,vs,rfl,O0.of h3,h4⟩
 |pl i=>
  have e':KF ρ[i]? =lD d:=e;have h':=h;cases q:ρ[i]? with
  |none=>rw[q] at e';cases e'
  |some o=>
   cases o with
   |none=>rw[q] at e';cases e'
   |some x=>
    obtain⟨u,g1,g2⟩:=R.slot i x q;rw[h'] at g1;cases g1;rw[q] at e';cases x with
    |fz d'=>cases e';exact DV.x g2
    |ow ds=>cases e';obtain⟨a,vs,rfl,k1,k2,k3,k4⟩:=g2;exact⟨a,vs,rfl,O0.of k3,k4⟩
    |pl j=>exact g2.elim
noncomputable def J4 (ρ:aI) (i:Nat):Option (Option PV)->Option (D×aI)
 |some (lD (.fz d))=>lD (d,ρ)
 |some (lD (.ow ds))=>lD (.list ds,ρ.set i (lD (.fz (.list ds))))
 |_=>Ld
noncomputable def uu (ρ:aI):PV->Option (D×aI)
 | .fz d=>lD (d,ρ)
 | .ow ds=>lD (.list ds,ρ)
 | .pl i=>J4 ρ i ρ[i]?
theorem bj {l:List α} (h:(l.set i x)[j]? =lD y):(j=i/\y=x)\/(j≠i/\l[j]? =lD y):=by
 rw[MS] at h;by_cases e:i=j
 ·rw[if_pos e] at h
  split at h
  ·cases h;exact .inl ⟨e.symm,rfl⟩
  ·cases h
 ·rw[if_neg e] at h;exact .inr ⟨fun z=>e z.symm,h⟩
theorem oT {pv:PV} (R:Rl K B H0 O σ H ρ) (h:Qd K H0 O σ H ρ v pv) (e:uu ρ pv=lD (d,ρ')):∃O',Ev O H O' H/\Rl K B H0 O' σ H ρ'/\DV O' K H v d:=by
 cases pv with
 |fz d'=>cases e;exact⟨O,.refl,R,h⟩
 |ow ds=>cases e;obtain⟨a,vs,rfl,h1,h2,h3,h4,h5⟩:=h;exact⟨Ab O a,Ev.sub fun b z=>z.1,R.sub h2 h5,qW h3 (fun z=>z.2 rfl) (h4.ev (Ev.sub fun b z=>z.1))⟩
 |pl i=>
  have e':J4 ρ i ρ[i]? =lD (d,ρ'):=e;have h':=h;cases q:ρ[i]? with
  |none=>rw[q] at e';cases e'
  |some o=>
   cases o with
   |none=>rw[q] at e';cases e'
   |some x=>
    obtain⟨u,g1,g2⟩:=R.slot i x q;rw[h'] at g1;cases g1;rw[q] at e';cases x with
    |fz d'=>cases e';exact⟨O,.refl,R,g2⟩
    |pl j=>exact g2.elim
    |ow ds=>
     cases e';obtain⟨a,vs,rfl,k1,k2,k3,k4⟩:=g2;have es:Ev O H (Ab O a) H:=Ev.sub fun b z=>z.1;have dv:=qW k3 (fun z=>z.2 rfl) (k4.ev es);refine⟨Ab O a,es,⟨R.same,fun b hb=>⟨R.bo b hb,fun e=>R.V3 k2 (e▸hb)⟩,R.bd,fun b hb z=>R.od b hb z.1,by rw[MW];exact R.len,fun j x hx=> ?_,fun j k xs ys w hj hk=> ?_⟩,dv⟩
     ·rcases bj hx with⟨rfl,ee⟩|⟨OK,hx⟩
      ·cases ee;exact⟨_,h',dv⟩
      ·obtain⟨u,m1,m2⟩:=R.slot j x hx
       refine⟨u,m1,?_⟩;cases x with
       |fz d=>exact DV.ev es m2
       |pl i=>exact m2
       |ow xs=>obtain⟨b,us,rfl,n1,n2,n3,n4⟩:=m2;exact⟨b,us,rfl,⟨n1,fun z=>OK (R.one j i xs ds (.ref a) hx q (by rw[m1,z]) h')⟩,n2,n3,n4.ev es⟩
     ·rcases bj hj with⟨rfl,ee⟩|⟨_,hj⟩
      ·cases ee
      ·rcases bj hk with⟨rfl,ee⟩|⟨_,hk⟩
       ·cases ee
       ·exact R.one j k xs ys w hj hk
end
def VP (K:Lc) (B:bu) (H:Hp) (c:Lf) (dx:Option Lp) (x:Xc):Prop:=
 (∃a,c= .ref a/\MF K Ma x.cls=lD (lD (.ref a)))/\∃fs,(∀p,dx=lD p->H p=lD (.xd fs))/\∀f d,x.fs.lookup f=lD d->dx≠Ld/\∃v,fs.lookup f=lD v/\DV B K H v d
def XE (K:Lc) (B:bu) (H0:Hp) (E:XK) (x:Xc):Prop:=∀c dx H',Nk H0 H'->VP K B H' c dx x->E c dx H'
def WR (K:Lc) (E:XK) (B:bu) (H0:Hp) (P:α->Prop):Res α->Prop
 | .ok a=>P a
 | .er x=>XE K B H0 E x
 | .bad=>False
section
variable {K:Lc} {E:XK} {B:bu} {H0:Hp}
theorem WR.bind (h:WR K E B H0 P (r.bind k)):WR K E B H0 (fun a=>WR K E B H0 P (k a)) r:=by cases r<;>exact h
theorem WR.ME (h:WR K E B H0 P ((Res.ME o).bind k)):∃a,o=lD a/\WR K E B H0 P (k a):=by
 cases o with
 |none=>exact h.elim
 |some a=>exact⟨a,rfl,h⟩
theorem WR.imp (h:WR K E B H0 P r) (g:∀a,P a->P' a):WR K E B H0 P' r:=by
 cases r with
 |ok a=>exact g a h
 |er x=>exact h
 |bad=>exact h
end
abbrev FE:=aI->Res (PV×aI)
abbrev FT:=aI->Res (Bool×aI)
abbrev FA:=aI->Res (List PV×aI)
def EO (K:Lc) (E:XK) (t:TE) (f:FE):Prop:=
 ∀(B:bu) (H0:Hp) (O:bu) (σ:St) (H:Hp) (ρ:aI) (Q:VK),Rl K B H0 O σ H ρ->WR K E B H0 (fun r=>∀O' v H',Ev O H O' H'->Rl K B H0 O' σ H' r.2->Qd K H0 O' σ H' r.2 v r.1->Q v H') (f ρ)->t σ H Q
def SE (K:Lc) (E:XK) (t:TT) (f:FT):Prop:=
 ∀(B:bu) (H0:Hp) (O:bu) (σ:St) (H:Hp) (ρ:aI) (Q:Bool->Hp->Prop),Rl K B H0 O σ H ρ->WR K E B H0 (fun r=>∀O' H',Ev O H O' H'->Rl K B H0 O' σ H' r.2->Q r.1 H') (f ρ)->t σ H Q
def AO (K:Lc) (E:XK) (t:TA) (f:FA):Prop:=
 ∀(B:bu) (H0:Hp) (O:bu) (σ:St) (H:Hp) (ρ:aI) (Q:List V->Hp->Prop),Rl K B H0 O σ H ρ->WR K E B H0 (fun r=>∀O' vs H',Ev O H O' H'->Rl K B H0 O' σ H' r.2->Paired (fun v pv=>Qd K H0 O' σ H' r.2 v pv/\ji pv) vs r.1->Q vs H') (f ρ)->t σ H Q
inductive RV where
 |fz (d:D)
 |ow (ds:List D)
noncomputable def RV.pv:RV->PV
 | .fz d=> .fz d
 | .ow ds=> .ow ds
def Fin (O:bu) (K:Lc) (H:Hp) (Q:VK):RV->Prop
 | .fz d=>∀v H',Nk H H'->DV O K H' v d->Q v H'
 | .ow ds=>∀p vs H',Nk H H'->H p=Ld->H' p=lD (.lst vs)->Nc (bC O p) K H' vs ds->Q (.ref p) H'
def k9 (O:bu) (H:Hp):Prop:=∀a,H a=Ld->¬O a
section
variable {K:Lc} {E:XK} {B O O':bu} {H0 H H':Hp} {σ:St} {ρ ρ':aI} {v:V}
theorem jI (R:Rl K B H0 O σ H ρ) (h:∀O' v H',Ev O H O' H'->Rl K B H0 O' σ H' ρ->Qd K H0 O' σ H' ρ v rv.pv->Q v H'):Fin O K H Q rv:=by
 cases rv with
 |fz d=>exact fun v H' s dv=>h O v H' (Ev.grow s) (R.grow s) dv
 |ow ds=>intro p vs H' s hp e dv;refine h (bC O p) (.ref p) H' (Ev.add s hp) (R.add s hp (by rw[e];simp)) ⟨p,vs,rfl,.inr rfl,R.Wg hp,e,dv,fun i es hi z=> ?_⟩;obtain⟨u,h1,a,us,e2,g1,g2,g3,g4⟩:=R.slot i _ hi;rw[z] at h1;cases h1;cases e2;rw[hp] at g3;cases g3
theorem Fin.new (hd:Nc O K H vs ds) (h:Fin O K H Q (.ow ds)):∀p,H p=Ld->Q (.ref p) (upd H p (.lst vs)):=fun p hp=>
 h p vs _ (cc hp _) hp aB (hd.ev (Ev.add (cc hp _) hp))
theorem Fin.TK (hd:Nc O K H vs ds) (hO:k9 O H) (h:Fin O K H Q (.fz (.tuple ds))):∀p,H p=Ld->Q (.ref p) (upd H p (.tup vs)):=fun p hp=>
 h (.ref p) _ (cc hp _) (.tup ⟨P9.of aB,fun z=>absurd z (hO p hp)⟩ (hd.ev (Ev.grow (cc hp _))))
theorem Fin.at (h:Fin O K H Q (.fz d)) (hv:DV O K H v d):Q v H:=h v H (Nk.refl H) hv
noncomputable def xB (ρ:aI) (i:Nat):Option (Option PV)->Res (PV×aI)
 |some (lD (.fz d))=> .ok (.fz d,ρ)
 |some (lD (.ow _))=> .ok (.pl i,ρ)
 |_=> .bad
noncomputable def ae (i:Nat):FE:=fun ρ=>xB ρ i ρ[i]?
theorem au:EO K E (oi i) (ae i):=by
 intro B H0 O σ H ρ Q R w;unfold ae at w;cases q:ρ[i]? with
 |none=>rw[q] at w;exact w.elim
 |some o=>
  cases o with
  |none=>rw[q] at w;exact w.elim
  |some x=>
   rw[q] at w;obtain⟨v,h1,h2⟩:=R.slot i x q;cases x with
   |fz d=>exact⟨v,h1,w O v H .refl R h2⟩
   |ow ds=>exact⟨v,h1,w O v H .refl R h1⟩
   |pl j=>exact w.elim
noncomputable def pC (d:D):FE:=fun ρ=> .ok (.fz d,ρ)
theorem zv (h:∀O H,DV O K H v d):EO K E (tC v) (pC d):=fun B H0 O σ H ρ Q R w=>w O v H .refl R (h O H)
theorem aW:EO K E (tC (.int i)) (pC (.int i)):=zv fun _ _=> .int i
theorem sE:EO K E (tC (.bl b)) (pC (.bool b)):=zv fun _ _=> .bl b
theorem u4:EO K E (tC (.str x)) (pC (.str x)):=zv fun _ _=> .str x
theorem rj:EO K E (tC .ON) (pC .none):=zv fun _ _=> .ON
def lc (K:Lc) (r:R2) (f:D->D->Option RV):Prop:=∀(O:bu) (H:Hp) (x y:V) (dx dy:D) (rv:RV) (Q:VK),k9 O H->DX O K H x dx->DX O K H y dy->f dx dy=lD rv->Fin O K H Q rv->r x y H Q
noncomputable def aG (f:D->D->Option RV) (fa fb:FE):FE:=fun ρ=>(fa ρ).bind fun a=>(fb a.2).bind fun b=>(Res.ME (oV b.2 (gQ a.1))).bind fun dx=>(Res.ME (oV b.2 b.1)).bind fun dy=>(Res.ME (f dx dy)).bind fun rv=> .ok (rv.pv,b.2)
theorem bO (hr:lc K r f) (ha:EO K E ta fa) (hb:EO K E tb fb):EO K E (F4 r ta tb) (aG f fa fb):=by intro B H0 O σ H ρ Q R w;refine ha B H0 O σ H ρ _ R (w.bind.imp fun a w1 O1 x H1 e1 R1 p1=> ?_);obtain⟨O2,e2,R2,p2⟩:=kR R1 p1;refine hb B H0 O2 σ H1 a.2 _ R2 (w1.bind.imp fun b w2 O3 y H3 e3 R3 p3=> ?_);have p2':=p2.keep (lO a.1) e3 (ρ':=b.2);obtain⟨dx,qx,w2⟩:=w2.ME;obtain⟨dy,qy,w2⟩:=w2.ME;obtain⟨rv,qf,w2⟩:=w2.ME;refine hr O3 H3 x y dx dy rv Q R3.od (jS R3 p2' qx) (jS R3 p3 qy) qf (jI R3 fun O4 v H4 e4 R4 p4=> ?_);exact w2 O4 v H4 (e1.trans (e2.trans (e3.trans e4))) R4 p4
noncomputable def Io (f:D->Option RV) (fa:FE):FE:=fun ρ=>(fa ρ).bind fun a=>(Res.ME (oV a.2 a.1)).bind fun dx=>(Res.ME (f dx)).bind fun rv=> .ok (rv.pv,a.2)
noncomputable def J6:D->Option Bool
 | .bool b=>lD b
 |_=>Ld
theorem Hw (h:DX O K H x d) (e:J6 d=lD b):x= .bl b:=by cases d<;>cases e;cases h;rfl
noncomputable def aN (fa:FE):aI->Res (Bool×aI):=fun ρ=>(fa ρ).bind fun a=>(Res.ME (oV a.2 a.1)).bind fun d=>(Res.ME (J6 d)).bind fun b=> .ok (b,a.2)
theorem dc (ha:EO K E ta fa):SE K E (Bc ta) (aN fa):=by intro B H0 O σ H ρ Q R w;refine ha B H0 O σ H ρ _ R (w.bind.imp fun a w1 O1 x H1 e1 R1 p1=> ?_);obtain⟨d,qd,w1⟩:=w1.ME;obtain⟨b,qb,w1⟩:=w1.ME;exact⟨b,Hw (jS R1 p1 qd) qb,w1 O1 H1 e1 R1⟩
theorem xc (ha:EO K E ta fa):SE K E (tB ta) (aN fa):=dc ha
noncomputable def sI (fa fb:FT):FT:=fun ρ=>(fa ρ).bind fun a=>if a.1=Lk then fb a.2 else .ok (Lw,a.2)
noncomputable def BO (fa fb:FT):FT:=fun ρ=>(fa ρ).bind fun a=>if a.1=Lk then .ok (Lk,a.2) else fb a.2
noncomputable def mB (fa:FT):FT:=fun ρ=>(fa ρ).bind fun a=> .ok (!a.1,a.2)
theorem SE.next (h:SE K E t f) (R:Rl K B H0 O1 σ H1 ρ) (e1:Ev O H O1 H1) (w:WR K E B H0 (fun r=>∀O' H',Ev O H O' H'->Rl K B H0 O' σ H' r.2->Q r.1 H') (f ρ)):t σ H1 Q:=
 h B H0 O1 σ H1 ρ Q R (w.imp fun r q O' H' e' R'=>q O' H' (e1.trans e') R')
theorem EO.next (h:EO K E t f) (R:Rl K B H0 O1 σ H1 ρ) (e1:Ev O H O1 H1) (w:WR K E B H0 (fun r=>∀O' v H',Ev O H O' H'->Rl K B H0 O' σ H' r.2->Qd K H0 O' σ H' r.2 v r.1->Q v H') (f ρ)):t σ H1 Q:=
 h B H0 O1 σ H1 ρ Q R (w.imp fun r q O' v H' e' R' p'=>q O' v H' (e1.trans e') R' p')
theorem wE (h1:SE K E t f) (h2:SE K E u g):SE K E (Jl t u) (sI f g):=by
 intro B H0 O σ H ρ Q R w;refine h1 B H0 O σ H ρ _ R (w.bind.imp fun a w1 O1 H1 e1 R1=> ?_);obtain⟨b,ρ1⟩:=a;cases b with
 |true=>exact h2.next R1 e1 w1
 |false=>exact w1 O1 H1 e1 R1
theorem CM (h1:SE K E t f) (h2:SE K E u g):SE K E (JY t u) (BO f g):=by
 intro B H0 O σ H ρ Q R w;refine h1 B H0 O σ H ρ _ R (w.bind.imp fun a w1 O1 H1 e1 R1=> ?_);obtain⟨b,ρ1⟩:=a;cases b with
 |true=>exact w1 O1 H1 e1 R1
 |false=>exact h2.next R1 e1 w1
theorem qD (h1:SE K E t f):SE K E (GU t) (mB f):=by intro B H0 O σ H ρ Q R w;exact h1 B H0 O σ H ρ _ R (w.bind.imp fun a w1 O1 H1 e1 R1=>w1 O1 H1 e1 R1)
noncomputable def eE:FT:=fun ρ=> .ok (Lk,ρ)
theorem gy:SE K E tw eE:=fun B H0 O σ H ρ Q R w=>w O H .refl R
noncomputable def zH (fa fb:FE):FE:=fun ρ=>(aN fa ρ).bind fun a=>if a.1=Lk then fb a.2 else .ok (.fz (.bool Lw),a.2)
noncomputable def Cy (fa:FE):FE:=fun ρ=>(aN fa ρ).bind fun a=> .ok (.fz (.bool (!a.1)),a.2)
theorem BS (ha:EO K E ta fa) (hb:EO K E tb fb):EO K E (Fh ta tb) (zH fa fb):=by
 intro B H0 O σ H ρ Q R w;refine dc ha B H0 O σ H ρ (fun c H1=>if c=Lk then tb σ H1 Q else Q (.bl Lw) H1) R (w.bind.imp fun a w1 O1 H1 e1 R1=> ?_);obtain⟨b,ρ1⟩:=a;cases b with
 |true=>exact hb.next R1 e1 w1
 |false=>exact w1 O1 _ H1 e1 R1 (.bl Lw)
theorem Ak (ha:EO K E ta fa):EO K E (Fd ta) (Cy fa):=by intro B H0 O σ H ρ Q R w;exact dc ha B H0 O σ H ρ (fun c H1=>Q (.bl (!c)) H1) R (w.bind.imp fun a w1 O1 H1 e1 R1=>w1 O1 _ H1 e1 R1 (.bl _))
noncomputable def aq:FA:=fun ρ=> .ok ([],ρ)
noncomputable def aa (fa:FE) (fr:FA):FA:=fun ρ=>(fa ρ).bind fun a=>(fr a.2).bind fun b=> .ok (gQ a.1::b.1,b.2)
theorem aV:AO K E nV aq:=fun B H0 O σ H ρ Q R w=>w O [] H .refl R .nil
theorem aK (ha:EO K E ta fa) (hr:AO K E tr fr):AO K E (gI ta tr) (aa fa fr):=by intro B H0 O σ H ρ Q R w;refine ha B H0 O σ H ρ _ R (w.bind.imp fun a w1 O1 x H1 e1 R1 p1=> ?_);obtain⟨O2,e2,R2,p2⟩:=kR R1 p1;refine hr B H0 O2 σ H1 a.2 _ R2 (w1.bind.imp fun b w2 O3 ys H3 e3 R3 p3=> ?_);exact w2 O3 (x::ys) H3 (e1.trans (e2.trans e3)) R3 (.cons ⟨p2.keep (lO a.1) e3,lO a.1⟩ p3)
noncomputable def rA (ρ:aI):List PV->Option (List D)
 |[]=>lD []
 |p::r=>match oV ρ p with
  |some d=>(match rA ρ r with
   |some ds=>lD (d::ds)
   |none=>Ld)
  |none=>Ld
theorem rX (R:Rl K B H0 O σ H ρ):∀{vs:List V} {ps:List PV} {ds:List D},Paired (fun v pv=>Qd K H0 O σ H ρ v pv/\ji pv) vs ps->rA ρ ps=lD ds->Paired (DX O K H) vs ds
 |_,_,_,.nil,e=>by cases e;exact .nil
 |_,_,_,.cons (l₂:=ps) (b:=p) h t,e=>by
  unfold rA at e;cases q:oV ρ p with
  |none=>rw[q] at e;cases e
  |some d=>
   rw[q] at e;dsimp only at e;cases q2:rA ρ ps with
   |none=>rw[q2] at e;cases e
   |some Ub=>rw[q2] at e;cases e;exact .cons (jS R h.1 q) (rX R t q2)
noncomputable def ni (ρ:aI):List PV->Option (List D×aI)
 |[]=>lD ([],ρ)
 |p::r=>match uu ρ p with
  |some (d,ρ1)=>(match ni ρ1 r with
   |some (ds,ρ2)=>lD (d::ds,ρ2)
   |none=>Ld)
  |none=>Ld
theorem pO:∀{vs:List V} {ps:List PV} {ds:List D} {O:bu} {ρ ρ':aI},Rl K B H0 O σ H ρ->Paired (fun v pv=>Qd K H0 O σ H ρ v pv/\ji pv) vs ps->ni ρ ps=lD (ds,ρ')->∃O',Ev O H O' H/\Rl K B H0 O' σ H ρ'/\Nc O' K H vs ds
 |_,_,_,O,_,_,R,.nil,e=>by cases e;exact⟨O,.refl,R,.nil⟩
 |_,_,_,O,ρ,ρ',R,.cons (l₁:=vs) (l₂:=ps) (b:=p) h t,e=>by
  unfold ni at e;cases q:uu ρ p with
  |none=>rw[q] at e;cases e
  |some r=>
   obtain⟨d,ρ1⟩:=r;rw[q] at e;dsimp only at e;cases q2:ni ρ1 ps with
   |none=>rw[q2] at e;cases e
   |some r2=>obtain⟨Ub,ρ2⟩:=r2;rw[q2] at e;cases e;obtain⟨O1,e1,R1,d1⟩:=oT R h.1 q;have t1:Paired (fun v pv=>Qd K H0 O1 σ H ρ1 v pv/\ji pv) vs ps:=Paired.Ph t fun v pv ⟨h1,h2⟩=>⟨h1.keep h2 e1,h2⟩;obtain⟨O2,e2,R2,d2⟩:=pO R1 t1 q2;exact⟨O2,e1.trans e2,R2,.cons (d1.ev e2) d2⟩
abbrev FN:=List D->Res RV
noncomputable def jM (K:Lc) (n:Nat) (F:FN):Sp:=fun vs H Q E=>vs.length=n/\∃(B:bu) (ds:List D),(∀a,B a->H a≠Ld)/\Nc B K H vs ds/\WR K E B H (Fin B K H Q) (F ds)
noncomputable def bW (fa:FA):FE:=fun ρ=>(fa ρ).bind fun a=>(Res.ME (ni a.2 a.1)).bind fun b=>if b.1.length<=1000 then .ok (.fz (.tuple b.1),b.2) else .bad
noncomputable def eG (fa:FA):FE:=fun ρ=>(fa ρ).bind fun a=>(Res.ME (ni a.2 a.1)).bind fun b=>if b.1.length<=1000 then .ok (.ow b.1,b.2) else .bad
theorem C2 (h:n<=1000):n<=LL:=LF h (by decide)
theorem gr (ha:AO K E ta fa):EO K E (Hr ta) (bW fa):=by
 intro B H0 O σ H ρ Q R w;refine ha B H0 O σ H ρ _ R (w.bind.imp fun a w1 O1 vs H1 e1 R1 p1=> ?_);obtain⟨⟨ds,ρ2⟩,q,w2⟩:=w1.ME;obtain⟨O2,e2,R2,dv⟩:=pO R1 p1 q;dsimp only at w2;by_cases hn:ds.length<=1000
 ·rw[if_pos hn] at w2;refine⟨by rw[dv.length];exact C2 hn,Fin.TK dv R2.od (jI R2 fun O3 v H3 e3 R3 p3=>w2 O3 v H3 (e1.trans (e2.trans e3)) R3 p3)⟩
 ·rw[if_neg hn] at w2;exact w2.elim
theorem gg (ha:AO K E ta fa):EO K E (Jz ta) (eG fa):=by
 intro B H0 O σ H ρ Q R w;refine ha B H0 O σ H ρ _ R (w.bind.imp fun a w1 O1 vs H1 e1 R1 p1=> ?_);obtain⟨⟨ds,ρ2⟩,q,w2⟩:=w1.ME;obtain⟨O2,e2,R2,dv⟩:=pO R1 p1 q;dsimp only at w2;by_cases hn:ds.length<=1000
 ·rw[if_pos hn] at w2;refine⟨by rw[dv.length];exact C2 hn,Fin.new dv (jI R2 fun O3 v H3 e3 R3 p3=>w2 O3 v H3 (e1.trans (e2.trans e3)) R3 p3)⟩
 ·rw[if_neg hn] at w2;exact w2.elim
def Ff (K:Lc) (r:List V->Hp->VK->Prop) (f:List D->Option RV):Prop:=∀(O:bu) (H:Hp) (xs:List V) (ds:List D) (rv:RV) (Q:VK),k9 O H->Paired (DX O K H) xs ds->f ds=lD rv->Fin O K H Q rv->r xs H Q
noncomputable def gJ (f:List D->Option RV) (fa:FA):FE:=fun ρ=>(fa ρ).bind fun a=>(Res.ME (rA a.2 a.1)).bind fun ds=>(Res.ME (f ds)).bind fun rv=> .ok (rv.pv,a.2)
theorem oM (hr:Ff K r f) (ha:AO K E ta fa):EO K E (E9 r ta) (gJ f fa):=by intro B H0 O σ H ρ Q R w;refine ha B H0 O σ H ρ _ R (w.bind.imp fun a w1 O1 vs H1 e1 R1 p1=> ?_);obtain⟨ds,q,w2⟩:=w1.ME;obtain⟨rv,qf,w2⟩:=w2.ME;exact hr O1 H1 vs ds rv Q R1.od (rX R1 p1 q) qf (jI R1 fun O4 v H4 e4 R4 p4=>w2 O4 v H4 (e1.trans e4) R4 p4)
noncomputable def Kr:D->Option Int
 | .int i=>lD i
 |_=>Ld
theorem Gg (h:DX O K H x d) (e:Kr d=lD i):x= .int i:=by cases d<;>cases e;cases h;rfl
abbrev FO:=aI->Res (Option Int×aI)
def JN (K:Lc) (E:XK) (t:TO) (f:FO):Prop:=
 ∀(B:bu) (H0:Hp) (O:bu) (σ:St) (H:Hp) (ρ:aI) (Q:Option Int->Hp->Prop),Rl K B H0 O σ H ρ->WR K E B H0 (fun r=>∀O' H',Ev O H O' H'->Rl K B H0 O' σ H' r.2->Q r.1 H') (f ρ)->t σ H Q
noncomputable def eI:FO:=fun ρ=> .ok (Ld,ρ)
noncomputable def dB (fa:FE):FO:=fun ρ=>(fa ρ).bind fun a=>(Res.ME (oV a.2 a.1)).bind fun d=>(Res.ME (Kr d)).bind fun i=> .ok (lD i,a.2)
theorem jW:JN K E w6 eI:=fun B H0 O σ H ρ Q R w=>w O H .refl R
theorem gD (ha:EO K E ta fa):JN K E (AB ta) (dB fa):=by intro B H0 O σ H ρ Q R w;refine ha B H0 O σ H ρ _ R (w.bind.imp fun a w1 O1 x H1 e1 R1 p1=> ?_);obtain⟨d,q,w2⟩:=w1.ME;obtain⟨i,qi,w2⟩:=w2.ME;exact⟨i,Gg (jS R1 p1 q) qi,w2 O1 H1 e1 R1⟩
def Kj (K:Lc) (r:V->Option Int->Option Int->Hp->VK->Prop) (f:D->Option Int->Option Int->Option RV):Prop:=∀(O:bu) (H:Hp) (x:V) (lo hi:Option Int) (dx:D) (rv:RV) (Q:VK),k9 O H->DX O K H x dx->f dx lo hi=lD rv->Fin O K H Q rv->r x lo hi H Q
noncomputable def pD (f:D->Option Int->Option Int->Option RV) (fa:FE) (fl fh:FO):FE:=fun ρ=>(fa ρ).bind fun a=>(fl a.2).bind fun l=>(fh l.2).bind fun h=>(Res.ME (oV h.2 (gQ a.1))).bind fun dx=>(Res.ME (f dx l.1 h.1)).bind fun rv=> .ok (rv.pv,h.2)
theorem tV (hr:Kj K r f) (ha:EO K E ta fa) (hl:JN K E tl fl) (hh:JN K E th fh):EO K E (KG r ta tl th) (pD f fa fl fh):=by intro B H0 O σ H ρ Q R w;refine ha B H0 O σ H ρ _ R (w.bind.imp fun a w1 O1 x H1 e1 R1 p1=> ?_);obtain⟨O2,e2,R2,p2⟩:=kR R1 p1;refine hl B H0 O2 σ H1 a.2 _ R2 (w1.bind.imp fun l w2 O3 H3 e3 R3=> ?_);refine hh B H0 O3 σ H3 l.2 _ R3 (w2.bind.imp fun h w3 O4 H4 e4 R4=> ?_);obtain⟨dx,qx,w3⟩:=w3.ME;obtain⟨rv,qf,w3⟩:=w3.ME;exact hr O4 H4 x l.1 h.1 dx rv Q R4.od (jS R4 (p2.keep (lO a.1) (e3.trans e4)) qx) qf (jI R4 fun O5 v H5 e5 R5 p5=>w3 O5 v H5 (e1.trans (e2.trans (e3.trans (e4.trans e5)))) R5 p5)
end
theorem pY {l:List α} (h:(l.set i x)[i]? =lD y):i<l.length:=by
 rw[MS] at h;rw[if_pos rfl] at h;split at h
 ·assumption
 ·cases h
section
variable {K:Lc} {E:XK} {B O O':bu} {H0 H H':Hp} {σ:St} {ρ ρ':aI} {v:V}
theorem Rl.mut {i:Nat} {ds Ub:List D} {a:Lp} {Xe:List V} (R:Rl K B H0 O σ H ρ) (hi:ρ[i]? =lD (lD (.ow ds))) (hv:σ[i]? =lD (lD (.ref a))) (hO:O a) (h0:H0 a=Ld) (hd:Nc O K H Xe Ub):
  Rl K B H0 O σ (upd H a (.lst Xe)) (ρ.set i (lD (.ow Ub))):=by
 have ev:Ev O H O (upd H a (.lst Xe)):=Ev.mut hO _;refine⟨fun b o e=>by rw[az (bX e h0)];exact R.same b o e,R.bo,R.bd,fun b hb=> ?_,by rw[MW];exact R.len,fun j x hx=> ?_,fun j k xs ys w hj hk TV SR=> ?_⟩
 ·by_cases e:b=a
  ·rw[e,aB] at hb;cases hb
  ·rw[az e] at hb;exact R.od b hb
 ·rcases bj hx with⟨rfl,ee⟩|⟨OK,hx⟩
  ·cases ee;exact⟨_,hv,a,Xe,rfl,hO,h0,aB,hd.ev ev⟩
  ·obtain⟨u,m1,m2⟩:=R.slot j x hx
   refine⟨u,m1,?_⟩;cases x with
   |fz d=>exact DV.ev ev m2
   |pl i=>exact m2
   |ow xs=>obtain⟨b,us,rfl,n1,n2,n3,n4⟩:=m2;have hba:b≠a:=fun z=>OK (R.one j i xs ds (.ref a) hx hi (by rw[m1,z]) hv);exact⟨b,us,rfl,n1,n2,by rw[az hba];exact n3,n4.ev ev⟩
 ·have own:∀{j:Nat} {xs:List D},(ρ.set i (lD (.ow Ub)))[j]? =lD (lD (.ow xs))->∃ys,ρ[j]? =lD (lD (.ow ys)):=fun{j xs} h=>by
   rcases bj h with⟨rfl,_⟩|⟨_,h⟩
   ·exact⟨_,hi⟩
   ·exact⟨_,h⟩
  obtain⟨UR,hj'⟩:=own hj;obtain⟨TR,S0⟩:=own hk;exact R.one j k UR TR w hj' S0 TV SR
theorem um (h:n<1000000):n<LL:=LQ h (by decide)
noncomputable def BH:Option (Option PV)->Option (List D)
 |some (lD (.ow ds))=>lD ds
 |_=>Ld
theorem wH (h:BH o=lD ds):o=lD (lD (.ow ds)):=by
 unfold BH at h;split at h
 ·cases h;rfl
 ·cases h
noncomputable def fE (i:Nat) (fe:FE):FE:=fun ρ=>(Res.ME (BH ρ[i]?)).bind fun _=>(fe ρ).bind fun a=>(Res.ME (uu a.2 a.1)).bind fun b=>(Res.ME (BH b.2[i]?)).bind fun ds=>
 if ds.length<1000000 then .ok (.fz .none,b.2.set i (lD (.ow (ds++[b.1])))) else .bad
theorem z7 (he:EO K E te fe):EO K E (JZ K "list" pR (oi i) (gI te nV)) (fE i fe):=by
 intro B H0 O σ H ρ Q R w;obtain⟨ds0,q0,w⟩:=w.ME;obtain⟨v,g1,a,vs,rfl,g2,g3,g4,g5⟩:=R.slot i _ (wH q0);refine⟨_,g1,.inl ⟨rfl,_,Ql.of g4⟩,?_⟩;refine he B H0 O σ H ρ _ R (w.bind.imp fun b w1 O1 y H1 e1 R1 p1=> ?_);obtain⟨⟨d,ρ2⟩,qd,w1⟩:=w1.ME;obtain⟨O2,e2,R2,dv⟩:=oT R1 p1 qd;obtain⟨ds,qo,w1⟩:=w1.ME;have qo:=wH qo;obtain⟨v',k1,a',Xe,e',k2,k3,k4,k5⟩:=R2.slot i _ qo;subst e';rw[g1] at k1;cases k1;dsimp only at w1;by_cases hl:ds.length<1000000
 ·rw[if_pos hl] at w1;refine⟨a,Xe,y,rfl,rfl,k4,um (by rw[k5.length];exact hl),?_⟩;exact w1 O2 .ON _ (e1.trans (e2.trans (Ev.mut k2 _))) (R2.mut qo g1 k2 k3 (k5.append (.cons dv .nil))) .ON
 ·rw[if_neg hl] at w1;exact w1.elim
abbrev FG:=PV->aI->Res aI
abbrev Jf:=List D->aI->Res aI
def GO (K:Lc) (E:XK) (g:TG) (f:FG):Prop:=
 ∀(B:bu) (H0:Hp) (O:bu) (σ:St) (H:Hp) (ρ:aI) (v:V) (pv:PV) (Q:St->Hp->Prop),Rl K B H0 O σ H ρ->Qd K H0 O σ H ρ v pv->WR K E B H0 (fun ρ'=>∀O' σ' H',Ev O H O' H'->Rl K B H0 O' σ' H' ρ'->Q σ' H') (f pv ρ)->g v σ H Q
def JL (K:Lc) (E:XK) (g:Hi) (f:Jf):Prop:=
 ∀(B:bu) (H0:Hp) (O:bu) (σ:St) (H:Hp) (ρ:aI) (vs:List V) (ds:List D) (Q:St->Hp->Prop),Rl K B H0 O σ H ρ->Nc O K H vs ds->WR K E B H0 (fun ρ'=>∀O' σ' H',Ev O H O' H'->Rl K B H0 O' σ' H' ρ'->Q σ' H') (f ds ρ)->g vs σ H Q
theorem Rl.Yb (R:Rl K B H0 O σ H ρ) (h:DV O K H v d):Rl K B H0 O (σ.set i (lD v)) H (ρ.set i (lD (.fz d))):=by
 refine⟨R.same,R.bo,R.bd,R.od,by rw[MW,MW];exact R.len,fun j x hx=> ?_,fun j k xs ys w hj hk TV SR=> ?_⟩
 ·rcases bj hx with⟨rfl,e⟩|⟨OK,hx⟩
  ·cases e;have:=pY hx;exact⟨v,by rw[MS,if_pos rfl,if_pos (by rw[R.len];exact this)],h⟩
  ·obtain⟨u,m1,m2⟩:=R.slot j x hx;exact⟨u,by rw[MS,if_neg (fun z=>OK z.symm)];exact m1,m2⟩
 ·rcases bj hj with⟨rfl,ee⟩|⟨n1,hj⟩
  ·cases ee
  ·rcases bj hk with⟨rfl,ee⟩|⟨n2,hk⟩
   ·cases ee
   ·rw[MS,if_neg (fun z=>n1 z.symm)] at TV;rw[MS,if_neg (fun z=>n2 z.symm)] at SR;exact R.one j k xs ys w hj hk TV SR
theorem Rl.aac (R:Rl K B H0 O σ H ρ) (h:Qd K H0 O σ H ρ v (.ow ds)):Rl K B H0 O (σ.set i (lD v)) H (ρ.set i (lD (.ow ds))):=by
 obtain⟨a,vs,rfl,h1,h2,h3,h4,h5⟩:=h;refine⟨R.same,R.bo,R.bd,R.od,by rw[MW,MW];exact R.len,fun j x hx=> ?_,fun j k xs ys w hj hk TV SR=> ?_⟩
 ·rcases bj hx with⟨rfl,e⟩|⟨OK,hx⟩
  ·cases e;have:=pY hx;exact⟨.ref a,by rw[MS,if_pos rfl,if_pos (by rw[R.len];exact this)],a,vs,rfl,h1,h2,h3,h4⟩
  ·obtain⟨u,m1,m2⟩:=R.slot j x hx;exact⟨u,by rw[MS,if_neg (fun z=>OK z.symm)];exact m1,m2⟩
 ·rcases bj hj with⟨rfl,ee⟩|⟨n1,XX⟩
  ·rcases bj hk with⟨rfl,ee2⟩|⟨n2,hk⟩
   ·rfl
   ·rw[MS,if_neg (fun z=>n2 z.symm)] at SR
    rcases bj TV with⟨_,e⟩|⟨z,_⟩
    ·cases e;exact absurd SR (h5 k ys hk)
    ·exact absurd rfl z
  ·have hj':=XX
   rw[MS,if_neg (fun z=>n1 z.symm)] at TV;rcases bj hk with⟨rfl,ee⟩|⟨n2,hk⟩
   ·rcases bj SR with⟨_,e⟩|⟨z,_⟩
    ·cases e;exact absurd TV (h5 j xs XX)
    ·exact absurd rfl z
   ·rw[MS,if_neg (fun z=>n2 z.symm)] at SR;exact R.one j k xs ys w XX hk TV SR
noncomputable def gN (i:Nat):FG:=fun pv ρ=>match pv with
 | .ow ds=> .ok (ρ.set i (lD (.ow ds)))
 | .fz d=> .ok (ρ.set i (lD (.fz d)))
 | .pl j=>(Res.ME (uu ρ (.pl j))).bind fun b=> .ok (b.2.set i (lD (.fz b.1)))
theorem a8:GO K E (o0 i) (gN i):=by
 intro B H0 O σ H ρ v pv Q R p w;cases pv with
 |ow ds=>exact w O _ H .refl (R.aac p)
 |fz d=>exact w O _ H .refl (R.Yb p)
 |pl j=>obtain⟨⟨d,ρ2⟩,q,w⟩:=WR.ME (show WR K E B H0 _ ((Res.ME (uu ρ (.pl j))).bind fun b=> .ok (b.2.set i (lD (.fz b.1)))) from w);obtain⟨O2,e2,R2,dv⟩:=oT R p q;exact w O2 _ H e2 (R2.Yb dv)
noncomputable def zg:Jf:=fun ds ρ=>match ds with
 |[]=> .ok ρ
 |_=> .bad
noncomputable def nU (f:FG) (g:Jf):Jf:=fun ds ρ=>match ds with
 |[]=> .bad
 |d::r=>(f (.fz d) ρ).bind fun ρ1=>g r ρ1
theorem uK:JL K E HD zg:=by
 intro B H0 O σ H ρ vs ds Q R dv w;cases dv with
 |nil=>exact⟨rfl,w O σ H .refl R⟩
 |cons _ _=>exact w.elim
theorem j8 (h1:GO K E t f) (h2:JL K E u g):JL K E (Bb t u) (nU f g):=by
 intro B H0 O σ H ρ vs ds Q R dv w;cases dv with
 |nil=>exact w.elim
 |cons hd tl=>rename_i v vs d ds;refine⟨_,_,rfl,h1 B H0 O σ H ρ _ (.fz d) _ R hd (WR.imp (WR.bind w) fun ρ1 w1 O1 σ1 H1 e1 R1=> ?_)⟩;exact h2 B H0 O1 σ1 H1 ρ1 _ _ Q R1 (tl.ev e1) (w1.imp fun ρ2 q O2 σ2 H2 e2 R2=>q O2 σ2 H2 (e1.trans e2) R2)
noncomputable def KK:D->Option (List D)
 | .tuple ds=>lD ds
 |_=>Ld
theorem Aa (h:DX O K H x d) (e:KK d=lD ds):∃a xs,x= .ref a/\QG O K H a xs/\Nc O K H xs ds:=by
 cases d<;>cases e;cases h with
 |tup h hs=>exact⟨_,_,rfl,h,hs⟩
noncomputable def gT (n:Nat) (f:Jf):FG:=fun pv ρ=>(Res.ME (oV ρ pv)).bind fun d=>(Res.ME (KK d)).bind fun ds=>if ds.length=n then f ds ρ else .bad
theorem uH (h:JL K E t f):GO K E (FR K n t) (gT n f):=by
 intro B H0 O σ H ρ v pv Q R p w;obtain⟨d,qd,w⟩:=w.ME;obtain⟨ds,qs,w⟩:=w.ME;obtain⟨a,xs,rfl,hq,hx⟩:=Aa (jS R p qd) qs;by_cases hn:ds.length=n
 ·rw[if_pos hn] at w;exact⟨a,xs,rfl,hq.1,hx.length.trans hn,h B H0 O σ H ρ xs ds Q R hx w⟩
 ·rw[if_neg hn] at w;exact w.elim
inductive Fl where
 |nx (ρ:aI)
 |rt (rv:RV)
 |bk (ρ:aI)
 |ct (ρ:aI)
abbrev FS:=aI->Res Fl
def T3 (K:Lc) (B:bu) (H0:Hp) (O:bu) (H:Hp) (D:Ends):Fl->Prop
 | .nx ρ'=>∀O' σ' H',Ev O H O' H'->Rl K B H0 O' σ' H' ρ'->D.nx σ' H'
 | .bk ρ'=>∀O' σ' H',Ev O H O' H'->Rl K B H0 O' σ' H' ρ'->D.bk σ' H'
 | .ct ρ'=>∀O' σ' H',Ev O H O' H'->Rl K B H0 O' σ' H' ρ'->D.ct σ' H'
 | .rt rv=>Fin B K H0 D.rt rv
def SO (K:Lc) (E:XK) (t:TS) (g:FS):Prop:=
 ∀(B:bu) (H0:Hp) (O:bu) (σ:St) (H:Hp) (ρ:aI) (D:Ends),Rl K B H0 O σ H ρ->WR K E B H0 (T3 K B H0 O H D) (g ρ)->t D σ H
theorem T3.ev {D:Ends} (e:Ev O H O1 H1) (h:T3 K B H0 O H D fl):T3 K B H0 O1 H1 D fl:=by
 cases fl with
 |nx ρ'=>exact fun O' σ' H' e' R'=>h O' σ' H' (e.trans e') R'
 |bk ρ'=>exact fun O' σ' H' e' R'=>h O' σ' H' (e.trans e') R'
 |ct ρ'=>exact fun O' σ' H' e' R'=>h O' σ' H' (e.trans e') R'
 |rt rv=>exact h
noncomputable def bU:FS:=fun ρ=> .ok (.nx ρ)
noncomputable def aA (f g:FS):FS:=fun ρ=>(f ρ).bind fun fl=>match fl with
 | .nx ρ1=>g ρ1
 |fl=> .ok fl
noncomputable def cH (f:FE):FS:=fun ρ=>(f ρ).bind fun a=> .ok (.nx a.2)
noncomputable def aR (f:FE) (g:FG):FS:=fun ρ=>(f ρ).bind fun a=>(g a.1 a.2).bind fun ρ1=> .ok (.nx ρ1)
noncomputable def jo (c:FT) (f g:FS):FS:=fun ρ=>(c ρ).bind fun a=>if a.1=Lk then f a.2 else g a.2
noncomputable def zb (ρ:aI):PV->Option RV
 | .fz d=>lD (.fz d)
 | .ow ds=>lD (.ow ds)
 | .pl i=>match ρ[i]? with
  |some (lD (.fz d))=>lD (.fz d)
  |some (lD (.ow ds))=>lD (.ow ds)
  |_=>Ld
noncomputable def cE (f:FE):FS:=fun ρ=>(f ρ).bind fun a=>(Res.ME (zb a.2 a.1)).bind fun rv=> .ok (.rt rv)
theorem hW:SO K E zT bU:=fun B H0 O σ H ρ D R w=>w O σ H .refl R
theorem aC (h1:SO K E t f) (h2:SO K E u g):SO K E (GF t u) (aA f g):=by
 intro B H0 O σ H ρ D R w;refine h1 B H0 O σ H ρ {D with nx:=u D} R (WR.imp (WR.bind w) fun fl w1=> ?_);cases fl with
 |nx ρ1=>exact fun O1 σ1 H1 e1 R1=>h2 B H0 O1 σ1 H1 ρ1 D R1 (WR.imp w1 fun fl q=>q.ev e1)
 |rt rv=>exact w1
 |bk ρ1=>exact w1
 |ct ρ1=>exact w1
theorem xL (h:EO K E t f):SO K E (zt t) (cH f):=by intro B H0 O σ H ρ D R w;exact h B H0 O σ H ρ _ R (w.bind.imp fun a w1 O1 x H1 e1 R1 p1=>w1 O1 σ H1 e1 R1)
theorem dQ (h:EO K E t f) (hg:GO K E g fg):SO K E (Gs t g) (aR f fg):=by intro B H0 O σ H ρ D R w;refine h B H0 O σ H ρ _ R (w.bind.imp fun a w1 O1 x H1 e1 R1 p1=> ?_);exact hg B H0 O1 σ H1 a.2 x a.1 _ R1 p1 (w1.bind.imp fun ρ1 w2 O2 σ2 H2 e2 R2=>w2 O2 σ2 H2 (e1.trans e2) R2)
theorem mX (hc:SE K E c fc) (h1:SO K E t f) (h2:SO K E u g):SO K E (FZ c t u) (jo fc f g):=by
 intro B H0 O σ H ρ D R w;refine hc B H0 O σ H ρ _ R (w.bind.imp fun a w1 O1 H1 e1 R1=> ?_);obtain⟨b,ρ1⟩:=a;cases b with
 |true=>exact h1 B H0 O1 σ H1 ρ1 D R1 (WR.imp w1 fun fl q=>q.ev e1)
 |false=>exact h2 B H0 O1 σ H1 ρ1 D R1 (WR.imp w1 fun fl q=>q.ev e1)
theorem F1 {pv:PV} (R:Rl K B H0 O σ H ρ) (p:Qd K H0 O σ H ρ v pv) (e:zb ρ pv=lD rv) (w:Fin B K H0 Q rv):Q v H:=by
 have ow:∀{a:Lp} {vs:List V} {ds:List D},O a->H0 a=Ld->H a=lD (.lst vs)->Nc O K H vs ds->Fin B K H0 Q (.ow ds)->Q (.ref a) H:=fun{a vs ds} h1 h2 h3 h4 w=>
  w a vs H R.same h2 h3 (h4.ev (Ev.sub fun b z=>z.elim (R.bo b) fun e=>by rw[e];exact h1))
 have fz:∀{d:D},DV O K H v d->Fin B K H0 Q (.fz d)->Q v H:=fun{d} h w=>w v H R.same (h.ev (Ev.sub R.bo));cases pv with
 |fz d=>cases e;exact fz p w
 |ow ds=>cases e;obtain⟨a,vs,rfl,h1,h2,h3,h4,h5⟩:=p;exact ow h1 h2 h3 h4 w
 |pl i=>
  have p':=p;unfold zb at e;dsimp only at e;cases q:ρ[i]? with
  |none=>rw[q] at e;cases e
  |some o=>
   cases o with
   |none=>rw[q] at e;cases e
   |some x=>
    obtain⟨u,g1,g2⟩:=R.slot i x q;rw[p'] at g1;cases g1;rw[q] at e;cases x with
    |fz d=>cases e;exact fz g2 w
    |ow ds=>cases e;obtain⟨a,vs,rfl,h1,h2,h3,h4⟩:=g2;exact ow h1 h2 h3 h4 w
    |pl j=>exact g2.elim
theorem cO (h:EO K E t f):SO K E (Ib t) (cE f):=by intro B H0 O σ H ρ D R w;refine h B H0 O σ H ρ _ R (w.bind.imp fun a w1 O1 x H1 e1 R1 p1=> ?_);obtain⟨rv,q,w1⟩:=w1.ME;exact F1 R1 p1 q w1
def pW (K:Lc) (J:It) (O:bu) (H:Hp) (ds:List D):Prop:=∀O' H',Ev O H O' H'->k9 O' H'->
 (∀i,i<ds.length->J.go i H'/\∀x Ul,J.Xp i H' x Ul->Nk H' Ul/\∃d,ds[i]? =lD d/\DV O' K Ul x d)/\J.stop ds.length H'
abbrev FI:=aI->Res (List D×aI)
def IO (K:Lc) (E:XK) (wi:TI) (fi:FI):Prop:=
 ∀(B:bu) (H0:Hp) (O:bu) (σ:St) (H:Hp) (ρ:aI) (R':It->Hp->Prop),Rl K B H0 O σ H ρ->WR K E B H0 (fun r=>∀O' J H',Ev O H O' H'->Rl K B H0 O' σ H' r.2->pW K J O' H' r.1->R' J H') (fi ρ)->wi σ H R'
noncomputable def tQ (gt:FG) (b:FS):List D->FS
 |[],ρ=> .ok (.nx ρ)
 |d::r,ρ=>(gt (.fz d) ρ).bind fun ρ1=>(b ρ1).bind fun fl=>match fl with
  | .nx ρ2=>tQ gt b r ρ2
  | .ct ρ2=>tQ gt b r ρ2
  | .bk ρ2=> .ok (.nx ρ2)
  | .rt rv=> .ok (.rt rv)
noncomputable def dW (fi:FI) (gt:FG) (b:FS):FS:=fun ρ=>(fi ρ).bind fun a=>tQ gt b a.1 a.2
theorem rC (hi:IO K E wi fi) (hg:GO K E g gt) (hb:SO K E tb b):SO K E (Bm wi g tb) (dW fi gt b):=by
 intro B H0 O σ H ρ D R w;refine hi B H0 O σ H ρ _ R (w.bind.imp fun a w1 O1 J H1 e1 R1 it=> ?_);obtain⟨ds,ρ1⟩:=a;dsimp only at w1 it R1;refine⟨fun i m σ' H'=>m=ds.length - i/\i<=ds.length/\∃O2 ρ2,Ev O1 H1 O2 H'/\Rl K B H0 O2 σ' H' ρ2/\WR K E B H0 (T3 K B H0 O H D) (tQ gt b (ds.drop i) ρ2),⟨_,rfl,Mr _,O1,ρ1,.refl,R1,w1⟩,?_⟩;rintro i m σ2 H2 ⟨rfl,hi,O2,ρ2,e2,R2,w2⟩;obtain⟨go,stop⟩:=it O2 H2 e2 R2.od;by_cases Pm:i<ds.length
 ·obtain⟨g1,g2⟩:=go i Pm
  refine .inr ⟨g1,fun σ' H'=>i+1<=ds.length/\∃O2 ρ2,Ev O1 H1 O2 H'/\Rl K B H0 O2 σ' H' ρ2/\WR K E B H0 (T3 K B H0 O H D) (tQ gt b (ds.drop (i+1)) ρ2),fun σ' H' ⟨h1,h2⟩=>⟨ds.length - (i+1),by omega,rfl,h1,h2⟩,fun x H3 y=> ?_⟩;obtain⟨s3,d,hd,dv⟩:=g2 x H3 y;have ed:ds.drop i=d::ds.drop (i+1):=by obtain⟨_,q⟩:=Lj.mp hd;rw[MO Pm,q]
  rw[ed] at w2;have e3:Ev O2 H2 O2 H3:=Ev.grow s3;refine hg B H0 O2 σ2 H3 ρ2 x (.fz d) _ (R2.grow s3) dv (WR.imp (WR.bind w2) fun ρ3 w3 O4 σ4 H4 e4 R4=> ?_);have ZU:=e2.trans (e3.trans e4);refine hb B H0 O4 σ4 H4 ρ3 _ R4 (WR.imp (WR.bind w3) fun fl w4=> ?_);cases fl with
  |nx ρ5=>exact fun O5 σ5 H5 e5 R5=>⟨Pm,O5,ρ5,ZU.trans e5,R5,w4⟩
  |ct ρ5=>exact fun O5 σ5 H5 e5 R5=>⟨Pm,O5,ρ5,ZU.trans e5,R5,w4⟩
  |bk ρ5=>exact fun O5 σ5 H5 e5 R5=>w4 O5 σ5 H5 (e1.trans (ZU.trans e5)) R5
  |rt rv=>exact w4
 ·have e:i=ds.length:=by omega
  subst e;rw[Nb (Ll _)] at w2;exact .inl ⟨stop,w2 O2 σ2 H2 (e1.trans e2) R2⟩
noncomputable def fF:D->Option (List D)
 | .tuple ds=>lD ds
 | .list ds=>lD ds
 |_=>Ld
def xz (K:Lc) (tl:TE):TI:=fun σ H R=>tl σ H fun x H1=>∃a,x= .ref a/\(((∃xs,Ql K H1 a xs)/\R (Ko K a) H1)\/((∃xs,P9 K H1 a xs)/\R (J9 K a) H1))
theorem gS (hl:PE X l tl):PI X tg l (xz X.K tl):=by
 intro pins s σ H R I h;refine ce (hl pins s σ H _ I h) fun v s1 ⟨x,H1,I1,r1,q1⟩=> ?_;obtain⟨a,e,q⟩:=q1;subst e;cases r1;rcases q with⟨⟨xs,hq⟩,q⟩|⟨⟨xs,hq⟩,q⟩
 ·obtain⟨MD,rv,p,hz⟩:=I1.list hq
  refine Pl p.isList ?_;refine⟨s1.heap.objs.size,[s1.heap.objs.size],_,_,H1,rfl,I1.kept fun b o e=>Heap.get?_push_of_some _ e,zc a _,⟨_,Heap.get?_push_size _ rfl,rfl,rfl⟩,fun b hb=> ?_,q⟩;have e:b=s1.heap.objs.size:=by simpa using hb
  subst e;exact I1.TQ (Ll _) (I1.NO.fresh (Ll _))
 ·obtain⟨MD,rv,p,hz⟩:=I1.tuple hq
  refine TF (show s1.heap.IsTuple a MD.toArray from p) ?_;refine⟨s1.heap.objs.size,[s1.heap.objs.size],_,_,H1,rfl,I1.kept fun b o e=>Heap.get?_push_of_some _ e,vn a _,⟨_,Heap.get?_push_size _ rfl,rfl,rfl⟩,fun b hb=> ?_,q⟩;have e:b=s1.heap.objs.size:=by simpa using hb
  subst e;exact I1.TQ (Ll _) (I1.NO.fresh (Ll _))
theorem vZ (h:R8 O K H a xs) (hd:Nc O K H xs ds):pW K (Ko K a) O H ds:=by intro O' H' e n;have h':=h.ev e;have U7:=hd.ev e;refine⟨fun i hi=> ?_,⟨xs,h'.1.sq,by rw[hd.length];exact Ll _⟩⟩;obtain⟨x,hx,_⟩:=U7.get (LB hi);refine⟨⟨xs,x,h'.1.sq,hx⟩,?_⟩;rintro y Ul ⟨rfl,hy⟩;obtain⟨d,q1,q2⟩:=U7.UD (hy xs h'.1.sq);exact⟨Nk.refl _,d,q1,q2⟩
theorem C0 (h:QG O K H a xs) (hd:Nc O K H xs ds):pW K (J9 K a) O H ds:=by intro O' H' e n;have h':=h.ev e;have U7:=hd.ev e;refine⟨fun i hi=> ?_,⟨xs,h'.1,by rw[hd.length];exact Ll _⟩⟩;obtain⟨x,hx,_⟩:=U7.get (LB hi);refine⟨⟨xs,x,h'.1,hx⟩,?_⟩;rintro y Ul ⟨rfl,hy⟩;obtain⟨d,q1,q2⟩:=U7.UD (hy xs h'.1);exact⟨Nk.refl _,d,q1,q2⟩
noncomputable def gX (fe:FE):FI:=fun ρ=>(fe ρ).bind fun a=>(Res.ME (uu a.2 a.1)).bind fun b=>(Res.ME (fF b.1)).bind fun ds=> .ok (ds,b.2)
theorem jD (h:EO K E tl fe):IO K E (xz K tl) (gX fe):=by
 intro B H0 O σ H ρ R' R w;refine h B H0 O σ H ρ _ R (w.bind.imp fun a w1 O1 x H1 e1 R1 p1=> ?_);obtain⟨⟨d,ρ2⟩,q,w1⟩:=w1.ME;obtain⟨O2,e2,R2,dv⟩:=oT R1 p1 q;obtain⟨ds,qs,w1⟩:=w1.ME;dsimp only at qs;cases dv with
 |tup h hs=>cases qs;exact⟨_,rfl,.inr ⟨⟨_,h.1⟩,w1 O2 _ H1 (e1.trans e2) R2 (C0 h hs)⟩⟩
 |lst h hs=>cases qs;exact⟨_,rfl,.inl ⟨⟨_,h.1.sq⟩,w1 O2 _ H1 (e1.trans e2) R2 (vZ h hs)⟩⟩
 |_=>cases qs
noncomputable def cG (lo:Int) (n:Nat):List D:=(Me n).map fun(k:Nat)=> .int (lo+(k:Int))
theorem tS:pW K (IC lo n) O H (cG lo n):=by
 intro O' H' e nn;have hl:(cG lo n).length=n:=by unfold cG;rw[Lh,L8]
 refine⟨fun i hi=> ?_,by show n<=_;rw[hl];exact Ll _⟩;rw[hl] at hi;refine⟨hi,?_⟩;rintro x Ul ⟨rfl,rfl⟩;exact⟨Nk.refl _,.int (lo+i),by unfold cG;rw[Ls,List.getElem?_range hi];rfl,.int _⟩
def dL (i:Int):Prop:= -(2^62)<=i/\i<2^62
noncomputable instance (i:Int):Decidable (dL i):=by unfold dL;infer_instance
noncomputable def dZ:List D->Option (List D)
 |[.int j]=>if dL j then lD (cG 0 j.toNat) else Ld
 |_=>Ld
noncomputable def zI:List D->Option (List D)
 |[.int i,.int j]=>if dL i/\dL j then lD (cG i (j - i).toNat) else Ld
 |_=>Ld
noncomputable def gK (f:List D->Option (List D)) (fa:FA):FI:=fun ρ=>(fa ρ).bind fun a=>(Res.ME (rA a.2 a.1)).bind fun ds=>(Res.ME (f ds)).bind fun xs=> .ok (xs,a.2)
theorem lR (h:AO K E ta fa):IO K E (Fj ta) (gK dZ fa):=by
 intro B H0 O σ H ρ R' R w;refine h B H0 O σ H ρ _ R (w.bind.imp fun a w1 O1 vs H1 e1 R1 p1=> ?_);obtain⟨ds,q,w1⟩:=w1.ME;obtain⟨xs,qx,w1⟩:=w1.ME;have px:=rX R1 p1 q;unfold dZ at qx;split at qx
 ·rename_i j
  split at qx
  ·rename_i hj
   cases qx;cases px with
   |cons h1 h2=>cases h2;cases h1;exact⟨j,rfl,hj.1,hj.2,w1 O1 _ H1 e1 R1 tS⟩
  ·cases qx
 ·cases qx
theorem D8 (h:AO K E ta fa):IO K E (ET ta) (gK zI fa):=by
 intro B H0 O σ H ρ R' R w;refine h B H0 O σ H ρ _ R (w.bind.imp fun a w1 O1 vs H1 e1 R1 p1=> ?_);obtain⟨ds,q,w1⟩:=w1.ME;obtain⟨xs,qx,w1⟩:=w1.ME;have px:=rX R1 p1 q;unfold zI at qx;split at qx
 ·rename_i i j
  split at qx
  ·rename_i hj
   cases qx;cases px with
   |cons h1 h2=>
    cases h2 with
    |cons h2 h3=>cases h3;cases h1;cases h2;exact⟨i,j,rfl,⟨hj.1.1,hj.1.2,hj.2.1,hj.2.2⟩,w1 O1 _ H1 e1 R1 tS⟩
  ·cases qx
 ·cases qx
end
section
variable {K:Lc} {E:XK} {B O O':bu} {H0 H H':Hp} {σ:St} {ρ ρ':aI} {v:V}
noncomputable def AQ:Option PV->Option PV
 |some (.fz d)=>lD (.fz d)
 |_=>Ld
noncomputable def cP (ρ:aI):aI:=ρ.map AQ
theorem vC {i:Nat} (h:(cP ρ)[i]? =lD (lD x)):∃d,x= .fz d/\ρ[i]? =lD (lD (.fz d)):=by
 unfold cP at h;rw[Ls] at h;cases q:ρ[i]? with
 |none=>rw[q] at h;cases h
 |some o=>
  rw[q] at h;have h':=LZ h;unfold AQ at h';split at h'
  ·cases h';exact⟨_,rfl,rfl⟩
  ·cases h'
noncomputable def oH (ρ:aI):List Nat->Option (List D×aI)
 |[]=>lD ([],ρ)
 |j::r=>match uu ρ (.pl j) with
  |some (d,ρ1)=>(match oH ρ1 r with
   |some (c,ρ2)=>lD (d::c,ρ2)
   |none=>Ld)
  |none=>Ld
theorem yr (R:Rl K B H0 O σ H ρ) (h:uu ρ (.pl i)=lD (d,ρ')):∃v,σ[i]? =lD (lD v):=by
 have e':J4 ρ i ρ[i]? =lD (d,ρ'):=h;cases q:ρ[i]? with
 |none=>rw[q] at e';cases e'
 |some o=>
  cases o with
  |none=>rw[q] at e';cases e'
  |some x=>obtain⟨v,g1,_⟩:=R.slot i x q;exact⟨v,g1⟩
theorem tf:∀{fv:List Nat} {ds:List D} {O:bu} {ρ ρ':aI},Rl K B H0 O σ H ρ->oH ρ fv=lD (ds,ρ')->∃O' vs,Ev O H O' H/\Rl K B H0 O' σ H ρ'/\Nc O' K H vs ds/\fv.map (fun j=>(σ[j]?).join)=vs.map lD
 |[],_,O,_,_,R,e=>by cases e;exact⟨O,[],.refl,R,.nil,rfl⟩
 |j::r,_,O,ρ,ρ',R,e=>by
  unfold oH at e;cases q:uu ρ (.pl j) with
  |none=>rw[q] at e;cases e
  |some p=>
   obtain⟨d,ρ1⟩:=p;rw[q] at e;dsimp only at e;cases q2:oH ρ1 r with
   |none=>rw[q2] at e;cases e
   |some p2=>obtain⟨c,ρ2⟩:=p2;rw[q2] at e;cases e;obtain⟨v,hv⟩:=yr R q;obtain⟨O1,e1,R1,d1⟩:=oT (pv:= .pl j) R hv q;obtain⟨O2,vs,e2,R2,d2,h2⟩:=tf R1 q2;exact⟨O2,v::vs,e1.trans e2,R2,.cons (d1.ev e2) d2,by rw[Lo,Lo,h2,hv];rfl⟩
noncomputable def dC (gt:FG) (ft:FT) (fe:FE):List D->aI->List D->Res (List D)
 |[],_,acc=> .ok acc
 |d::r,ρ,acc=>(gt (.fz d) ρ).bind fun ρ1=>(ft ρ1).bind fun b=>if b.1=Lk then(fe b.2).bind fun a=>(Res.ME (uu a.2 a.1)).bind fun x=>
   if acc.length<1000000 then dC gt ft fe r (cP x.2) (acc++[x.1]) else .bad
  else dC gt ft fe r (cP b.2) acc
noncomputable def kz:Res α->Res α
 | .er _=> .bad
 |r=>r
noncomputable def iB (n:Nat) (fv:List Nat) (fi:FI) (gt:FG) (ft:FT) (fe:FE):FE:=fun ρ=>(fi ρ).bind fun a=>(Res.ME (oH a.2 fv)).bind fun c=>
 (kz (dC gt ft fe a.1 (Lq n Ld++c.1.map fun d=>lD (.fz d)) [])).bind fun xs=> .ok (.ow xs,c.2)
theorem vY {own:List Str} (h:own.length=n):own.map (fun _=>(Ld:Option V))=Lq n Ld:=by
 subst h
 induction own with
 |nil=>rfl
 |cons x r ih=>rw[Lo,ih,Lu,Mz]
theorem yd (h:WR K E B H0 P (kz r)):∃a,r= .ok a/\P a:=by
 cases r with
 |ok a=>exact⟨a,rfl,h⟩
 |er x=>exact h.elim
 |bad=>exact h.elim
def JD (K:Lc) (J:It) (O:bu) (H:Hp) (ds:List D):Prop:=∀O' H',Ev O H O' H'->Nk H H'->k9 O' H'->
 (∀i,i<ds.length->J.go i H'/\∀x Ul,J.Xp i H' x Ul->Nk H' Ul/\∃d,ds[i]? =lD d/\DV O' K Ul x d)/\J.stop ds.length H'
def Kn (K:Lc) (E:XK) (wi:TI) (fi:FI):Prop:=
 ∀(B:bu) (H0:Hp) (O:bu) (σ:St) (H:Hp) (ρ:aI) (R':It->Hp->Prop),Rl K B H0 O σ H ρ->WR K E B H0 (fun r=>∀O' J H',Ev O H O' H'->Rl K B H0 O' σ H' r.2->JD K J O' H' r.1->R' J H') (fi ρ)->wi σ H R'
theorem IO.s (h:IO K E wi fi):Kn K E wi fi:=fun B H0 O σ H ρ R' R w=>h B H0 O σ H ρ R' R (w.imp fun r q O' J H' e R it=>q O' J H' e R fun O2 H2 e2 _ n=>it O2 H2 e2 n)
theorem ui (hn:own.length=n) (hf:fv.map (·.2)=fj)
  (hi:Kn K E wi fi) (hg:GO K E0 g gt) (ht:SE K E0 tc ft) (he:EO K E0 te fe):EO K E (oG own fv wi g tc te) (iB n fj fi gt ft fe):=by
 intro B H0 O σ H ρ Q R w;refine hi B H0 O σ H ρ _ R (w.bind.imp fun a w1 O1 J H1 e1 R1 it=> ?_);obtain⟨ds,ρ1⟩:=a;obtain⟨⟨cs,ρ2⟩,qc,w1⟩:=w1.ME;dsimp only at qc it;obtain⟨O2,vs,e2,R2,Tx,YZ⟩:=tf R1 qc;obtain⟨xs,qx,w1⟩:=yd (WR.bind w1);intro Dd Wk;have hB:∀{H':Hp},Nk H1 H'->H' Dd≠Ld->∀a,bC O2 Dd a->H' a≠Ld:=fun{H'} s nd a h z=>h.elim (fun q=>R2.od a (s.free z) q) fun e=>nd (by rw[<-e];exact z);refine⟨fun i m σ' H'=>m=ds.length - i/\i<=ds.length/\∃(acc:List D) (ys:List V) (ρc:aI),Nk H1 H'/\H' Dd=lD (.lst ys)/\Nc (bC O2 Dd) K H' ys acc/\σ'.length=ρc.length/\(∀(j:Nat) (x:PV),ρc[j]? =lD (lD x)->∃d u,x=PV.fz d/\σ'[j]? =lD (lD u)/\DV (bC O2 Dd) K H' u d)/\dC gt ft fe (ds.drop i) ρc acc= .ok xs,
  ⟨_,rfl,Mr _,[],[],_,cc Wk _,aB,.nil,?_,fun j x hx=> ?_,qx⟩,?_⟩
 ·unfold dY;rw[Ln,Ln,Lh,Lh,LI,Lh,hn,<-Tx.length];have:=congrArg NP YZ;rw[Lh,Lh,<-hf,Lh] at this;omega
 ·have hm:fv.map (fun p=>(σ[p.2]?).join)=vs.map lD:=by rw[<-YZ,<-hf,Mq];rfl
  unfold dY;rw[vY hn,hm];by_cases hj:j<n
  ·rw[LK (by rw[LI];exact hj),NL,if_pos hj] at hx;cases hx
  ·rw[LX (by rw[LI];omega),LI,Ls] at hx⊢
   cases qd:cs[j - n]? with
   |none=>rw[qd] at hx;cases hx
   |some d=>rw[qd] at hx;cases hx;obtain⟨u,hu,du⟩:=Tx.get qd;exact⟨d,u,rfl,by rw[hu];rfl,du.ev (Ev.add (cc Wk _) Wk)⟩
 ·rintro i m σ' H' ⟨rfl,hi,acc,ys,ρc,s,hD,Y5,hl,VF,qP⟩
  have nD:H' Dd≠Ld:=by rw[hD];simp
  have no':=fun a z h=>hB s nD a h z;have ZI:=e2.trans (Ev.add s Wk);obtain⟨go,stop⟩:=it (bC O2 Dd) H' ZI s no';by_cases Pm:i<ds.length
  ·obtain⟨g1,g2⟩:=go i Pm
   refine .inr ⟨g1,fun σ5 H5=>i+1<=ds.length/\∃(acc:List D) (ys:List V) (ρc:aI),Nk H1 H5/\H5 Dd=lD (.lst ys)/\Nc (bC O2 Dd) K H5 ys acc/\σ5.length=ρc.length/\(∀(j:Nat) (x:PV),ρc[j]? =lD (lD x)->∃d u,x=PV.fz d/\σ5[j]? =lD (lD u)/\DV (bC O2 Dd) K H5 u d)/\dC gt ft fe (ds.drop (i+1)) ρc acc= .ok xs,
    fun σ5 H5 ⟨h1,h2⟩=>⟨ds.length - (i+1),by omega,rfl,h1,h2⟩,fun x H3 y=> ?_⟩
   obtain⟨s3,d,hd,dv⟩:=g2 x H3 y;have ed:ds.drop i=d::ds.drop (i+1):=by obtain⟨_,q⟩:=Lj.mp hd;rw[MO Pm,q]
   rw[ed] at qP;have hD3:=s3 _ _ hD;have nD3:H3 Dd≠Ld:=by rw[hD3];simp
   have sv:=s.trans s3;have RC:Rl K (bC O2 Dd) H3 (bC O2 Dd) σ' H3 ρc:=⟨Nk.refl _,fun _ h=>h,hB sv nD3,fun a z h=>hB sv nD3 a h z,hl,fun j x hx=>by obtain⟨d,u,rfl,h1,h2⟩:=VF j x hx;exact⟨u,h1,h2.ev (Ev.grow s3)⟩,fun j k xs ys w hj=>by obtain⟨d,u,e,_⟩:=VF j _ hj;cases e⟩;unfold dC at qP;have back:∀{O5:bu} {σ5:St} {H5:Hp} {ρ5:aI} {H6:Hp},Rl K (bC O2 Dd) H3 O5 σ5 H5 ρ5->(∀b o,b≠Dd->H5 b=lD o->H6 b=lD o)->σ5.length=(cP ρ5).length/\∀(j:Nat) (x:PV),(cP ρ5)[j]? =lD (lD x)->∃d u,x=PV.fz d/\σ5[j]? =lD (lD u)/\DV (bC O2 Dd) K H6 u d:=fun{O5 σ5 H5 ρ5 H6} R5 k=>by refine⟨by unfold cP;rw[Lh];exact R5.len,fun j x hx=> ?_⟩;obtain⟨d,rfl,hxx⟩:=vC hx;obtain⟨u,h1,h2⟩:=R5.slot j _ hxx;refine⟨d,u,rfl,h1,DV.ev (fun b o h n=>⟨k b o (fun e=>n (.inr e)) h,n⟩) (DV.ev (Ev.sub R5.bo) h2)⟩
   refine hg _ _ _ σ' H3 ρc x (.fz d) _ RC dv ?_;cases qg:gt (.fz d) ρc with
   |er z=>rw[qg] at qP;cases qP
   |bad=>rw[qg] at qP;cases qP
   |ok ρ3=>
    rw[qg,Res.bind_ok] at qP;intro O4 σ4 H4 e4 R4;refine ht _ _ _ σ4 H4 ρ3 _ R4 ?_;cases qt:ft ρ3 with
    |er z=>rw[qt] at qP;cases qP
    |bad=>rw[qt] at qP;cases qP
    |ok b=>
     obtain⟨b,ρ4⟩:=b;rw[qt,Res.bind_ok] at qP;intro O5 H5 e5 R5;cases b with
     |false=>rw[if_neg LA] at qP⊢;obtain⟨l5,k5⟩:=back R5 fun b o _ h=>h;refine⟨Pm,acc,ys,cP ρ4,sv.trans R5.same,R5.same _ _ hD3,?_,l5,k5,qP⟩;exact Y5.ev (Ev.grow (s3.trans R5.same))
     |true=>
      rw[if_pos rfl] at qP⊢;refine he _ _ _ σ4 H5 ρ4 _ R5 ?_;cases qe:fe ρ4 with
      |er z=>rw[qe] at qP;cases qP
      |bad=>rw[qe] at qP;cases qP
      |ok r=>
       rw[qe,Res.bind_ok] at qP;intro O6 yv H6 e6 R6 p6;cases q7:uu r.2 r.1 with
       |none=>rw[q7] at qP;cases qP
       |some xr=>
        obtain⟨xd,ρ7⟩:=xr;rw[q7] at qP;obtain⟨O7,e7,R7,dv7⟩:=oT R6 p6 q7;have hD7:=R7.same _ _ hD3;have Zv:(if acc.length<1000000 then dC gt ft fe (ds.drop (i+1)) (cP ρ7) (acc++[xd]) else .bad)= .ok xs:=qP;by_cases WO:acc.length<1000000
        ·rw[if_pos WO] at Zv
         have up:∀b o,b≠Dd->H6 b=lD o->upd H6 Dd (.lst (ys++[yv])) b=lD o:=fun b o hb h=>by rw[az hb];exact h
         have evD:Ev (bC O2 Dd) H6 (bC O2 Dd) (upd H6 Dd (.lst (ys++[yv]))):=fun b o h n=>⟨up b o (fun e=>n (.inr e)) h,n⟩;have ZF:=Y5.ev (Ev.grow (s3.trans R7.same));obtain⟨l5,k5⟩:=back R7 up;refine⟨ys,hD7,um (by rw[Y5.length];exact WO),Pm,acc++[xd],ys++[yv],cP ρ7,fun b o h=> ?_,aB,?_,l5,k5,Zv⟩
         ·rw[az (bX h Wk)];exact R7.same _ _ (sv _ _ h)
         ·exact(ZF.append (.cons (DV.ev (Ev.sub R7.bo) dv7) .nil)).ev evD
        ·rw[if_neg WO] at Zv;cases Zv
  ·have e:i=ds.length:=by omega
   subst e;rw[Nb (Ll _)] at qP;have qP:=qP;cases qP;refine .inl ⟨stop,?_⟩;refine w1 (bC O2 Dd) (.ref Dd) H' (e1.trans ZI) (R2.add s Wk nD) ⟨Dd,ys,rfl,.inr rfl,R2.Wg Wk,hD,Y5,fun k es hk z=> ?_⟩;obtain⟨u,h1,b,us,e2,g1,g2,g3,g4⟩:=R2.slot k _ hk;rw[z] at h1;cases h1;cases e2;rw[Wk] at g3;cases g3
theorem lQ (hn:own.length=n) (hf:fv.map (·.2)=fj)
  (hi:IO K E wi fi) (hg:GO K E0 g gt) (ht:SE K E0 tc ft) (he:EO K E0 te fe):EO K E (oG own fv wi g tc te) (iB n fj fi gt ft fe):=ui hn hf hi.s hg ht he
noncomputable def GJ (ρ:aI):Option (Option PV)->Res (List D×aI)
 |some (lD (.ow ds))=> .ok (ds,ρ)
 |_=> .bad
noncomputable def B5 (i:Nat):FI:=fun ρ=>GJ ρ ρ[i]?
theorem tF:Kn K E (xz K (oi i)) (B5 i):=by
 intro B H0 O σ H ρ R' R w;unfold B5 at w;cases q:ρ[i]? with
 |none=>rw[q] at w;exact w.elim
 |some o=>
  cases o with
  |none=>rw[q] at w;exact w.elim
  |some x=>
   cases x with
   |fz d=>rw[q] at w;exact w.elim
   |pl j=>rw[q] at w;exact w.elim
   |ow ds=>rw[q] at w;obtain⟨v,h1,a,vs,rfl,g1,g2,g3,g4⟩:=R.slot i _ q;refine⟨_,h1,a,rfl,.inl ⟨⟨vs,Ql.of g3⟩,w O _ H .refl R fun O' H' e s n=> ?_⟩⟩;have k:=s _ _ g3;have d':=g4.ev e;refine⟨fun j hj=> ?_,⟨vs,Ql.of k,by rw[d'.length];exact Ll _⟩⟩;obtain⟨x,hx,_⟩:=d'.get (LB hj);refine⟨⟨vs,x,Ql.of k,hx⟩,?_⟩;rintro y Ul ⟨rfl,hy⟩;obtain⟨d,q1,q2⟩:=d'.UD (hy vs (Ql.of k));exact⟨Nk.refl _,d,q1,q2⟩
noncomputable def cn (F:FN) (n:Nat) (fa:FA):FE:=fun ρ=>(fa ρ).bind fun a=>(Res.ME (ni a.2 a.1)).bind fun b=>if b.1.length=n then(kz (F b.1)).bind fun rv=> .ok (rv.pv,b.2) else .bad
theorem kS (ha:AO K E ta fa):EO K E (oW (jM K n F) [] E0 ta) (cn F n fa):=by
 intro B H0 O σ H ρ Q R w;refine ha B H0 O σ H ρ _ R (w.bind.imp fun a w1 O1 vs H1 e1 R1 p1=> ?_);obtain⟨⟨ds,ρ2⟩,q,w2⟩:=w1.ME;obtain⟨O2,e2,R2,dv⟩:=pO R1 p1 q;dsimp only at w2;by_cases hn:ds.length=n
 ·rw[if_pos hn] at w2;obtain⟨rv,qF,w2⟩:=yd (WR.bind w2);rw[L6];refine⟨dv.length.trans hn,O2,ds,fun a z hz=>R2.od a hz z,dv,?_⟩;rw[qF];exact jI R2 fun O3 v H3 e3 R3 p3=>w2 O3 v H3 (e1.trans (e2.trans e3)) R3 p3
 ·rw[if_neg hn] at w2;exact w2.elim
end
noncomputable def d7 (N:Nat) (g:FS):FN:=fun ds=>(g (ds.map (fun d=>lD (.fz d))++Lq (N - ds.length) Ld)).bind fun fl=>match fl with
 | .rt rv=> .ok rv
 | .nx _=> .ok (.fz .none)
 |_=> .bad
theorem Bg (hb:∀a,B a->H a≠Ld) (dv:Nc B K H vs ds):Rl K B H B (L2.start N vs) H (ds.map (fun d=>lD (.fz d))++Lq (N.length - ds.length) Ld):=by
 have hl:=dv.length;refine⟨Nk.refl _,fun _ h=>h,hb,fun a z h=>hb a h z,?_,fun i x hx=> ?_,fun i j xs ys w hi=> ?_⟩
 ·unfold L2.start;rw[Ln,Ln,Lh,Lh,LI,LI,hl]
 all_goals
  have key:∀{i:Nat} {x:PV},(ds.map (fun d=>lD (PV.fz d))++Lq (N.length - ds.length) Ld)[i]? =lD (lD x)->∃d,x= .fz d/\ds[i]? =lD d:=fun{i x} h=>by
   by_cases hi:i<ds.length
   ·rw[LK (by rw[Lh];exact hi),Ls] at h
    cases q:ds[i]? with
    |none=>rw[q] at h;cases h
    |some d=>rw[q] at h;cases h;exact⟨d,rfl,rfl⟩
   ·rw[LX (by rw[Lh];omega),NL] at h;split at h<;>cases h
 ·obtain⟨d,rfl,hd⟩:=key hx;obtain⟨v,hv,h2⟩:=dv.get hd;refine⟨v,?_,h2⟩;have hi:=(Lj.mp hv).1;unfold L2.start;rw[LK (by rw[Lh];exact hi),Ls,hv];rfl
 ·obtain⟨d,e,_⟩:=key hi;cases e
theorem K1 (F:PY K x qual st f fd) (S:OM N ps (aF st)) (hn:ps.length=n)
  (Pu:∀(Ny:Lf) (A:L0) (outer:List Env) (s:Lm) (H:Hp) (E:XK),OG k (A.deeper (MB qual (aF st) s.heap.objs.size f Ny))->
   ∃t,Rq (lF fT P w K mg base N qual (aF st) f Ny A outer s H E).Vx (bZ st) t/\SO K E t g):FnOk P w K mg base fT (k+1) f fd ps (jM K n (d7 N.length g)):=by
 refine F.ok S (fun vs H Q E h=>h.1.trans hn.symm) (fun Ny A outer s H vs Q E hr h=> ?_);obtain⟨t,ht,hs⟩:=Pu Ny A outer s H E hr;obtain⟨hl,B,ds,hb,dv,h⟩:=h;refine⟨t,ht,hs B H B _ H _ _ (Bg hb dv) (WR.imp (WR.bind h) fun fl q=> ?_)⟩;cases fl with
 |rt rv=>exact q
 |nx ρ=>exact fun O' σ' H' e R=>q .ON H' R.same .ON
 |bk ρ=>exact q.elim
 |ct ρ=>exact q.elim
end L3
namespace L3
open PySem PySem.Spec PyProof.Rows L2
theorem OpR.or (h:OpR X f r) (h':OpR X f r'):OpR X f (fun x y H Q=>r x y H Q\/r' x y H Q):=by
 intro pins s σ H x y v u Q I rx ry q;rcases q with q|q
 ·exact h pins s σ H x y v u Q I rx ry q
 ·exact h' pins s σ H x y v u Q I rx ry q
theorem GW (I:Inv X pins σ H s) (h:O0 X.K H l xs):xs.length<=LL/\∃(MD:List Lf) (n:Nat),Vals xs MD/\xs.length=MD.length/\s.heap.get? l=lD {cls:= .type "list",data:= .seq MD.toArray n}:=by
 rcases h with(h|⟨o,h⟩)|⟨MD,n,h1,h2,h3⟩
 ·exact I.Yw h
 ·obtain⟨_,z,MD,n,r,e⟩:=I.NO l _ h;exact⟨z,MD,n,r,r.length,e⟩
 ·exact⟨h2,MD,n,h3,h3.length,I.T5 _ _ h1⟩
def FH (K:Lc):R2:=fun x y H Q=>∃l b xs zs,x= .ref l/\y= .ref b/\O0 K H l xs/\O0 K H b zs/\xs.length+zs.length<=LL/\∀p,H p=Ld->Q (.ref p) (upd H p (.lst (xs++zs)))
theorem DL:OpR X (Nl .Add) (FH X.K):=by
 intro pins s σ H x y v u Q I rx ry h;obtain⟨l,b,xs,zs,rfl,rfl,hH,hB,hz,q⟩:=h;cases rx;cases ry;obtain⟨z,MD,n,r,hl,e⟩:=GW I hH;obtain⟨z2,UG,n2,r2,hl2,e2⟩:=GW I hB;refine PySem.P.add_list e e2 ?_ (by rw[LC,LC];omega);have ea:MD.toArray++UG.toArray=(MD++UG).toArray:=by simp
 rw[ea];exact⟨.ref _,_,I.Yz (r.append r2) (by rw[Ln];omega),rfl,q _ I.fresh⟩
def Fb (K:Lc):R2:=fun x y H Q=>∃l k xs,x= .ref l/\y= .int k/\O0 K H l xs/\ -(2^63)<=k/\k<2^63/\xs.length*k.toNat<=LL/\
 ∀p,H p=Ld->Q (.ref p) (upd H p (.lst (Lq k.toNat xs).flatten))
theorem Df:OpR X (Nl .Mult) (Fb X.K):=by
 intro pins s σ H x y v u Q I rx ry h;obtain⟨l,k,xs,rfl,rfl,hH,h1,h2,hz,q⟩:=h;cases rx;obtain⟨t,rfl⟩:=ry;obtain⟨z,MD,n,r,hl,e⟩:=GW I hH;have hlen:MD.toArray.size*k.toNat<=LL:=by rw[LC,<-hl];exact hz
 have aaW:¬MD.toArray.size*k.toNat>(2^63 - 1)/8:=by
  have:(LL:Nat)<=(2^63 - 1)/8:=by decide
  omega
 have aay:¬(!LJ.List.listFitsIndex k)=Lk:=by rw[fitsIndex_both h1 h2];exact LA
 have Yy:¬LJ.List.listTooLong (MD.toArray.size*k.toNat)=Lk:=by rw[BX hlen];exact LA
 have TN:P0 (fun x1 x2=>x1++x2) #[] (Lq (if MD.toArray.isEmpty=Lk then 0 else k.toNat) MD.toArray)=(Lq k.toNat MD).flatten.toArray:=by
  have f0:=fun m=>by have:=kN MD m [];rw[Oh] at this;exact this
  rw[f0];cases MD with
  |nil=>simp
  |cons a r'=>rw[if_neg (by simp)]
 refine Tb (by decide) ⟨_,e,rfl⟩ (fun s'=>Ox s' k t) noFill_list_mul F.fills_int_mul F.slot_int_rmul repeat_list F.slot_int_index.lookup
  (Qt F.slot_int_rmul (Ox s k t) F.entry_int_rmul (F.args_int_rmul_2 _ _) (int___rmul___int_list k t l MD.toArray n)
   ⟨e,rfl,⟨_,e,rfl⟩,Qt F.slot_list_mul ⟨_,e,rfl⟩ F.entry_list_mul (F.args_list_mul_2 _ _) (AutoListH.list___mul___list_int_3 l MD.toArray n k t aay aaW Yy) ⟨e,?_⟩⟩)
 rw[TN];exact⟨.ref _,_,I.Yz (r.rep k.toNat) (by rw[wA,Nat.mul_comm];exact hz),rfl,q _ I.fresh⟩
section
variable {K:Lc}
noncomputable def fI (g:Int->Int->Int):D->D->Option RV
 | .int i,.int j=>lD (.fz (.int (g i j)))
 |_,_=>Ld
noncomputable def fB (g:Int->Int->Bool):D->D->Option RV
 | .int i,.int j=>lD (.fz (.bool (g i j)))
 |_,_=>Ld
noncomputable def Ja (C:Int->Int->Bool) (g:Int->Int->Int):D->D->Option RV
 | .int i,.int j=>if C i j=Lk then lD (.fz (.int (g i j))) else Ld
 |_,_=>Ld
theorem AW (h:fI g dx dy=lD rv):∃i j,dx= .int i/\dy= .int j/\rv= .fz (.int (g i j)):=by
 unfold fI at h;split at h
 ·cases h;exact⟨_,_,rfl,rfl,rfl⟩
 ·cases h
theorem Ix:lc K (vU fun i j=> .int (g i j)) (fI g):=by intro O H x y dx dy rv Q n hx hy e q;obtain⟨i,j,rfl,rfl,rfl⟩:=AW e;cases hx;cases hy;exact⟨i,j,rfl,rfl,q.at (.int _)⟩
theorem zz:lc K (vU fun i j=> .bl (g i j)) (fB g):=by
 intro O H x y dx dy rv Q n hx hy e q;unfold fB at e;split at e
 ·cases e;cases hx;cases hy;exact⟨_,_,rfl,rfl,q.at (.bl _)⟩
 ·cases e
theorem vP (hC:∀i j,C i j=Lk->C' i j):lc K (rI C' fun i j=> .int (g i j)) (Ja C g):=by
 intro O H x y dx dy rv Q n hx hy e q;unfold Ja at e;split at e
 ·split at e
  ·rename_i hc;cases e;cases hx;cases hy;exact⟨_,_,rfl,rfl,hC _ _ hc,q.at (.int _)⟩
  ·cases e
 ·cases e
theorem Cc (h:DX O K H x (.list ds)):∃a xs,x= .ref a/\O0 K H a xs/\Nc O K H xs ds:=h
theorem wM (h:DX O K H x (.tuple ds)):∃a xs,x= .ref a/\QG O K H a xs/\Nc O K H xs ds:=Aa h rfl
def CL (K:Lc):R2:=fun x y H Q=>vU (fun i j=> .int (i+j)) x y H Q\/FH K x y H Q\/EX K x y H Q
theorem g8:OpR X (Nl .Add) (CL X.K):=OpR.or Hv (OpR.or DL DN)
noncomputable def bI:D->D->Option RV
 | .int i,.int j=>lD (.fz (.int (i+j)))
 | .list xs,.list ys=>if xs.length+ys.length<=1000000 then lD (.ow (xs++ys)) else Ld
 | .tuple xs,.tuple ys=>if xs≠[]/\xs.length+ys.length<=1000000 then lD (.fz (.tuple (xs++ys))) else Ld
 |_,_=>Ld
theorem tZ (h:n<=1000000):n<=LL:=LF h (by decide)
theorem Nc.ne (h:Nc O K H vs ds):vs=[]↔ds=[]:=by cases h<;>simp
theorem hE:lc K (CL K) bI:=by
 intro O H x y dx dy rv Q n hx hy e q;unfold bI at e;split at e
 ·cases e;cases hx;cases hy;exact .inl ⟨_,_,rfl,rfl,q.at (.int _)⟩
 ·split at e
  ·rename_i hl;cases e;obtain⟨a,xs,rfl,h1,h2⟩:=Cc hx;obtain⟨b,ys,rfl,g1,g2⟩:=Cc hy;exact .inr (.inl ⟨a,b,xs,ys,rfl,rfl,h1,g1,tZ (by rw[h2.length,g2.length];exact hl),Fin.new (h2.append g2) q⟩)
  ·cases e
 ·split at e
  ·rename_i hl;cases e;obtain⟨a,xs,rfl,h1,h2⟩:=wM hx;obtain⟨b,ys,rfl,g1,g2⟩:=wM hy;refine .inr (.inr ⟨a,b,xs,ys,rfl,rfl,h1.1,g1.1,fun z=>hl.1 (h2.ne.mp z),tZ (by rw[h2.length,g2.length];exact hl.2),fun z=> ?_,fun _=>Fin.TK (h2.append g2) n q⟩);have z':=g2.ne.mp z;subst z';rw[L6] at q;exact q.at (.tup h1 h2)
  ·cases e
 ·cases e
def zE (K:Lc):R2:=fun x y H Q=>rI VZ (fun i j=> .int (i*j)) x y H Q\/Fb K x y H Q
theorem D4:OpR X (Nl .Mult) (zE X.K):=OpR.or FY Df
noncomputable def fq (i:Int):Bool:=decide (-(2^64)<i/\i<2^64)
theorem nJ (h:fq i=Lk): -(2^64)<i/\i<2^64:=of_decide_eq_true h
noncomputable def yI:D->D->Option RV
 | .int i,.int j=>if(fq i||fq j)=Lk then lD (.fz (.int (i*j))) else Ld
 | .list xs,.int k=>if xs.length*k.toNat<=1000000/\ -(2^63)<=k/\k<2^63 then lD (.ow (Lq k.toNat xs).flatten) else Ld
 |_,_=>Ld
theorem Eg:lc K (zE K) yI:=by
 intro O H x y dx dy rv Q n hx hy e q;unfold yI at e;split at e
 ·split at e
  ·rename_i hc
   cases e;cases hx;cases hy;refine .inl ⟨_,_,rfl,rfl,?_,q.at (.int _)⟩;rcases(Bool.or_eq_true _ _).mp hc with z|z
   ·exact .inl (nJ z)
   ·exact .inr (nJ z)
  ·cases e
 ·split at e
  ·rename_i hc;cases e;cases hy;obtain⟨a,xs,rfl,h1,h2⟩:=Cc hx;exact .inr ⟨a,_,xs,rfl,rfl,h1,hc.2.1,hc.2.2,tZ (by rw[h2.length];exact hc.1),Fin.new (h2.flat _) q⟩
  ·cases e
 ·cases e
noncomputable def nW:=fI fun i j=>i - j
theorem DD:lc K (vU fun i j=> .int (i - j)) nW:=Ix
noncomputable def Hg (_ j:Int):Bool:=decide (0<j)
noncomputable def bq:=Ja Hg fun i j=>i % j
theorem jP:lc K (rI (fun _ j=>0<j) fun i j=> .int (i % j)) bq:=vP fun i j h=>of_decide_eq_true h
noncomputable def Hc (_ j:Int):Bool:=decide (0<j/\j<2^128)
noncomputable def cm:=Ja Hc fun i j=>i/j
theorem rJ:lc K (rI (fun _ j=>0<j/\j.natAbs.log2<9000) fun i j=> .int (i/j)) cm:=vP fun i j h=>by
 have h':=of_decide_eq_true h;refine⟨h'.1,?_⟩;have h2:j.natAbs<2^128:=by have:=h'.2;omega
 have h3:=(Nat.log2_lt (by omega)).mpr h2;omega
noncomputable def CV (i j:Int):Bool:=decide (0<=j/\j<=1000000/\i.natAbs<2^64)
theorem Dz (i j:Int) (h:CV i j=Lk):Gq i j:=by unfold CV at h;exact(show 0<=j/\j<=1000000/\i.natAbs<2^64 from of_decide_eq_true h)
noncomputable def lw:=Ja CV fun i j=>i^j.toNat
theorem Ed:lc K (rI Gq fun i j=> .int (i^j.toNat)) lw:=vP Dz
noncomputable def Iu:=fB fun i j=>decide (i<j)
noncomputable def GG:=fB fun i j=>decide (j<i)
noncomputable def IK:=fB fun i j=>decide (j<=i)
theorem CP:lc K (vU fun i j=> .bl (decide (i<j))) Iu:=zz
theorem vN:lc K (vU fun i j=> .bl (decide (j<i))) GG:=zz
theorem Gk:lc K (vU fun i j=> .bl (decide (j<=i))) IK:=zz
noncomputable def C7 (d:D):Bool:=d.canLay0&&decide (d.depth<=64)
noncomputable def lA (d e:D):Option RV:=if(C7 d&&e.canLay0)=Lk then lD (.fz (.bool (Lg.eqv d e))) else Ld
noncomputable def Ct (d e:D):Option RV:=if(C7 d&&e.canLay0)=Lk then lD (.fz (.bool (!Lg.eqv d e))) else Ld
theorem sk:lc K (Ef K Lw) lA:=by
 intro O H x y dx dy rv Q n hx hy e q;unfold lA at e;split at e
 ·rename_i hc;cases e;unfold C7 at hc;simp only[LU,decide_eq_true_eq] at hc;exact⟨dx,dy,hx.plain,hy.plain,hc.1.1,hc.2,hc.1.2,q.at (.bl _)⟩
 ·cases e
theorem CU:lc K (Ef K Lk) Ct:=by
 intro O H x y dx dy rv Q n hx hy e q;unfold Ct at e;split at e
 ·rename_i hc;cases e;unfold C7 at hc;simp only[LU,decide_eq_true_eq] at hc;exact⟨dx,dy,hx.plain,hy.plain,hc.1.1,hc.2,hc.1.2,q.at (.bl _)⟩
 ·cases e
noncomputable def uV:D->D->Option RV
 | .none,.none=>lD (.fz (.bool Lk))
 |_,.none=>lD (.fz (.bool Lw))
 |_,_=>Ld
theorem Hn (h:DX O K H x d) (hd:d≠ .none):x≠ .ON:=by
 cases d with
 |none=>exact absurd rfl hd
 |list ds=>obtain⟨a,xs,rfl,_⟩:=Cc h;simp
 |tuple ds=>obtain⟨a,xs,rfl,_⟩:=wM h;simp
 |bool b=>cases h;simp
 |int b=>cases h;simp
 |str b=>cases h;simp
 |dict b=>cases h
theorem DA:lc K (fun x y H Q=>y= .ON/\Q (.bl (decide (x= .ON))) H) uV:=by
 intro O H x y dx dy rv Q n hx hy e q;unfold uV at e;split at e
 ·cases e;cases hx;cases hy;exact⟨rfl,q.at (.bl _)⟩
 ·rename_i hd;cases e;cases hy;refine⟨rfl,?_⟩;rw[decide_eq_false (Hn hx hd)];exact q.at (.bl _)
 ·cases e
def Jr (K:Lc) (neg:Bool):R2:=fun x y H Q=>∃d ds,L2.DV K H x d/\(L2.DV K H y (.list ds)\/L2.DV K H y (.tuple ds))/\d.canLay0=Lk/\Lg.canLayAll0 ds=Lk/\d.depth<=64/\Q (.bl (if neg then !(ds.any fun e=>Lg.eqv e d) else ds.any fun e=>Lg.eqv e d)) H
theorem w9 (hu:X.A.units+65<cLine):OpR X (NG .NotIn) (Jr X.K Lk):=by
 intro pins s σ H x y v u Q I rx ry h;obtain⟨d,ds,h1,h2,l1,l2,hd,q⟩:=h;obtain⟨as,r1⟩:=h1.reads I rx;have hm:min (Lg.depthAll ds) d.depth<=64:=LF (VH _ _) hd;rcases h2 with h2|h2
 ·obtain⟨bs,r2⟩:=h2.reads I ry;exact ZA r2 r1 l2 l1 (by omega) ⟨.bl _,H,I,rfl,q⟩
 ·obtain⟨bs,r2⟩:=h2.reads I ry;exact ZC r2 r1 l2 l1 (by omega) ⟨.bl _,H,I,rfl,q⟩
noncomputable def KT (d e:D):Option RV:=match fF e with
 |some ds=>if(C7 d&&Lg.canLayAll0 ds)=Lk then lD (.fz (.bool (ds.any fun e=>Lg.eqv e d))) else Ld
 |none=>Ld
noncomputable def EC (d e:D):Option RV:=match fF e with
 |some ds=>if(C7 d&&Lg.canLayAll0 ds)=Lk then lD (.fz (.bool (!ds.any fun e=>Lg.eqv e d))) else Ld
 |none=>Ld
theorem Gu (hy:DX O K H y e) (h:fF e=lD ds):L2.DV K H y (.list ds)\/L2.DV K H y (.tuple ds):=by
 unfold fF at h;split at h
 ·cases h;exact .inr hy.plain
 ·cases h;exact .inl hy.plain
 ·cases h
theorem wF:lc K (Jr K Lk) EC:=by
 intro O H x y dx dy rv Q n hx hy e q;unfold EC at e;split at e
 ·rename_i ds hs
  split at e
  ·rename_i hc;cases e;unfold C7 at hc;simp only[LU,decide_eq_true_eq] at hc;exact⟨dx,ds,hx.plain,Gu hy hs,hc.1.1,hc.2,hc.1.2,q.at (.bl _)⟩
  ·cases e
 ·cases e
noncomputable def eO (d e:D):Option RV:=match fF d,e with
 |some ds,.int i=>(oE ds i).map .fz
 |_,_=>Ld
theorem Cw (h:Nc O K H xs ds) (e:oE ds i=lD d):∃v,oE xs i=lD v/\DV O K H v d:=by
 unfold oE at e⊢;rw[h.length];cases q:HH ds.length i with
 |none=>rw[q] at e;cases e
 |some j=>rw[q] at e;exact h.get e
theorem i6:lc K (Kh K) eO:=by
 intro O H x y dx dy rv Q n hx hy e q;unfold eO at e;split at e
 ·rename_i ds i hs
  cases hy;cases qa:oE ds i with
  |none=>rw[qa] at e;cases e
  |some d=>
   rw[qa] at e;cases e;unfold fF at hs;split at hs
   ·cases hs;obtain⟨a,xs,rfl,h1,h2⟩:=wM hx;obtain⟨v,hv,dv⟩:=Cw h2 qa;exact .inr (.inl ⟨a,xs,i,v,rfl,rfl,h1.1,hv,q.at dv⟩)
   ·cases hs;obtain⟨a,xs,rfl,h1,h2⟩:=Cc hx;obtain⟨v,hv,dv⟩:=Cw h2 qa;exact .inl ⟨a,xs,i,v,rfl,rfl,h1.sq,hv,q.at dv⟩
   ·cases hs
 ·cases e
noncomputable def iq (xs:List D) (lo hi:Option Int):List D:=(xs.drop (HT.sIx xs.length 0 lo)).take (HT.sIx xs.length xs.length hi - HT.sIx xs.length 0 lo)
theorem Ad {lo hi:Option Int} (h:Nc O K H xs ds):Nc O K H (yR xs lo hi) (iq ds lo hi):=by unfold yR iq;rw[h.length];exact(h.drop _).take _
noncomputable def i4 (n:Nat) (lo hi:Option Int):Bool:=decide (HT.sIx n 0 lo=0/\HT.sIx n n hi=n)
def G9 (K:Lc):V->Option Int->Option Int->Hp->VK->Prop:=fun x lo hi H Q=>Je K x lo hi H Q\/Jp K x lo hi H Q
theorem uX:Iw X (G9 X.K):=by
 intro pins s σ H x v vl vu lo hi sl Q I rx hs pl pu h;rcases h with h|h
 ·exact D0 pins s σ H x v vl vu lo hi sl Q I rx hs pl pu h
 ·exact GP pins s σ H x v vl vu lo hi sl Q I rx hs pl pu h
noncomputable def JQ:D->Option Int->Option Int->Option RV
 | .list ds,lo,hi=>lD (.ow (iq ds lo hi))
 | .tuple ds,lo,hi=>if i4 ds.length lo hi=Lk then Ld else lD (.fz (.tuple (iq ds lo hi)))
 |_,_,_=>Ld
theorem lY:Kj K (G9 K) JQ:=by
 intro O H x lo hi dx rv Q n hx e q;unfold JQ at e;split at e
 ·cases e;obtain⟨a,xs,rfl,h1,h2⟩:=Cc hx;exact .inl ⟨a,xs,rfl,h1.sq,Fin.new (Ad h2) q⟩
 ·split at e
  ·cases e
  ·rename_i hw;cases e;obtain⟨a,xs,rfl,h1,h2⟩:=wM hx;refine .inr ⟨a,xs,rfl,h1.1,fun z=>hw ?_,Fin.TK (Ad h2) n q⟩;unfold i4;rw[<-h2.length];exact decide_eq_true z
 ·cases e
noncomputable def dw:List D->Option RV
 |[d]=>(match fF d with
  |some ds=>lD (.fz (.int ds.length))
  |none=>Ld)
 |_=>Ld
theorem vO:Ff K (fun xs H Q=>∃x n,xs=[x]/\JC K x H n/\Q (.int n) H) dw:=by
 intro O H xs ds rv Q n hp e q;unfold dw at e;split at e
 ·split at e
  ·rename_i es hs
   cases e;cases hp with
   |cons h1 h2=>
    cases h2;unfold fF at hs;split at hs
    ·cases hs;obtain⟨a,xs,rfl,h1,h2⟩:=wM h1;exact⟨_,xs.length,rfl,.inr ⟨xs,h1.1,rfl⟩,by rw[h2.length];exact q.at (.int _)⟩
    ·cases hs;obtain⟨a,xs,rfl,h1,h2⟩:=Cc h1;exact⟨_,xs.length,rfl,.inl ⟨xs,h1.sq,rfl⟩,by rw[h2.length];exact q.at (.int _)⟩
    ·cases hs
  ·cases e
 ·cases e
noncomputable def kr:List D->Option RV
 |[.tuple ds]=>lD (.fz (.tuple ds))
 |[.list ds]=>lD (.fz (.tuple ds))
 |_=>Ld
theorem mN:Ff K (fun xs H Q=>∃p ys,xs=[.ref p]/\((Ql K H p ys/\∀l,H l=Ld->Q (.ref l) (upd H l (.tup ys)))\/(P9 K H p ys/\Q (.ref p) H))) kr:=by
 intro O H xs ds rv Q n hp e q;unfold kr at e;split at e
 ·cases e
  cases hp with
  |cons h1 h2=>cases h2;obtain⟨a,xs,rfl,h1,h2⟩:=wM h1;exact⟨a,xs,rfl,.inr ⟨h1.1,q.at (.tup h1 h2)⟩⟩
 ·cases e
  cases hp with
  |cons h1 h2=>cases h2;obtain⟨a,xs,rfl,h1,h2⟩:=Cc h1;exact⟨a,xs,rfl,.inl ⟨h1.sq,Fin.TK h2 n q⟩⟩
 ·cases e
noncomputable def zj:List D->Option RV
 |[d]=>(fF d).map .ow
 |_=>Ld
theorem wv:Ff K (fun xs H Q=>∃p ys,xs=[.ref p]/\(Ql K H p ys\/P9 K H p ys)/\∀l,H l=Ld->Q (.ref l) (upd H l (.lst ys))) zj:=by
 intro O H xs ds rv Q n hp e q;unfold zj at e;split at e
 ·rename_i d
  cases hp with
  |cons h1 h2=>
   cases h2;cases hs:fF d with
   |none=>rw[hs] at e;cases e
   |some es=>
    rw[hs] at e;cases e;unfold fF at hs;split at hs
    ·cases hs;obtain⟨a,xs,rfl,h1,h2⟩:=wM h1;exact⟨a,xs,rfl,.inr h1.1,Fin.new h2 q⟩
    ·cases hs;obtain⟨a,xs,rfl,h1,h2⟩:=Cc h1;exact⟨a,xs,rfl,.inl h1.sq,Fin.new h2 q⟩
    ·cases hs
 ·cases e
noncomputable def oX:List D->Option RV
 |[.int i,.int j]=>lD (.fz (.int (if j>i then j else i)))
 |_=>Ld
theorem Dk:Ff K (fun xs H Q=>∃i j,xs=[.int i,.int j]/\Q (.int (if j>i then j else i)) H) oX:=by
 intro O H xs ds rv Q n hp e q;unfold oX at e;split at e
 ·cases e
  cases hp with
  |cons h1 h2=>
   cases h2 with
   |cons h2 h3=>cases h3;cases h1;cases h2;exact⟨_,_,rfl,q.at (.int _)⟩
 ·cases e
end
end L3
namespace PySem
open Sem (wp)
open AutoSeq1 (wpAny_loadPart')
open Builtin Builtin.Str
end PySem
namespace L3
open PySem PySem.Spec PyProof.Rows L2
theorem yw {bs:List Bool} (r:Vals (bs.map V.bl) MD) {i:Nat} (h:MD[i]? =lD v):∃b,bs[i]? =lD b/\v= .bool b:=by
 have hl:=r.length;rw[Lh] at hl;have hi:i<bs.length:=by rw[hl];exact(Lj.mp h).1
 obtain⟨u,hu,ru⟩:=r.get (by rw[Ls,LB hi];rfl);rw[h] at hu;cases hu;exact⟨bs[i],LB hi,ru⟩
theorem uA (bs:List Bool):((Me bs.length).all fun i=>(bs[i]?).getD Lk)=bs.all id:=by
 rw[Bool.eq_iff_iff,Mu,Mu];constructor
 ·intro h b hb;obtain⟨i,hi,e⟩:=List.mem_iff_getElem.mp hb;have:=h i (Nj.mpr hi);rw[LB hi,e] at this;exact this
 ·intro h i hi;have hi:=Nj.mp hi;rw[LB hi];exact h _ (Nv hi)
section
variable {X:Cx}
theorem nM (hc:X.calm=Lk):im X (.builtin "all") (fun xs H Q=>∃(p:Lp) (bs:List Bool),xs=[.ref p]/\Ql X.K H p (bs.map V.bl)/\Q (.bl (bs.all id)) H):=by
 intro pins s σ H xs us Q I r h;obtain⟨l,bs,rfl,hq,q⟩:=h;obtain⟨u,rfl,ru⟩:=ng r;cases ru;obtain⟨MD,rv,pl,hz⟩:=I.list hq;have hlen:=rv.length;rw[Lh] at hlen;have Pm:l<s.heap.objs.size:=by obtain⟨_,_,e,_⟩:=pl;exact Heap.lt_size e
 refine call_all_walk (Pl pl.isList ?_);refine⟨s.heap.objs.size,[s.heap.objs.size,l],[s.heap.objs.size],MD.toArray.size,_,_,fun i=>(bs[i]?).getD Lk,rfl,Walks.list (A:=X.A.in1) (I.ok.hd hc) _ l (Ml Pm) MD.toArray,
  ⟨⟨_,Heap.get?_push_size _ rfl,rfl,rfl⟩,pl.isList.push _⟩,fun i v s' Q' E' hP hQ=> ?_,fun h' tk hk=> ?_⟩
 ·obtain⟨b,e,rfl⟩:=yw rv (by simpa using hP);simp only[e,Option.getD_some] at hQ;exact Nt hQ
 ·rw[LC,<-hlen,uA];refine⟨.bl _,H,I.kept fun b o e=>hk b o (fun hm=> ?_) (Heap.get?_push_of_some _ e),rfl,q⟩;rw[Lx.mp hm] at e;exact MC _ (Heap.lt_size e)
end
section
variable {K:Lc}
noncomputable def qm:List D->Option (List Bool)
 |[]=>lD []
 | .bool b::r=>(qm r).map (b::·)
 |_=>Ld
theorem wm:∀{xs:List V} {ds:List D} {bs:List Bool},Nc O K H xs ds->qm ds=lD bs->xs=bs.map V.bl
 |_,_,_,.nil,e=>by cases e;rfl
 |_,_,bs,.cons (ds:=r) h t,e=>by
  cases h with
  |bl b=>
   have e':(qm r).map (b::·)=lD bs:=e;cases q:qm r with
   |none=>rw[q] at e';cases e'
   |some bs'=>rw[q] at e';cases e';rw[wm t q];rfl
  |_=>cases e
noncomputable def AN:List D->Option RV
 |[.list ds]=>(qm ds).map fun bs=> .fz (.bool (bs.all id))
 |_=>Ld
theorem u5:Ff K (fun xs H Q=>∃(p:Lp) (bs:List Bool),xs=[.ref p]/\Ql K H p (bs.map V.bl)/\Q (.bl (bs.all id)) H) AN:=by
 intro O H xs ds rv Q n hp e q;unfold AN at e;split at e
 ·rename_i es
  cases qs:qm es with
  |none=>rw[qs] at e;cases e
  |some bs=>
   rw[qs] at e;cases e;cases hp with
   |cons h1 h2=>cases h2;obtain⟨a,ys,rfl,h1,h2⟩:=Cc h1;have:=wm h2 qs;subst this;exact⟨a,bs,rfl,h1.sq,q.at (.bl _)⟩
 ·cases e
theorem C4 (ns:List Int):Nc O K H (ns.map V.int) (ns.map .int):=by
 induction ns with
 |nil=>exact .nil
 |cons n r ih=>exact .cons (.int n) ih
end
def KR (K:Lc) (H:Hp) (x:V) (t:String):Prop:=match x with
 | .ON=>t= "NoneType"
 | .bl _=>t= "bool"
 | .int _=>t= "int"
 | .str _=>t= "str"
 | .ref a=>(t= "list"/\∃xs,Ql K H a xs)\/(t= "tuple"/\∃xs,P9 K H a xs)
 |_=>False
def FC (K:Lc):List V->Hp->VK->Prop:=fun xs H Q=>∃x n t b,xs=[x,.ty n]/\KR K H x t/\Ut K (.type t) (.type n)=lD b/\Q (.bl b) H
theorem jg {X:Cx}:im X (.builtin "isinstance") (FC X.K):=by
 intro pins s σ H xs us Q I r h;obtain⟨x,n,t,b,rfl,ty,e,q⟩:=h;obtain⟨u,w',rfl,rx,rn⟩:=EN r;obtain rfl:w'=Lf.type n:=rn;have fin:∀tk,EP X pins σ Q (.bool b) {s with toks:=tk}:=fun tk=>⟨.bl b,H,I.tok tk,rfl,q⟩;cases x with
 |ON=>cases(show t= "NoneType" from ty);cases(show u=Lf.none from rx);exact Oc PySem.W.kitx_none I.T5 True.intro e (fun z=>nomatch z) fin
 |bl y=>cases(show t= "bool" from ty);cases(show u=Lf.bool y from rx);exact Oc PySem.W.kitx_bool I.T5 True.intro e (fun z=>nomatch z) fin
 |int i=>cases(show t= "int" from ty);obtain⟨t,q⟩:=(show∃t,u=Lf.int i t from rx);cases q;exact Oc PySem.W.kitx_int I.T5 True.intro e (fun z=>nomatch z) fin
 |str y=>cases(show t= "str" from ty);obtain⟨t,q⟩:=(show∃t,u=Lf.str y t from rx);cases q;exact Oc PySem.W.kitx_str I.T5 True.intro e (fun z=>nomatch z) fin
 |ref a=>
  cases(show u=Lf.ref a from rx);rcases ty with⟨rfl,xs,h⟩|⟨rfl,xs,h⟩
  ·obtain⟨MD,r,⟨o,k,h1,h2,_⟩,_⟩:=I.list h;exact Oc PySem.W.kitx_list I.T5 ⟨_,h1,h2⟩ e (fun z=>nomatch z) fin
  ·obtain⟨MD,r,⟨o,h1,h2,_⟩,_⟩:=I.tuple h;exact Oc PySem.W.kitx_tuple I.T5 ⟨o,h1,h2⟩ e (fun z=>nomatch z) fin
 |_=>exact(show False from ty).elim
section
variable {K:Lc} {E:XK} {B O O':bu} {H0 H H':Hp} {σ:L2.St} {ρ ρ':aI} {v:V}
noncomputable def Cf:D->Option String
 | .none=>lD "NoneType"
 | .bool _=>lD "bool"
 | .int _=>lD "int"
 | .str _=>lD "str"
 | .list _=>lD "list"
 | .tuple _=>lD "tuple"
 | .dict _=>Ld
noncomputable def D6 (n t:String):Bool:=n==t||(n== "int"&&t== "bool")
theorem Ew {n t:String} (hn:n= "int"\/n= "bool"\/n= "str"\/n= "list"\/n= "tuple") {d:D} (ht:Cf d=lD t):Ut K (.type t) (.type n)=lD (D6 n t):=by cases d<;>(cases ht;try (rcases hn with rfl|rfl|rfl|rfl|rfl<;>rfl))
theorem Jn {x:V} {d:D} {t:String} (h:DX O K H x d) (e:Cf d=lD t):KR K H x t:=by
 cases d with
 |none=>cases e;cases h;rfl
 |bool b=>cases e;cases h;rfl
 |int b=>cases e;cases h;rfl
 |str b=>cases e;cases h;rfl
 |dict b=>cases e
 |list ds=>cases e;obtain⟨a,xs,rfl,h1,_⟩:=Cc h;exact .inl ⟨rfl,xs,h1.sq⟩
 |tuple ds=>cases e;obtain⟨a,xs,rfl,h1,_⟩:=wM h;exact .inr ⟨rfl,xs,h1.1⟩
noncomputable def ou (n:String) (fa:FE):FE:=fun ρ=>(fa ρ).bind fun a=>(Res.ME (oV a.2 a.1)).bind fun d=>(Res.ME (Cf d)).bind fun t=> .ok (.fz (.bool (D6 n t)),a.2)
theorem qH {n:String} {ta:TE} {fa:FE} (hn:n= "int"\/n= "bool"\/n= "str"\/n= "list"\/n= "tuple") (ha:EO K E ta fa):EO K E (E9 (FC K) (gI ta (gI (tC (.ty n)) nV))) (ou n fa):=by intro B H0 O σ H ρ Q R w;refine ha B H0 O σ H ρ _ R (w.bind.imp fun a w1 O1 x H1 e1 R1 p1=> ?_);obtain⟨d,q,w1⟩:=w1.ME;obtain⟨t,qt,w1⟩:=w1.ME;exact⟨x,n,t,D6 n t,rfl,Jn (jS R1 p1 q) qt,Ew hn qt,w1 O1 _ H1 e1 R1 (.bl _)⟩
end
theorem yS {P:LR} {w:Mg} {K:Lc} {mg mb:Str->Option Lf} {k:Nat} {fa a:Lp} {fd:M8} {x:Str} {F:FN} {s₁:Lm} {vs:List Lf} {ns:List Int}
  (KX:K.In s₁.heap) (SS:s₁.heap.Ns Ma mg) (hb:s₁.heap.Ns builtinsNs mb) (Z6:∀x:Str,x≠ "__name__"->mb x=ML x) (WD:s₁.heap.NoLimit) (hg:s₁.gens= #[])
  (ha:s₁.heap.get? a=lD {cls:= .type "list",data:= .seq vs.toArray}) (hi:IntsAre vs ns) (hl:ns.length<=LL) (hr:OG k callerA)
  (FF:∀base:Heap,K.In base->base.Ns Ma mg->FnOk P w K mg base fT k fa fd [x] (jM K 1 F)) (UH:∀(s:Lm) (u:Lf),QP s fd ⟨[u],[]⟩ [(x,u)])
  (hF:F [.list (ns.map .int)]= .ok (.fz (.bool Lk))):
  codeAny (model P w) callerA (.call (.ref fa) ⟨[.ref a],[]⟩) (fun r s'=>r= .ok (.ret (.bool Lk))/\OldK s₁.heap s'.heap/\s'.os=s₁.os/\AllBare s'.gens) s₁:=by
 refine BR (sp:=fun vs H Q E=>jM K 1 F vs H Q E\/(vs.length=1/\False)) KX SS hb Z6 WD hg ha hi hl hr (fun base k1 k2=>(FF base k1 k2).imp fun vs H Q E h=> ?_) UH (fun H hO hS=> ?_) fun _ _ _ h=>h
 ·rcases h with h|h
  ·exact h
  ·exact h.2.elim
 ·refine .inl ⟨rfl,SQ,[.list (ns.map .int)],fun a z=>z.elim,.cons (.lst ⟨?_,fun z=>z.elim⟩ (C4 ns)) .nil,?_⟩
  ·rcases hS with h|⟨o,MD,n,h1,h2,h3,h4,h5,h6⟩
   ·exact .inl h
   ·have e:=KX a o h1;rw[ha] at e;cases e;cases h4;exact .inr ⟨vs,0,h1,by rw[Lh];exact hl,by simpa using h6⟩
  ·rw[hF];exact fun v H' s dv=>by cases dv;rfl
theorem Jw {l:Ui} {n k:Nat} {q:LR} {loose:List Str} {XP:(Str->Option Lf)->Heap->Prop} {YP:Mg->Heap->Prop} {d:DefRec} {K:Params->Lc} {F:FN} {x:Str}
  (hn:l.most=lD n) (hn2:n<=LL) (hdf:d.params.defaults=[]) (hr:OG k callerA)
  (hY:∀(w:Mg) (h:Heap),YP w h->(K w.params).In h)
  (FF:∀(w:Mg) (mg:Str->Option Lf) (fa:Lp) (h:Heap),(K w.params).In h->h.Ns Ma mg->mg d.name=lD (.ref fa)->
   ∃fd:M8,(∀(s:Lm) (u:Lf),QP s fd ⟨[u],[]⟩ [(x,u)])/\∀base:Heap,(K w.params).In base->base.Ns Ma mg->FnOk l.prog w (K w.params) mg base fT k fa fd [x] (jM (K w.params) 1 F))
  (hF:∀ns:List Int,ns.length<=n->F [.list (ns.map .int)]= .ok (.fz (.bool Lk))):
  PySem.W.WalkO q loose XP YP l.row.toRowW d [] (fun f vs=>XF f vs):=by
 refine Att.attach_call hn hdf fun w s₀ s₁ mg mb fa o pm cd doc a vs ns G Y ho hd Tf Yn WJ hints hlen hg=> ?_;have KX:=hY w _ Y;obtain⟨fd,hb,hFF⟩:=FF w mg fa _ KX G.T.g Yn;exact yS KX G.T.g G.T.b G.T.builtins G.T.nolimit hg WJ hints (LF hlen hn2) hr hFF hb (hF ns hlen)
theorem KH {P:LR} {w:Mg} {K:Lc} {mg:Str->Option Lf} {base:Heap} {x qual:Str} {st:NZ} {f:Lp} {fd:M8} {N ps:List Str} {k n m:Nat} {g:FS} {FF:FN} (F:PY K x qual st f fd) (S:OM N ps (aF st)) (hn:ps.length=n) (hm:N.length=m) (hF:FF=d7 m g)
  (Pu:∀(Ny:Lf) (A:L0) (outer:List Env) (s:Lm) (H:Hp) (E:XK),OG k (A.deeper (MB qual (aF st) s.heap.objs.size f Ny))->
   ∃t,Rq (lF fT P w K mg base N qual (aF st) f Ny A outer s H E).Vx (bZ st) t/\SO K E t g):FnOk P w K mg base fT (k+1) f fd ps (jM K n FF):=by
 subst hF hm;exact K1 F S hn Pu
noncomputable abbrev gs (P:LR) (w:Mg) (K:Lc) (mg:Str->Option Lf) (base:Heap) (k:Nat) (x:Str) (ps:List Str) (n:Nat) (F:FN):Prop:=wW P w K mg base k x ps (jM K n F)
end L3
namespace L3
open PySem L2
noncomputable abbrev nd (n:Nat):D:= .int (n:Int)
noncomputable def nZ (ns:List Nat):List D:=ns.map nd
theorem ff (ns:List Nat):(nZ ns).length=ns.length:=by unfold nZ;rw[Lh]
theorem eB {i:Nat} (h:(nZ ns)[i]? =lD d):∃n,ns[i]? =lD n/\d=nd n:=by
 unfold nZ at h;rw[Ls] at h;cases e:ns[i]? with
 |none=>rw[e] at h;cases h
 |some n=>rw[e] at h;exact⟨n,rfl,(LZ h).symm⟩
theorem aH (a:α):Res.ME (lD a)= .ok a:=rfl
theorem ub (a:α):kz (Res.ok a)= .ok a:=rfl
theorem uN (i:Nat) (ρ:aI):ae i ρ=xB ρ i ρ[i]? :=rfl
theorem zW (ρ:aI) (i:Nat) (d:D):xB ρ i (lD (lD (.fz d)))= .ok (.fz d,ρ):=rfl
theorem zu (ρ:aI) (i:Nat) (ds:List D):xB ρ i (lD (lD (.ow ds)))= .ok (.pl i,ρ):=rfl
theorem kI (ds:List D):BH (lD (lD (.ow ds)))=lD ds:=rfl
theorem vW (i:Int):Kr (.int i)=lD i:=rfl
theorem su (b:Bool):J6 (.bool b)=lD b:=rfl
theorem nj (ds:List D):dw [.list ds]=lD (.fz (nd ds.length)):=rfl
theorem Bl (i j:Int):Iu (.int i) (.int j)=lD (.fz (.bool (decide (i<j)))):=rfl
theorem Bw (i j:Int):GG (.int i) (.int j)=lD (.fz (.bool (decide (j<i)))):=rfl
theorem EU (i j:Int):IK (.int i) (.int j)=lD (.fz (.bool (decide (j<=i)))):=rfl
theorem qC (i j:Int):bI (.int i) (.int j)=lD (.fz (.int (i+j))):=rfl
theorem A0 (i j:Int):nW (.int i) (.int j)=lD (.fz (.int (i - j))):=rfl
theorem bE (h:0<j):bq (.int i) (.int j)=lD (.fz (.int (i % j))):=by show(if Hg i j=Lk then _ else _)=_;rw[if_pos (show Hg i j=Lk from decide_eq_true h)]
theorem cL (h:0<j/\j<2^128):cm (.int i) (.int j)=lD (.fz (.int (i/j))):=by show(if Hc i j=Lk then _ else _)=_;rw[if_pos (show Hc i j=Lk from decide_eq_true h)]
theorem EB (h: -(2^64)<i/\i<2^64):yI (.int i) (.int j)=lD (.fz (.int (i*j))):=by show(if(fq i||fq j)=Lk then _ else _)=_;rw[if_pos (by rw[show fq i=Lk from decide_eq_true h,W6])]
theorem Ei (h: -(2^64)<j/\j<2^64):yI (.int i) (.int j)=lD (.fz (.int (i*j))):=by show(if(fq i||fq j)=Lk then _ else _)=_;rw[if_pos (by rw[show fq j=Lk from decide_eq_true h,Bool.or_true])]
theorem vX (h:dL j):dZ [.int j]=lD (cG 0 j.toNat):=by show(if dL j then _ else _)=_;rw[if_pos h]
theorem tL (n:Nat):cG 0 n=nZ (Me n):=by unfold cG nZ;apply Qw;intro k _;rw[Int.zero_add]
theorem wS (h:n<=1000000):dZ [nd n]=lD (nZ (Me n)):=by rw[vX (by unfold dL;omega),tL,MV]
theorem Am (h:f ρ= .ok (.nx ρ1)):aA f g ρ=g ρ1:=by unfold aA;rw[h];rfl
theorem Ht (h:f ρ= .ok (.rt rv)):aA f g ρ= .ok (.rt rv):=by unfold aA;rw[h];rfl
theorem GY (h:fi ρ= .ok (ds,ρ1)):dW fi gt b ρ=tQ gt b ds ρ1:=by unfold dW;rw[h];rfl
theorem HA (hρ:ds.map (fun d=>lD (.fz d))++Lq (N - ds.length) Ld=ρ) (h:g ρ= .ok (.rt rv)):d7 N g ds= .ok rv:=by unfold d7;rw[hρ,h];rfl
theorem uZ (h:j<=1000000/\i.natAbs<2^64):lw (.int i) (nd j)=lD (.fz (.int (i^j))):=by show(if CV i (j:Int)=Lk then lD (RV.fz (.int (i^((j:Nat):Int).toNat))) else Ld)=_;rw[if_pos (by unfold CV;exact decide_eq_true ⟨by omega,by omega,h.2⟩),MV]
theorem z9:lw (.int 10) (.int 18)=lD (.fz (.int (10^18))):=uZ ⟨by decide,by decide⟩
noncomputable def kW (gt:FG) (ft:FT) (fe:FE) (d:D) (ρ:aI):Res (Option D×aI):=(gt (.fz d) ρ).bind fun ρ1=>(ft ρ1).bind fun b=>if b.1=Lk then(fe b.2).bind fun a=>(Res.ME (uu a.2 a.1)).bind fun x=> .ok (lD x.1,cP x.2) else .ok (Ld,cP b.2)
theorem uU (h:kW gt ft fe d ρ= .ok (o,ρ')) (hl:acc.length<1000000):dC gt ft fe (d::r) ρ acc=dC gt ft fe r ρ' (acc++o.toList):=by
 unfold kW at h;show(gt (.fz d) ρ).bind _=_;cases q1:gt (.fz d) ρ with
 |er x=>rw[q1] at h;cases h
 |bad=>rw[q1] at h;cases h
 |ok ρ1=>
  rw[q1,Res.bind_ok] at h;rw[Res.bind_ok];cases q2:ft ρ1 with
  |er x=>rw[q2] at h;cases h
  |bad=>rw[q2] at h;cases h
  |ok b=>
   obtain⟨b,ρ2⟩:=b;rw[q2,Res.bind_ok] at h;rw[Res.bind_ok];cases b with
   |false=>rw[if_neg LA] at h⊢;cases h;rw[Option.toList_none,L6]
   |true=>
    rw[if_pos rfl] at h⊢;cases q3:fe ρ2 with
    |er x=>rw[q3] at h;cases h
    |bad=>rw[q3] at h;cases h
    |ok a=>
     rw[q3,Res.bind_ok] at h;rw[Res.bind_ok];cases q4:uu a.2 a.1 with
     |none=>rw[q4] at h;cases h
     |some x=>rw[q4] at h;cases h;show(if acc.length<1000000 then _ else _)=_;rw[if_pos hl];rfl
theorem jd (a b:Int):lA (.int a) (.int b)=lD (.fz (.bool (decide (a=b)))):=by rfl
theorem Ia {i:Nat} (h:xs[i]? =lD v):oE xs (i:Int)=lD v:=wg h
theorem C8 (h:ds[i]? =lD d):eO (.list ds) (nd i)=lD (.fz d):=by show(oE ds (i:Int)).map RV.fz=_;rw[Ia h];rfl
section
variable {ρ ρ1 ρ2 ρ3:aI} {fa fb fc fe:FE} {pa pb pv:PV} {dx dy d:D} {rv:RV} {ps:List PV} {ds:List D}
theorem af (h:ρ[i]? =lD (lD (.fz d))):ae i ρ= .ok (.fz d,ρ):=by rw[uN,h,zW]
theorem dA (h:ρ[i]? =lD (lD (.ow ds))):ae i ρ= .ok (.pl i,ρ):=by rw[uN,h,zu]
theorem cR:pC d ρ= .ok (.fz d,ρ):=rfl
theorem aZ (ha:fa ρ= .ok (pa,ρ1)) (hb:fb ρ1= .ok (pb,ρ2)) (hx:oV ρ2 (gQ pa)=lD dx) (hy:oV ρ2 pb=lD dy) (hf:f dx dy=lD rv):aG f fa fb ρ= .ok (rv.pv,ρ2):=by unfold aG;rw[ha,Res.bind_ok,hb,Res.bind_ok,hx,aH,Res.bind_ok,hy,aH,Res.bind_ok,hf,aH,Res.bind_ok]
theorem E4 (ha:fa ρ= .ok (pa,ρ1)) (hx:oV ρ1 pa=lD dx) (hf:f dx=lD rv):Io f fa ρ= .ok (rv.pv,ρ1):=by unfold Io;rw[ha,Res.bind_ok,hx,aH,Res.bind_ok,hf,aH,Res.bind_ok]
theorem bp (ha:fa ρ= .ok (pa,ρ1)) (hx:oV ρ1 pa=lD (.bool b)):aN fa ρ= .ok (b,ρ1):=by unfold aN;rw[ha,Res.bind_ok,hx,aH,Res.bind_ok,su,aH,Res.bind_ok]
theorem qX (ha:f ρ= .ok (a,ρ1)) (hb:a=Lk->g ρ1= .ok (b,ρ1)):sI f g ρ= .ok (a&&b,ρ1):=by
 unfold sI;rw[ha,Res.bind_ok];cases a with
 |true=>rw[if_pos rfl,hb rfl,Oe]
 |false=>rw[if_neg LA,O8]
theorem mG (ha:f ρ= .ok (a,ρ1)) (hb:a=Lw->g ρ1= .ok (b,ρ1)):BO f g ρ= .ok (a||b,ρ1):=by
 unfold BO;rw[ha,Res.bind_ok];cases a with
 |true=>rw[if_pos rfl,W6]
 |false=>rw[if_neg LA,hb rfl,Bool.false_or]
theorem gb (ha:f ρ= .ok (a,ρ1)):mB f ρ= .ok (!a,ρ1):=by unfold mB;rw[ha,Res.bind_ok]
theorem wU (ha:aN fa ρ= .ok (a,ρ1)) (hb:a=Lk->fb ρ1= .ok (.fz (.bool b),ρ1)):zH fa fb ρ= .ok (.fz (.bool (a&&b)),ρ1):=by
 unfold zH;rw[ha,Res.bind_ok];cases a with
 |true=>rw[if_pos rfl,hb rfl,Oe]
 |false=>rw[if_neg LA,O8]
theorem DM (ha:aN fa ρ= .ok (a,ρ1)):Cy fa ρ= .ok (.fz (.bool (!a)),ρ1):=by unfold Cy;rw[ha,Res.bind_ok]
theorem ay:aq ρ= .ok ([],ρ):=rfl
theorem am (ha:fa ρ= .ok (pa,ρ1)) (hr:fr ρ1= .ok (ps,ρ2)):aa fa fr ρ= .ok (gQ pa::ps,ρ2):=by unfold aa;rw[ha,Res.bind_ok,hr,Res.bind_ok]
theorem b7 (ha:fr ρ= .ok (ps,ρ1)) (hd:rA ρ1 ps=lD ds) (hf:f ds=lD rv):gJ f fr ρ= .ok (rv.pv,ρ1):=by unfold gJ;rw[ha,Res.bind_ok,hd,aH,Res.bind_ok,hf,aH,Res.bind_ok]
theorem c9 (ha:fr ρ= .ok (ps,ρ1)) (hd:ni ρ1 ps=lD (ds,ρ2)) (hn:ds.length=n) (hF:F ds= .ok rv):cn F n fr ρ= .ok (rv.pv,ρ2):=by unfold cn;rw[ha,Res.bind_ok,hd,aH,Res.bind_ok];dsimp only;rw[if_pos hn,hF,ub,Res.bind_ok]
theorem cz (ha:fr ρ= .ok (ps,ρ1)) (hd:ni ρ1 ps=lD (ds,ρ2)) (hn:ds.length<=1000):bW fr ρ= .ok (.fz (.tuple ds),ρ2):=by unfold bW;rw[ha,Res.bind_ok,hd,aH,Res.bind_ok];dsimp only;rw[if_pos hn]
theorem Av (ha:fr ρ= .ok (ps,ρ1)) (hd:ni ρ1 ps=lD (ds,ρ2)) (hn:ds.length<=1000):eG fr ρ= .ok (.ow ds,ρ2):=by unfold eG;rw[ha,Res.bind_ok,hd,aH,Res.bind_ok];dsimp only;rw[if_pos hn]
theorem mI (ha:fa ρ= .ok (pa,ρ1)) (hx:oV ρ1 pa=lD dx) (ht:Cf dx=lD t):ou n fa ρ= .ok (.fz (.bool (D6 n t)),ρ1):=by unfold ou;rw[ha,Res.bind_ok,hx,aH,Res.bind_ok,ht,aH,Res.bind_ok]
theorem b5:eI ρ= .ok (Ld,ρ):=rfl
theorem cf (ha:fa ρ= .ok (pa,ρ1)) (hx:oV ρ1 pa=lD (.int i)):dB fa ρ= .ok (lD i,ρ1):=by unfold dB;rw[ha,Res.bind_ok,hx,aH,Res.bind_ok,vW,aH,Res.bind_ok]
theorem gF (ha:fa ρ= .ok (pa,ρ1)) (hl:fl ρ1= .ok (lo,ρ2)) (hh:fh ρ2= .ok (hi,ρ3)) (hx:oV ρ3 (gQ pa)=lD dx) (hf:f dx lo hi=lD rv):pD f fa fl fh ρ= .ok (rv.pv,ρ3):=by unfold pD;rw[ha,Res.bind_ok,hl,Res.bind_ok,hh,Res.bind_ok,hx,aH,Res.bind_ok,hf,aH,Res.bind_ok]
theorem eV (h0:ρ[i]? =lD (lD (.ow es))) (ha:fe ρ= .ok (pa,ρ1)) (ht:uu ρ1 pa=lD (d,ρ2)) (h1:ρ2[i]? =lD (lD (.ow ds))) (hl:ds.length<1000000) (hx:ρ2.set i (lD (.ow (ds++[d])))=x):fE i fe ρ= .ok (.fz .none,x):=by unfold fE;rw[h0,kI,aH,Res.bind_ok,ha,Res.bind_ok,ht,aH,Res.bind_ok];dsimp only;rw[h1,kI,aH,Res.bind_ok,if_pos hl,hx]
theorem jT (hi:fi ρ= .ok (ds,ρ1)) (hc:oH ρ1 fv=lD (cs,ρ2)) (hp:kz (dC gt ft fe ds (Lq n Ld++cs.map fun d=>lD (.fz d)) [])= .ok xs):iB n fv fi gt ft fe ρ= .ok (.ow xs,ρ2):=by unfold iB;rw[hi,Res.bind_ok];dsimp only;rw[hc,aH,Res.bind_ok];dsimp only;rw[hp,Res.bind_ok]
theorem GQ:eO (.list (a::r)) (.int 0)=lD (.fz a):=C8 rfl
theorem cM (ha:fe ρ= .ok (pa,ρ1)) (ht:uu ρ1 pa=lD (d,ρ2)) (hs:fF d=lD es):gX fe ρ= .ok (es,ρ2):=by unfold gX;rw[ha,Res.bind_ok,ht,aH,Res.bind_ok];dsimp only;rw[hs,aH,Res.bind_ok]
theorem jX (ha:fr ρ= .ok (ps,ρ1)) (hd:rA ρ1 ps=lD ds) (hf:f ds=lD es):gK f fr ρ= .ok (es,ρ1):=by unfold gK;rw[ha,Res.bind_ok,hd,aH,Res.bind_ok,hf,aH,Res.bind_ok]
theorem qL (he:fe ρ= .ok (pv,ρ1)) (hg:g pv ρ1= .ok ρ2) (hn:ρ2=ρ3):aR fe g ρ= .ok (.nx ρ3):=by unfold aR;rw[he,Res.bind_ok];dsimp only;rw[hg,Res.bind_ok,hn]
theorem qj (he:fe ρ= .ok (pv,ρ1)):cH fe ρ= .ok (.nx ρ1):=by unfold cH;rw[he,Res.bind_ok]
theorem vx (he:fe ρ= .ok (pv,ρ1)) (hr:zb ρ1 pv=lD rv):cE fe ρ= .ok (.rt rv):=by unfold cE;rw[he,Res.bind_ok];dsimp only;rw[hr,aH,Res.bind_ok]
theorem G7 (hg:gt (.fz d) ρ= .ok ρ1) (ht:ft ρ1= .ok (Lk,ρ2)) (he:fe ρ2= .ok (pv,ρ3)) (hx:uu ρ3 pv=lD (x,ρ4)) (hf:cP ρ4=ρ5):kW gt ft fe d ρ= .ok (lD x,ρ5):=by unfold kW;rw[hg,Res.bind_ok,ht,Res.bind_ok,if_pos rfl,he,Res.bind_ok,hx,aH,Res.bind_ok,hf]
end
end L3
namespace PySem
open Sem (wp)
open Builtin
open AutoSeq1 (wpAny_loadPart')
theorem kG:fillsNumberSlot (.type "tuple") "mul"=pure Lw:=
 fillsNumberSlot_seq F.slot_tuple_mul.lookup (by decide+kernel) F.slot_tuple_rmul.lookup (by decide+kernel)
theorem qY:seqRepeat? (.type "tuple")=pure (lD (.builtin "tuple.__mul__")):=by unfold seqRepeat?;rw[seqSlot_of (name:= "__mul__") F.slot_tuple_mul.lookup (by decide+kernel),seqSlot_of (name:= "__rmul__") F.slot_tuple_rmul.lookup (by decide+kernel)];rfl
theorem nF (a:Int) (t:Tok) (l:Lp) (items:Array Lf) (n:Nat) (VW:Option Lp) (sl:Array (Option Lf)):
  Meets (LJ.«int.__rmul__» ⟨[.int a t,.ref l],[]⟩) (fun _ R s=>s.heap.get? l=lD {cls:= .type "tuple",dict:=VW,data:= .seq items n,slots:=sl}/\R (.ok (.ret Lf.notImplemented)) s):=
 .of_wp fun prog w A R s h=>by obtain⟨hp,g,d,tk,os⟩:=s;obtain⟨hl,h⟩:=h;wp_walk;exact⟨_,rfl,h⟩
theorem uj (l:Lp) (items:Array Lf) (n:Nat) (VW:Option Lp) (sl:Array (Option Lf)) (u:Tok):
  Meets (LJ.«tuple.__mul__» ⟨[.ref l,.int 1 u],[]⟩) (fun _ R s=>s.heap.get? l=lD {cls:= .type "tuple",dict:=VW,data:= .seq items n,slots:=sl}/\R (.ok (.ret (Lf.ref l))) s):=
 .of_wp fun prog w A R s h=>by
  obtain⟨hp,g,d,tk,os⟩:=s;obtain⟨hl,h⟩:=h
  wp_walk
  exact⟨_,rfl,h⟩
theorem sO (l:Lp) (items:Array Lf) (n:Nat) (VW:Option Lp) (sl:Array (Option Lf)) (x:Int) (u:Tok) (h1:2<=x) (h2:x<=1000) (OK:items.isEmpty=Lw) (hz:items.size<=1000):
  Meets (LJ.«tuple.__mul__» ⟨[.ref l,.int x u],[]⟩) (fun _ R s=>s.heap.get? l=lD {cls:= .type "tuple",dict:=VW,data:= .seq items n,slots:=sl}/\R (.ok (.ret (Lf.ref s.heap.objs.size))) {s with heap:=s.heap.push {cls:=Lf.type "tuple",data:=Data.seq (P0 (fun x1 x2=>x1++x2) #[] (Lq x.toNat items))},toks:=s.toks}):=
 .of_wp fun prog w A R s h=>by
  obtain⟨hp,g,d,tk,os⟩:=s;obtain⟨hl,h⟩:=h;have c1:¬(decide (x< -(2^63))||decide (x≥2^63))=Lk:=by simp;omega
  have c2:(x==1)=Lw:=by simp;omega
  have c3:decide (x<=0)=Lw:=by simp;omega
  have c0:(items.isEmpty||x==1)=Lw:=by rw[OK,c2];rfl
  have c4:(decide (x<=0)||items.isEmpty)=Lw:=by rw[OK,c3];rfl
  have hmul:(items.size:Int)*x<=1000000:=by have:(items.size:Int)*x<=1000*1000:=Int.mul_le_mul (by omega) h2 (by omega) (by omega);omega
  have c5:¬(items.size:Int)*x>(2^63 - 1)/8:=by omega
  have c6:¬Tuple.tupleTooMany ((items.size:Int)*x)=Lk:=by
   unfold Tuple.tupleTooMany;simp;have:(LL:Nat)=16777216:=by decide
   omega
  wp_walk
  rw[if_neg c1]
  wp_walk using wpAny_loadPart' hl
  rw[if_neg c5];dsimp only;rw[if_neg c6];have hz2:(P0 (fun x1 x2=>x1++x2) #[] (Lq x.toNat items)).size<=LL:=by
   have f0:∀(m:Nat) (b:Array Lf),(P0 (fun x1 x2=>x1++x2) b (Lq m items)).size=b.size+m*items.size:=by
    intro m
    induction m with
    |zero=>intro b;simp
    |succ m ih=>intro b;rw[Mz,P7,ih,Array.size_append,XD];omega
   rw[f0];have h3:x.toNat*items.size<=1000*1000:=Oz (by omega) hz;have:(LL:Nat)=16777216:=by decide
   simp;omega
  wp_walk
  exact⟨_,rfl,h⟩
end PySem
namespace L3
open PySem PySem.Spec PyProof.Rows L2
def Fp (K:Lc):R2:=fun x y H Q=>∃(a:Lp) (k:Nat) (xs:List V),x= .ref a/\y= .int (k:Int)/\P9 K H a xs/\xs≠[]/\1<=k/\k<=1000/\xs.length<=1000/\
 (k=1->Q (.ref a) H)/\(2<=k->∀p,H p=Ld->Q (.ref p) (upd H p (.tup (Lq k xs).flatten)))
theorem DY:OpR X (Nl .Mult) (Fp X.K):=by
 intro pins s σ H x y v u Q I rx ry h;obtain⟨a,k,xs,rfl,rfl,hx,OK,h1,h2,hl,q1,q2⟩:=h;cases rx;obtain⟨t,rfl⟩:=ry;obtain⟨MD,r,ht,hz⟩:=I.tuple hx;obtain⟨⟨cls,dd,data,sl⟩,ho,hc,n,hd⟩:=id ht;simp only at hc hd;subst hc hd;have hlen:=r.length;refine Tb (by decide) ⟨_,ho,rfl⟩ (fun s'=>Ox s' k t) kG F.fills_int_mul F.slot_int_rmul qY F.slot_int_index.lookup
  (Qt F.slot_int_rmul (Ox s k t) F.entry_int_rmul (F.args_int_rmul_2 _ _) (nF k t a MD.toArray n dd sl) ⟨ho,rfl,⟨_,ho,rfl⟩,?_⟩)
 by_cases hk:k=1
 ·subst hk;exact Qt F.slot_tuple_mul ⟨_,ho,rfl⟩ F.entry_tuple_mul (F.args_tuple_mul_2 _ _) (uj a MD.toArray n dd sl t) ⟨ho,⟨.ref a,H,I,rfl,q1 rfl⟩⟩
 ·refine Qt F.slot_tuple_mul ⟨_,ho,rfl⟩ F.entry_tuple_mul (F.args_tuple_mul_2 _ _) (sO a MD.toArray n dd sl k t (by omega) (by omega) ?_ (by rw[LC];omega)) ⟨ho,?_⟩
  ·cases MD with
   |nil=>cases r;exact absurd rfl OK
   |cons y ys=>rfl
  ·have f0:P0 (fun x1 x2=>x1++x2) #[] (Lq ((k:Nat):Int).toNat MD.toArray)=(Lq k MD).flatten.toArray:=by
    have:=kN MD k [];rw[Oh] at this;rw[MV];exact this
   rw[f0];refine⟨.ref s.heap.objs.size,_,I.laid (fun b ob q=>Heap.get?_push_of_some _ q) (Ll _) ?_,rfl,q2 (by omega) _ (I.NO.fresh (Ll _))⟩;refine⟨?_,_,r.rep k,Q1.new _ _⟩;rw[wA];exact LF (Oz h2 hl) (by decide)
def FM (K:Lc):R2:=fun x y H Q=>zE K x y H Q\/Fp K x y H Q
theorem Eb:OpR X (Nl .Mult) (FM X.K):=OpR.or D4 DY
noncomputable def eS:D->D->Option RV
 | .tuple xs,.int k=>if xs≠[]/\1<=k/\k<=1000/\xs.length<=1000 then lD (.fz (.tuple (Lq k.toNat xs).flatten)) else Ld
 |d,e=>yI d e
theorem Cv {K:Lc}:lc K (FM K) eS:=by
 intro O H x y dx dy rv Q n hx hy e q;unfold eS at e;split at e
 ·rename_i ds k
  split at e
  ·rename_i hc
   cases e;cases hy;obtain⟨a,xs,rfl,h1,h2⟩:=wM hx;obtain⟨m,rfl⟩:∃m:Nat,k=(m:Int):=⟨k.toNat,by omega⟩;rw[MV] at q;refine .inr ⟨a,m,xs,rfl,rfl,h1.1,fun z=>hc.1 (h2.ne.mp z),by omega,by omega,by rw[h2.length];exact hc.2.2.2,fun e=> ?_,fun _=>Fin.TK (h2.flat m) n q⟩;subst e;have e1:(Lq 1 ds).flatten=ds:=by simp
   rw[e1] at q;exact q.at (.tup h1 h2)
  ·cases e
 ·exact .inl (Eg O H x y dx dy rv Q n hx hy e q)
theorem uq (i j:Int):eS (.int i) (.int j)=yI (.int i) (.int j):=rfl
theorem fA (h: -(2^64)<i/\i<2^64):eS (.int i) (.int j)=lD (.fz (.int (i*j))):=(uq i j).trans (EB h)
theorem ti (h: -(2^64)<j/\j<2^64):eS (.int i) (.int j)=lD (.fz (.int (i*j))):=(uq i j).trans (Ei h)
end L3
namespace PySem
open Sem (wp)
open Builtin Builtin.Str
end PySem
namespace L3
open PySem PySem.Spec PyProof.Rows L2
noncomputable def yG:Mv->Bool
 | .Starred _ _=>Lk
 |_=>Lw
theorem yT (e:Mv) (es:List Mv) (env:Env) (h:yG e=Lw):MM (e::es) env=(Lw,eval e env)::MM es env:=by cases e<;>first|rfl|cases h
theorem JG (ha:PE X e te) (hr:PA X es t) (hs:yG e=Lw:=by rfl):PA X (e::es) (gI te t):=ar ha hr (yT e es X.env hs)
section
variable {K:Lc} {E:XK} {B O O':bu} {H0 H H':Hp} {σ:L2.St} {ρ ρ':aI} {v:V}
noncomputable def Iq (d e:D):Option RV:=match d,e with
 | .str z,.int i=>if z.length<=1000000 then(oE z.cps.toList i).map fun c=> .fz (.str ⟨#[c]⟩) else Ld
 |_,_=>Ld
theorem xT:lc K (Kh K) Iq:=by
 intro O H x y dx dy rv Q n hx hy e q;unfold Iq at e;split at e
 ·split at e
  ·rename_i z i hl
   cases qa:oE z.cps.toList i with
   |none=>rw[qa] at e;cases e
   |some c=>rw[qa] at e;cases e;cases hx;cases hy;exact .inr (.inr ⟨z,i,c,rfl,rfl,tZ hl,qa,q.at (.str _)⟩)
  ·cases e
 ·cases e
end
end L3
namespace L3
open PySem L2
def KQ (N C:aI->Prop) (T:RV->Prop):Res Fl->Prop
 | .ok (.nx ρ)=>N ρ
 | .ok (.ct ρ)=>C ρ
 | .ok (.rt v)=>T v
 |_=>False
structure Go (r:Res Fl) (N C:aI->Prop) (T:RV->Prop):Prop where
 out:KQ N C T r
section
variable {ρ ρ1 ρ2 ρ3:aI} {f g:FS} {fe:FE} {pv:PV} {d:D} {rv:RV} {ds:List D} {N C:aI->Prop} {T:RV->Prop}
theorem Go.eq (e:r=r') (h:Go r' N C T):Go r N C T:=by rw[e];exact h
theorem Go.imp (h:Go r N C T) (hN:∀ρ,N ρ->N' ρ) (hC:∀ρ,C ρ->C' ρ) (hT:∀v,T v->T' v):Go r N' C' T':=by
 refine⟨?_⟩;have h:=h.out;cases r with
 |bad=>exact h
 |er x=>exact h
 |ok fl=>
  cases fl with
  |nx r=>exact hN _ h
  |ct r=>exact hC _ h
  |rt v=>exact hT _ h
  |bk r=>exact h
theorem rH (h:Go (f ρ) (fun r=>Go (g r) N C T) C T):Go (aA f g ρ) N C T:=by
 refine⟨?_⟩;have h:=h.out;unfold aA;cases q:f ρ with
 |bad=>rw[q] at h;exact h.elim
 |er x=>rw[q] at h;exact h.elim
 |ok fl=>
  rw[q] at h;cases fl with
  |nx r=>exact(show Go (g r) N C T from h).out
  |ct r=>exact h
  |rt v=>exact h
  |bk r=>exact h.elim
theorem iZ (hc:c ρ= .ok (b,ρ1)) (ht:b=Lk->Go (f ρ1) N C T) (hf:b=Lw->Go (g ρ1) N C T):Go (jo c f g ρ) N C T:=by
 unfold jo;rw[hc,Res.bind_ok];cases b with
 |true=>exact ht rfl
 |false=>exact hf rfl
theorem Cg (he:fe ρ= .ok (pv,ρ1)) (hg:gt pv ρ1= .ok ρ2) (h:N ρ2):Go (aR fe gt ρ) N C T:= .eq (qL he hg rfl) ⟨h⟩
theorem dD (he:fe ρ= .ok (pv,ρ1)) (h:N ρ1):Go (cH fe ρ) N C T:= .eq (qj he) ⟨h⟩
theorem ci (he:fe ρ= .ok (pv,ρ1)) (hr:zb ρ1 pv=lD rv) (h:T rv):Go (cE fe ρ) N C T:= .eq (vx he hr) ⟨h⟩
theorem ei (h:N ρ):Go (bU ρ) N C T:=⟨h⟩
theorem wT (I:Nat->aI->Prop):∀(ds:List D) (k:Nat) (ρ:aI),I k ρ->(∀i d ρ,ds[i]? =lD d->I (k+i) ρ->∃ρ1,gt (.fz d) ρ= .ok ρ1/\Go (b ρ1) (I (k+i+1)) (I (k+i+1)) T)->Go (tQ gt b ds ρ) (I (k+ds.length)) C T
 |[],k,ρ,h0,_=>⟨h0⟩
 |d::r,k,ρ,h0,hs=>by
  obtain⟨ρ1,h1,h2⟩:=hs 0 d ρ rfl h0;have h2:=h2.out;have rest:∀ρ',I (k+1) ρ'->Go (tQ gt b r ρ') (I (k+(r.length+1))) C T:=fun ρ' h=>by
   have e:k+(r.length+1)=k+1+r.length:=by omega
   rw[e];refine wT I r (k+1) ρ' h fun i d' XW hi hI=> ?_;have e:k+1+i=k+(i+1):=by omega
   rw[e] at hI⊢;exact hs (i+1) d' XW (by simpa using hi) hI
  refine⟨?_⟩;show KQ _ _ _ ((gt (.fz d) ρ).bind _);rw[h1,Res.bind_ok];cases q:b ρ1 with
  |bad=>rw[q] at h2;exact h2.elim
  |er x=>rw[q] at h2;exact h2.elim
  |ok fl=>
   rw[q] at h2;cases fl with
   |nx r=>exact(rest _ h2).out
   |ct r=>exact(rest _ h2).out
   |rt v=>exact h2
   |bk r=>exact h2.elim
theorem uR (I:Nat->aI->Prop) (hi:fi ρ= .ok (ds,ρ1)) (h0:I 0 ρ1) (hs:∀i d ρ,ds[i]? =lD d->I i ρ->∃ρ1,gt (.fz d) ρ= .ok ρ1/\Go (b ρ1) (I (i+1)) (I (i+1)) T) (hN:∀ρ',I ds.length ρ'->N ρ'):Go (dW fi gt b ρ) N C T:=by have:=wT (C:=C) I ds 0 ρ1 h0 (by simpa using hs);rw[OY] at this;exact .eq (GY hi) (this.imp hN (fun _ h=>h) fun _ h=>h)
theorem ik (hρ:ds.map (fun d=>lD (.fz d))++Lq (n - ds.length) Ld=ρ) (h:Go (g ρ) (fun _=>T (.fz .none)) (fun _=>False) T):∃rv,d7 n g ds= .ok rv/\T rv:=by
 have h:=h.out;unfold d7;rw[hρ];cases q:g ρ with
 |bad=>rw[q] at h;exact h.elim
 |er x=>rw[q] at h;exact h.elim
 |ok fl=>
  rw[q] at h;cases fl with
  |nx r=>exact⟨_,rfl,h⟩
  |ct r=>exact h.elim
  |rt v=>exact⟨_,rfl,h⟩
  |bk r=>exact h.elim
theorem gk (hρ:ds.map (fun d=>lD (.fz d))++Lq (n - ds.length) Ld=ρ) (h:Go (g ρ) (fun _=>RV.fz .none=v) (fun _=>False) (fun r=>r=v)):d7 n g ds= .ok v:=by obtain⟨rv,h1,h2⟩:=ik (T:=fun r=>r=v) hρ h;rw[h1,h2]
theorem aY (he:fe ρ= .ok (pv,ρ1)) (hg:gt pv ρ1= .ok ρ2) (hn:ρ2=ρ3) (h:Go (g ρ3) N C T):Go (aA (aR fe gt) g ρ) N C T:= .eq (Am (qL he hg hn)) h
theorem Bo (he:fe ρ= .ok (pv,ρ1)) (hg:gt pv ρ1= .ok ρ2) (hn:ρ2=ρ3) (h:N ρ3):Go (aR fe gt ρ) N C T:= .eq (qL he hg hn) ⟨h⟩
theorem qV (he:fe ρ= .ok (pv,ρ1)) (h:Go (g ρ1) N C T):Go (aA (cH fe) g ρ) N C T:= .eq (Am (qj he)) h
theorem nv (he:fe ρ= .ok (pv,ρ1)) (hr:zb ρ1 pv=lD rv) (h:T rv):Go (aA (cE fe) g ρ) N C T:= .eq (Ht (vx he hr)) ⟨h⟩
theorem cU (h:Go (g ρ) N C T):Go (aA bU g ρ) N C T:= .eq rfl h
theorem yk:aA (aA f1 f2) g ρ=aA f1 (aA f2 g) ρ:=by
 unfold aA;cases f1 ρ with
 |bad=>rfl
 |er x=>rfl
 |ok fl=>cases fl<;>rfl
theorem Bj (h:Go (aA f1 (aA f2 g) ρ) N C T):Go (aA (aA f1 f2) g ρ) N C T:= .eq yk h
theorem jr (hc:c ρ= .ok (b,ρ1)) (ht:b=Lk->Go (aA f1 g ρ1) N C T) (hf:b=Lw->Go (aA f2 g ρ1) N C T):Go (aA (jo c f1 f2) g ρ) N C T:=by
 have e:aA (jo c f1 f2) g ρ=if b=Lk then aA f1 g ρ1 else aA f2 g ρ1:=by unfold aA jo;rw[hc,Res.bind_ok];cases b<;>rfl
 refine .eq e ?_;cases b with
 |true=>exact ht rfl
 |false=>exact hf rfl
theorem cN (I:Nat->aI->Prop) (hi:fi ρ= .ok (ds,ρ1)) (h0:I 0 ρ1) (hs:∀i d ρ,ds[i]? =lD d->I i ρ->∃ρ1,gt (.fz d) ρ= .ok ρ1/\Go (b ρ1) (I (i+1)) (I (i+1)) T) (hN:∀ρ',I ds.length ρ'->Go (g ρ') N C T):Go (aA (dW fi gt b) g ρ) N C T:=
 rH (uR I hi h0 hs hN)
theorem pc (I:aI->Prop) (P:Nat->D->Prop):∀(ds:List D) (k:Nat) (ρ:aI) (acc:List D),I ρ->acc.length+ds.length<=1000000->(∀i d,ds[i]? =lD d->∀ρ,I ρ->∃x ρ',kW gt ft fe d ρ= .ok (lD x,ρ')/\I ρ'/\P (k+i) x)->
  ∃xs,dC gt ft fe ds ρ acc= .ok (acc++xs)/\xs.length=ds.length/\∀i x,xs[i]? =lD x->P (k+i) x
 |[],k,ρ,acc,_,_,_=>⟨[],by show Res.ok acc=_;simp,rfl,fun i x h=>by simp at h⟩
 |d::r,k,ρ,acc,h0,hl,hs=>by
  obtain⟨x,ρ',h1,h2,h3⟩:=hs 0 d rfl ρ h0;rw[Lu] at hl;obtain⟨xs,g1,g2,g3⟩:=pc I P r (k+1) ρ' (acc++[x]) h2 (by rw[Ln];simp;omega) fun i d' hi XW hI=>by
   have e:k+1+i=k+(i+1):=by omega
   rw[e];exact hs (i+1) d' (by simpa using hi) XW hI
  refine⟨x::xs,?_,by rw[Lu,g2,Lu],fun i y hy=> ?_⟩
  ·rw[uU h1 (by omega)];show dC gt ft fe r ρ' (acc++[x])=_;rw[g1,LP];rfl
  ·cases i with
   |zero=>cases(show lD x=lD y from hy);exact h3
   |succ i=>
    have e:k+(i+1)=k+1+i:=by omega
    rw[e];exact g3 i y (by simpa using hy)
theorem zA (I:aI->Prop) (P:Nat->D->Prop) (h0:I ρ) (hl:ds.length<=1000000) (hs:∀i d,ds[i]? =lD d->∀ρ,I ρ->∃x ρ',kW gt ft fe d ρ= .ok (lD x,ρ')/\I ρ'/\P i x):
  ∃xs,kz (dC gt ft fe ds ρ [])= .ok xs/\xs.length=ds.length/\∀i x,xs[i]? =lD x->P i x:=by
 obtain⟨xs,g1,g2,g3⟩:=pc I P ds 0 ρ [] h0 (by simpa using hl) (by simpa using hs);exact⟨xs,by rw[g1];rfl,g2,by simpa using g3⟩
theorem xN {α:Type} {xs:List α} {i:Int} {v:α} (h0:0<=i) (h:xs[i.toNat]? =lD v):oE xs i=lD v:=A2 h0 h
theorem HQ (h0:0<=i) (h:ds[i.toNat]? =lD d):eO (.list ds) (.int i)=lD (.fz d):=by show(oE ds i).map RV.fz=_;rw[xN h0 h];rfl
theorem iH (h0:0<=n) (h:n<=1000000):dZ [.int n]=lD (nZ (Me n.toNat)):=by rw[vX (by unfold dL;omega),tL]
theorem Kc:lw (.int 10) (.int 8)=lD (.fz (.int (10^8))):=uZ ⟨by decide,by decide⟩
theorem Jx:lw (.int 10) (.int 24)=lD (.fz (.int (10^24))):=uZ ⟨by decide,by decide⟩
theorem dN {f:D->D->Option RV} (ha:fa ρ= .ok (pa,ρ1)) (hb:fb ρ1= .ok (pb,ρ2)) (hx:oV ρ2 (gQ pa)=lD dx) (hy:oV ρ2 pb=lD dy) (hf:f dx dy=lD (.fz (.bool b))):aG f fa fb ρ= .ok (.fz (.bool b),ρ2):=aZ ha hb hx hy hf
theorem AE {f:List D->Option RV} (ha:fr ρ= .ok (ps,ρ1)) (hd:rA ρ1 ps=lD ds) (hf:f ds=lD (.fz (.bool b))):gJ f fr ρ= .ok (.fz (.bool b),ρ1):=b7 ha hd hf
theorem gW (ha:fr ρ= .ok (ps,ρ1)) (hd:ni ρ1 ps=lD (ds,ρ2)) (hn:ds.length=n) (hF:F ds= .ok (.fz (.bool b))):cn F n fr ρ= .ok (.fz (.bool b),ρ2):=c9 ha hd hn hF
end
end L3
namespace L3
open PySem PySem.Spec PyProof.Rows L2 PySem.Builtin PySem.Builtin.Str
section
variable {K:Lc} {E:XK} {B O O':bu} {H0 H H':Hp} {σ:L2.St} {ρ ρ':aI} {v:V}
noncomputable def Gn:D->Option Int->Option Int->Option RV
 | .str z,lo,hi=>if z.length<=1000000 then lD (.fz (.str (Txt.slice z lo hi))) else Ld
 |_,_,_=>Ld
noncomputable def yE:D->D->Option RV
 | .str i,.str j=>if i.length+j.length<=1000000 then lD (.fz (.str (i++j))) else Ld
 |_,_=>Ld
theorem Cn:lc K (fun x y H Q=>∃i j,x= .str i/\y= .str j/\i.length+j.length<=LL/\Q (.str (i++j)) H) yE:=by
 intro O H x y dx dy rv Q n hx hy e q;unfold yE at e;split at e
 ·split at e
  ·rename_i hl;cases e;cases hx;cases hy;exact⟨_,_,rfl,rfl,tZ hl,q.at (.str _)⟩
  ·cases e
 ·cases e
end
end L3
namespace PySem
open Sem (wp)
open AutoSeq1 (wpAny_loadPart')
open Builtin Builtin.Str
end PySem
namespace PySem
open Sem (wp)
open Builtin Builtin.Str
end PySem
namespace L3
open PySem PySem.Spec PyProof.Rows L2 PySem.Builtin
end L3
namespace L3
open PySem L2
end L3
namespace L2
open PySem PySem.Spec PyProof.Rows
end L2
namespace L3
open PySem PySem.Spec L2
end L3
namespace L2
open PySem PySem.Spec PyProof.Rows
section
variable {κ:Type} [DecidableEq κ]
theorem Q0.RI (r:Q0 o u):o.isSome=u.isSome:=by
 cases o with
 |none=>cases u with
  |none=>rfl
  |some _=>exact(show False from r).elim
 |some _=>cases u with
  |none=>exact(show False from r).elim
  |some _=>rfl
theorem Q0.getD (r:Q0 o u) (rd:RelV d d'):RelV (o.getD d) (u.getD d'):=by
 cases o with
 |none=>cases u with
  |none=>exact rd
  |some _=>exact(show False from r).elim
 |some _=>cases u with
  |none=>exact(show False from r).elim
  |some _=>exact r
end
section
variable {X:Cx} {pins:List (Lp×Obj)} {σ:St} {H:Hp} {s:Lm} {a:Lp} {y v:V} {u r:Lf} {o:Option V} {A:L0} {E:Lf->Lm->Prop}
theorem Inv.big (I:Inv X pins σ H s):NM<s.heap.objs.size:=by have h:=(I.mod.glob.keeps I.bk).lt;exact OX (by decide) h
theorem xZ {h':Heap} {t':Nat} {ob:HO} (I:Inv X pins σ H s) (mu:IJ (H a)) (hs:Heap.SameBut a s.heap h') (he:∃q,h'.get? a=lD q) (new:MY X.prog X.w (upd H a ob) h' a ob):
  Inv X pins σ (upd H a ob) {s with heap:=h',toks:=t'}:=
 I.write (x:=a) (e:=a) mu (.inl rfl) (fun b q hb z=>(hs.2 b hb).trans z) he new
end
def GM (i:Mv):Prop:=∀ov iv,subscripted i Lw ov iv=operate [ov,iv] (getItem ov iv)
theorem xg {T id:String}
  (hl:typeLookup (.type T) "__getitem__"=pure (lD (.builtin id))) (hs:GM slice)
  (h:wpAny (model prog w) A (eval value env) (fun o s₁=>wpAny (model prog w) A (eval slice env) (fun i s₂=>s₂.TypeIs o T/\wpAny (model prog w) A (getItem o i) Q E s₂) E s₁) E s):
  wpAny (model prog w) A (eval (.Subscript value slice pos) env) Q E s:=by
 refine Subscript_ (wpAny_mono h (fun o s₁ h₁=>wpAny_mono h₁ (fun i s₂ h₂=> ?_) fun _ _ x=>x) fun _ _ x=>x);obtain⟨hT,h₂⟩:=h₂;unfold subscriptTail;refine Bn ?_;rw[getitemInPython_of_ne hT.not_modules];refine Bn (YN hT hl ?_);have fin:wpAny (model prog w) A (subscripted slice Lw o i) (fun r s₃=>wpAny (model prog w) A (letTemporaryGo value o r>>=fun _=>pure r) Q E s₃) E s₂:=by rw[hs o i];exact wpAny_operating (wpAny_mono h₂ (fun r s₃ h₃=>Bn (wpAny_letTemporaryGo (Li h₃))) fun _ _ x=>x)
 first
  |exact Li (Bn fin)
  |exact Bn (Li (Bn fin))
  |exact Bn fin
structure M1 (X:Cx) (o:Mv) (m:Str) (apos:Pos) (e:Mv) (OJ:Pos):Prop where
 base:attributeBase o m X.env (eval o X.env)=eval o X.env
 few:((backTo OJ (MM [e] X.env)).all (fun x=> !x.1)&&(backToKw OJ (keywordEach [] X.env)).all (fun x=>x.1.isSome)
  &&decide (([e]:List Mv).length+([]:List Rt).length+(if([]:List Rt).isEmpty then 0 else 1)<30))=Lk
 line:(apos.endLine==OJ.line)=Lk
 trees:backTo OJ (MM [e] X.env)=[(Lw,eval e X.env)]
structure M2 (X:Cx) (o:Mv) (m:Str) (apos:Pos) (e f:Mv) (OJ:Pos):Prop where
 base:attributeBase o m X.env (eval o X.env)=eval o X.env
 few:((backTo OJ (MM [e,f] X.env)).all (fun x=> !x.1)&&(backToKw OJ (keywordEach [] X.env)).all (fun x=>x.1.isSome)
  &&decide (([e,f]:List Mv).length+([]:List Rt).length+(if([]:List Rt).isEmpty then 0 else 1)<30))=Lk
 line:(apos.endLine==OJ.line)=Lk
 trees:backTo OJ (MM [e,f] X.env)=[(Lw,eval e X.env),(Lw,eval f X.env)]
end L2
namespace HT
open PySem PySem.Spec PyProof.Rows PySem.Calls
theorem vB (n:Nat):LJ.Slice.sliceAdjust Ld Ld (-1) (n:Int)=((n:Int) - 1,-1):=by
 unfold LJ.Slice.sliceAdjust;have h1:(-1:Int)<0:=by decide
 simp only[h1,if_true]
theorem vL (n:Nat):LJ.Slice.slicePlaces ((n:Int) - 1) (-1) (-1)=n:=by
 unfold LJ.Slice.slicePlaces;have h1:¬((-1:Int)>0):=by decide
 simp only[h1,if_false];by_cases h:(n:Int) - 1> -1
 ·rw[if_pos h,show(- -1:Int)=1 by decide,XB];omega
 ·rw[if_neg h];omega
theorem BJ (xs:Array Lf):((Me xs.size).filterMap fun(m:Nat)=>xs[((xs.size:Int) - 1+(m:Int)*(-1)).toNat]?).toArray=xs.toList.reverse.toArray:=by
 have e:(Me xs.size).filterMap (fun(m:Nat)=>xs[((xs.size:Int) - 1+(m:Int)*(-1)).toNat]?)=((Me xs.size).map fun k=>xs.size - 1 - k).filterMap (xs[·]?):=by
  rw[Ug];have key:∀l:List Nat,(∀m∈l,m<xs.size)->l.filterMap (fun(m:Nat)=>xs[((xs.size:Int) - 1+(m:Int)*(-1)).toNat]?)=l.filterMap ((xs[·]?)∘fun k=>xs.size - 1 - k):=by
   intro l
   induction l with
   |nil=>intro _;rfl
   |cons m r ih=>
    intro h;have hm:=h m (.head _);have e1:((xs.size:Int) - 1+(m:Int)*(-1)).toNat=xs.size - 1 - m:=by omega
    rw[NH,NH,ih fun k hk=>h k (.tail _ hk),e1];rfl
  exact key _ fun m hm=>Nj.mp hm
 rw[e,PySem.W.krv_range,List.filterMap_reverse,PySem.W.krv_all]
section
variable {prog:LR} {w:Mg} {A:L0} {E:Lf->Lm->Prop} {s:Lm}
theorem kT {sl:Lp} {vk:Lf} {n:Nat} {Q:Int×Int×Nat->Lm->Prop} (hs:s.heap.IsSliceOf sl .none .none vk) (pk:P6 vk (lD (-1)))
  (h:Q ((n:Int) - 1,-1,n) s):wpAny (model prog w) A (LJ.Slice.sliceApplied (.ref sl) (pure (n:Int))) Q E s:=by
 obtain⟨os,T8,Vs,Vz⟩:=id hs;unfold LJ.Slice.sliceApplied LJ.Slice.sliceFields;refine Bn (Bn (OW T8 Vz (x:= .none) rfl (Bn (OW T8 Vz (x:= .none) rfl (Bn (OW T8 Vz (x:=vk) rfl (Li ?_)))))));refine Bn (fy pk ?_);show wpAny _ _ (if((-1:Int)==0)=Lk then _ else _) _ _ s;rw[if_neg (by decide)];refine Bn (fy .none (Bn (fy .none (Bn (Li ?_)))));show wpAny _ _ (match LJ.Slice.sliceAdjust Ld Ld (-1) (n:Int) with|(lo,hi)=>pure (lo,(-1:Int),LJ.Slice.slicePlaces lo hi (-1))) _ _ s;rw[vB n];show wpAny _ _ (pure ((n:Int) - 1,(-1:Int),LJ.Slice.slicePlaces ((n:Int) - 1) (-1) (-1))) _ _ s;rw[vL];exact Li h
theorem getItem_tuple_rev {t sl:Lp} {items:Array Lf} {vk:Lf} {Q:Lf->Lm->Prop} (ht:IsTup s.heap t items) (hs:s.heap.IsSliceOf sl .none .none vk) (pk:P6 vk (lD (-1)))
  (h:Q (.ref s.heap.objs.size) {s with heap:=s.heap.push {cls:= .type "tuple",data:= .seq items.toList.reverse.toArray}})
  (hsz:items.size<=LL):wpAny (model prog w) A (getItem (.ref t) (.ref sl)) Q E s:=by
 have QB:sizeOk (.seq items.toList.reverse.toArray):=by show items.toList.reverse.toArray.size<=LL;rw[LC,Od,L5];exact hsz
 obtain⟨os,T8,Vs,Vz⟩:=id hs;have YF:s.TypeIs (.ref sl) "slice":=⟨os,T8,Vs⟩;unfold getItem
 try with_reducible refine Nd ?_
 first|refine Bn (Li ?_)|skip
 refine Bn (Ru ht.typeIs (by decide) ?_);refine Bn (M9 (name:=Str.ofString "__getitem__") ht.typeIs Mf
  (MN Mf ht.typeIs entry_tuple_getitem ?_ (args_tuple_getitem _ _)))
 show wpAny _ _ (LJ.Tuple.tupleItemsOf (.ref t)>>=_) _ _ s;refine Bn (tupleItemsOf_ ht ?_);refine Bn (Po YF ?_);rw[if_pos (by decide)];refine Bn (kT hs pk ?_);show wpAny _ _ (if(((items.size:Int) - 1)==0&&(-1:Int)==1&&items.size==items.size)=Lk then _ else _) _ _ s;rw[if_neg (by rw[show((-1:Int)==1)=Lw from by decide,V9,O8];exact LA),BJ]
 first
  |exact Bn (m:=LJ.Tuple.tupleExact _) (Mb (Li ⟨_,rfl,Li h⟩) QB)
  |exact Bn (m:=LJ.Tuple.tupleExact _) (Mb (Bn (Li (Li ⟨_,rfl,Li h⟩))) QB)
  |exact Bn (Bn (m:=LJ.Tuple.tupleExact _) (Mb (Li (Li ⟨_,rfl,Li h⟩)) QB))
  |exact Bn (Bn (m:=LJ.Tuple.tupleExact _) (Mb (Li ⟨_,rfl,Li h⟩) QB))
end
end HT
namespace L2
open PySem PySem.Spec PyProof.Rows
theorem Cj {xs:List V} {MD:List Lf} (h:Vals xs MD):Vals xs.reverse MD.reverse:=by
 induction h with
 |nil=>exact .nil
 |cons h t ih=>rw[Pp,Pp];exact ih.append (.cons h .nil)
def IU (K:Lc) (te:TE) (tk:TO):TE:=fun σ H Q=>te σ H fun x H1=>tk σ H1 fun o H2=>o=lD (-1)/\∃a xs,x= .ref a/\P9 K H2 a xs/\∀p,H2 p=Ld->Q (.ref p) (upd H2 p (.tup xs.reverse))
theorem zN {X:Cx} {e st:Mv} {p2 pos:Pos} {te:TE} {tk:TO} (he:PE X e te) (hk:PO X (lD st) tk):PE X (.Subscript e (.Slice Ld Ld (lD st) p2) pos) (IU X.K te tk):=by
 intro pins s σ H Q I h;refine Subscript_ (ce (he pins s σ H _ I h) fun v s1 ⟨x,H1,I1,r1,q1⟩=> ?_);refine wpAny_Slice ?_;rw[TC];refine Li ?_;refine Li (ce (hk pins s1 σ H1 _ I1 q1) fun vk s3 ⟨o,H3,I3,pk,e3,a,xs,ea,hx,q3⟩=> ?_);subst e3 ea;cases r1;have I4:Inv X pins σ H3 {s3 with heap:=s3.heap.push {cls:= .type "slice",data:= .fields #[.none,.none,vk]}}:=I3.kept (t':=s3.toks) fun b ob q=>Heap.get?_push_of_some _ q;obtain⟨MD,r,ht,hz⟩:=I4.tuple hx;have hlen:MD.toArray.size=xs.length:=by rw[LC];exact r.length.symm
 show wpAny (model X.prog X.w) X.A (subscriptTail e (.Slice Ld Ld (lD st) p2) (.ref a) (.ref s3.heap.objs.size)) (EP X pins σ Q) X.xe {s3 with heap:=s3.heap.push {cls:= .type "slice",data:= .fields #[.none,.none,vk]}};refine tail_any (ops:=[.ref a,.ref s3.heap.objs.size]) ht.typeIs Mf.lookup ?_ (by with_unfolding_all rfl);refine HT.getItem_tuple_rev ht (Heap.IsSliceOf.new ..) pk ?_ (by rw[hlen];exact hz);refine⟨.ref _,_,I4.laid (t':=s3.toks) (o:= .tup xs.reverse) (fun b ob q=>Heap.get?_push_of_some _ q) (Ll _) ?_,rfl,q3 _ (I4.NO.fresh (Ll _))⟩;exact⟨by rw[Od];exact hz,_,Cj r,Q1.new _ _⟩
end L2
namespace PySem
open Sem (wp)
open Builtin
open AutoSeq1 (wpAny_loadPart')
end PySem
namespace L3
open PySem PySem.Spec PyProof.Rows L2
def EY (K:Lc):R2:=fun x y H Q=>∃(a b:Lp) (ys:List V),x= .ref a/\y= .ref b/\P9 K H a []/\P9 K H b ys/\Q (.ref b) H
theorem Dh {X:Cx}:OpR X (Nl .Add) (EY X.K):=by
 intro pins s σ H x y v u Q I rx ry h;obtain⟨a,b,ys,rfl,rfl,ha,hb,q⟩:=h;cases rx;cases ry;obtain⟨MD,r1,p1,_⟩:=I.tuple ha;obtain⟨UG,r2,p2,_⟩:=I.tuple hb;cases r1;obtain⟨⟨cls,dd,data,sl⟩,ho,hc,n,hd⟩:=id p1;obtain⟨⟨aau,Zf,data2,Sn⟩,WT,WE,n2,hd2⟩:=id p2;simp only at hc hd WE hd2;subst hc hd WE hd2;exact Us ⟨_,ho,rfl⟩ ⟨_,WT,rfl⟩ RP TB PB Pn (Pb _ _)
  (tuple_addW0 a b _ UG.toArray n n2 dd Zf sl Sn rfl) ⟨ho,WT,⟨.ref b,H,I,rfl,q⟩⟩
def FD (K:Lc):R2:=fun x y H Q=>CL K x y H Q\/EY K x y H Q
theorem xt {X:Cx}:OpR X (Nl .Add) (FD X.K):=OpR.or g8 Dh
noncomputable def AH:D->D->Option RV
 | .tuple [],.tuple ys=>lD (.fz (.tuple ys))
 |d,e=>bI d e
theorem tT {K:Lc}:lc K (FD K) AH:=by
 intro O H x y dx dy rv Q n hx hy e q;unfold AH at e;split at e
 ·cases e;obtain⟨a,xs,rfl,h1,h2⟩:=wM hx;obtain⟨b,ys,rfl,g1,g2⟩:=wM hy;cases h2;exact .inr ⟨a,b,ys,rfl,rfl,h1.1,g1.1,q.at (.tup g1 g2)⟩
 ·exact .inl (hE O H x y dx dy rv Q n hx hy e q)
end L3
namespace L4
open PySem PySem.Spec PyProof.Rows L2 L3
structure Lft (l:List Env) (e:Lp) (hd:Option Lp) (h h':Heap):Prop where
 keep:∀b o,h.get? b=lD o->b≠e->hd≠lD b->b∉zh l->h'.get? b=lD o
 slot:∀b o,h.get? b=lD o->b≠e->hd≠lD b->∃sl,h'.get? b=lD {o with slots:=sl}
 here:∀b o,h.get? b=lD o->∃o',h'.get? b=lD o'
section
variable {P:LR} {w:Mg} {K:Lc} {mg:Str->Option Lf} {base:Heap} {N:List Str} {qual:Str} {scope:Pk} {f:Lp} {cd:Lf} {A:L0} {outer:List Env} {s0:Lm} {H0:Hp} {E:XK} {CX:vA}
  {σ:L2.St} {H:Hp} {s:Lm} {h':Heap} {X:Cx}
end
def Jv (K:Lc) (C:Lp) (m:List Lf):Prop:=∃nm q N bs hd sn sub ab col dd k0 k1 k2 k3 k5 id,K.lookup C=lD (excClassObj nm q C N bs m hd sn sub ab col dd k0 k1 k2 k3 k5 id)
structure Apart (X:Cx) (a:Lp):Prop where
 n0:X.s₀.heap.get? a=Ld
 nL:a≠X.env.locals
 nC:∀y c,X.env.cells.lookup y=lD c->c≠a
 nP:∀p∈X.pn,p.1≠a
end L4
namespace L4
open PySem PySem.Spec L2 L3
end L4
namespace L4
open PySem PySem.Spec PySem.W PyProof.Rows L2 L3
section
variable {prog:LR} {w:Mg} {A:L0} {E:Lf->Lm->Prop} {h:Heap} {g:Array Rr} {d:W4} {t:Nat} {os:W7} {a C:Lp} {o:Obj} {K:Lc}
  {n1 q1:Str} {N1:Lp} {b1 m1:List Lf} {d1:Bool} {s1:List Str} {u1:List Lf} {a1:Bool} {c1:Option Bool} {x1:Option Lp} {i0 i1 i2 i3 i5:Option Lf} {id1:String}
structure aab (K:Lc) (C:Lp) (m:List Lf):Prop where
 cl:Jv K C m
 be:m.contains (.type "BaseException")=Lk
 ga:findIn K (.ref C) "__getattribute__"=lD (lD (.builtin "BaseException.__getattribute__"))
 gt:findIn K (.ref C) "__getattr__"=lD Ld
 cs:findIn K (.ref C) "__class__"=lD (lD (.builtin "object.__class__"))
 ob:mroIn K C (.type "object")=lD Lk
end
end L4
namespace L4
open PySem PySem.SeqAt PySem.Spec PySem.W PyProof.Rows L2 L3
end L4
namespace L4
open PySem PySem.Spec PySem.W PyProof.Rows L2 L3
end L4
namespace PySem
open Sem (wp)
open PyProof.Rows
end PySem
namespace L3
open PySem PySem.Spec PyProof.Rows L2
end L3
namespace HT
open PySem PySem.Spec PyProof.Rows
section
variable {prog:LR} {w:Mg} {A:L0} {E:Lf->Lm->Prop} {s:Lm}
theorem getItem_tuple_all {t sl:Lp} {items:Array Lf} {vl vu:Lf} {lo hi:Option Int} {Q:Lf->Lm->Prop} (ht:IsTup s.heap t items) (hs:s.heap.IsSliceOf sl vl vu .none) (pl:P6 vl lo) (pu:P6 vu hi)
  (hw:sIx items.size 0 lo=0/\sIx items.size items.size hi=items.size) (h:Q (.ref t) s):wpAny (model prog w) A (getItem (.ref t) (.ref sl)) Q E s:=by
 obtain⟨os,T8,Vs,Vz⟩:=id hs;have YF:s.TypeIs (.ref sl) "slice":=⟨os,T8,Vs⟩;unfold getItem
 try with_reducible refine Nd ?_
 first|refine Bn (Li ?_)|skip
 refine Bn (Ru ht.typeIs (by decide) ?_);refine Bn (M9 (name:=Str.ofString "__getitem__") ht.typeIs Mf
  (MN Mf ht.typeIs entry_tuple_getitem ?_ (args_tuple_getitem _ _)))
 show wpAny _ _ (LJ.Tuple.tupleItemsOf (.ref t)>>=_) _ _ s;refine Bn (tupleItemsOf_ ht ?_);refine Bn (Po YF ?_);rw[if_pos (by decide)];refine Bn (gH hs pl pu ?_);have ZE:((((sIx items.size 0 lo:Nat):Int)==0&&(1:Int)==1&&(sIx items.size items.size hi - sIx items.size 0 lo)==items.size)=Lk):=by rw[hw.1,hw.2];simp
 show wpAny _ _ (if(((sIx items.size 0 lo:Nat):Int)==0&&(1:Int)==1&&(sIx items.size items.size hi - sIx items.size 0 lo)==items.size)=Lk then _ else _) _ _ s;rw[if_pos ZE];refine Bn (m:=LJ.Tuple.tupleIsExact _) ?_;unfold LJ.Tuple.tupleIsExact;refine Bn (Po ht.typeIs (Li ?_));rw[if_pos (by decide)];refine Bn (Qu ?_);exact Li ⟨_,rfl,Li h⟩
end
end HT
namespace L3
open PySem PySem.Spec PyProof.Rows L2
def IM (K:Lc):V->Option Int->Option Int->Hp->VK->Prop:=fun x lo hi H Q=>∃(a:Lp) (xs:List V),x= .ref a/\P9 K H a xs/\(HT.sIx xs.length 0 lo=0/\HT.sIx xs.length xs.length hi=xs.length)/\Q (.ref a) H
theorem Cs {X:Cx}:Iw X (IM X.K):=by
 intro pins s σ H x v vl vu lo hi sl Q I rx hs pl pu h;obtain⟨a,xs,rfl,hx,hw,q⟩:=h;cases rx;obtain⟨MD,r,ht,hz⟩:=I.tuple hx;have hlen:MD.toArray.size=xs.length:=by rw[LC];exact r.length.symm
 refine⟨"tuple",_,Mf.lookup,ht.typeIs,?_⟩;exact HT.getItem_tuple_all ht hs pl pu (by rw[hlen];exact hw) ⟨.ref a,H,I,rfl,q⟩
def Jy (K:Lc):V->Option Int->Option Int->Hp->VK->Prop:=fun x lo hi H Q=>G9 K x lo hi H Q\/IM K x lo hi H Q
theorem lL {X:Cx}:Iw X (Jy X.K):=by
 intro pins s σ H x v vl vu lo hi sl Q I rx hs pl pu q;rcases q with q|q
 ·exact uX pins s σ H x v vl vu lo hi sl Q I rx hs pl pu q
 ·exact Cs pins s σ H x v vl vu lo hi sl Q I rx hs pl pu q
noncomputable def mE:D->Option Int->Option Int->Option RV
 | .list ds,lo,hi=>lD (.ow (iq ds lo hi))
 | .tuple ds,lo,hi=>lD (.fz (.tuple (iq ds lo hi)))
 |_,_,_=>Ld
theorem Dj {ds:List D} {lo hi:Option Int} (h:HT.sIx ds.length 0 lo=0/\HT.sIx ds.length ds.length hi=ds.length):iq ds lo hi=ds:=by unfold iq;rw[h.1,h.2,Wa,XH,M7]
theorem vT {K:Lc}:Kj K (Jy K) mE:=by
 intro O H x lo hi dx rv Q n hx e q;cases dx with
 |list ds=>exact .inl (lY O H x lo hi _ rv Q n hx e q)
 |tuple ds=>
  cases e;by_cases hw:HT.sIx ds.length 0 lo=0/\HT.sIx ds.length ds.length hi=ds.length
  ·obtain⟨a,xs,rfl,h1,h2⟩:=wM hx;rw[Dj hw] at q;refine .inr ⟨a,xs,rfl,h1.1,by rw[h2.length];exact hw,q.at (.tup h1 h2)⟩
  ·refine .inl (lY O H x lo hi (.tuple ds) _ Q n hx ?_ q)
   show(if i4 ds.length lo hi=Lk then Ld else lD (RV.fz (.tuple (iq ds lo hi))))=_;have z:i4 ds.length lo hi=Lw:=by unfold i4;exact decide_eq_false hw
   rw[z,if_neg LA]
 |_=>cases e
section
variable {K:Lc} {E:XK}
open Classical in
end
end L3
namespace L9
open PySem PySem.Spec PyProof.Rows
end L9
namespace L9
open PySem PySem.W PyProof.Rows Builtin Builtin.ObjectAttr
noncomputable abbrev KP:List Lf:=[.type "ValueError",.type "Exception",.type "BaseException",.type "object"]
end L9
namespace L9
open PySem PySem.Spec PyProof.Rows L2
structure XC (K:Lc) (C B fI:Lp):Prop where
 obj:∃nm q N bs sn sub ab col dd k0 k1 k2 k3 k5,K.lookup C=lD (excClassObj nm q C N bs (.ref B::KP) Lk sn sub ab col dd k0 k1 k2 k3 k5 "ValueError.__new__")/\PySem.W.nsOkIn K N=Lk/\MF K N "__init__"=lD (lD (.ref fI))
 base:PySem.W.excIn K B KP "ValueError.__new__"=Lk
 sa:Nh K (.ref C) "__setattr__"=lD (lD (.builtin "object.__setattr__"))
end L9
namespace L9
open PySem PySem.Spec PyProof.Rows L2 L4
end L9
namespace L9
open PySem PySem.Spec PySem.W PyProof.Rows L2 L3 L4
section
variable {prog:LR} {w:Mg} {A:L0} {E:Lf->Lm->Prop} {h:Heap} {g:Array Rr} {d:W4} {t:Nat} {os:W7} {a C:Lp} {o:Obj} {K:Lc} {od:Option Obj} {name:Str} {v:Lf}
  {n1 q1:Str} {N1:Lp} {b1 m1:List Lf} {d1:Bool} {s1:List Str} {u1:List Lf} {a1:Bool} {c1:Option Bool} {x1:Option Lp} {i0 i1 i2 i3 i5:Option Lf} {id1:String}
end
end L9
namespace L3
open PySem PySem.Spec PyProof.Rows L2
mutual
noncomputable def Ky:Lg->Bool
 | .tuple ds=>Gx ds
 | .int _=>Lk
 | .str _=>Lk
 | .bool _=>Lk
 | .none=>Lk
 |_=>Lw
noncomputable def Gx:List Lg->Bool
 |[]=>Lk
 |d::r=>Ky d&&Gx r
end
section
variable {K:Lc} {E:XK} {B:bu} {H0:Hp} {O B':bu} {σ:L2.St} {H H':Hp} {ρ:aI}
theorem Dc (h:P9 K H a xs) (l:H a=lD (.lst ys)):P9 K (fun _=>Ld) a xs:=by
 rcases h with(h|⟨o,h⟩)|h
 ·rw[l] at h;cases h
 ·rw[l] at h;cases h
 ·exact .inr h
mutual
theorem Ez (hO:∀b,O b->¬B' b->∃ys,H b=lD (.lst ys)):∀{v:V} {d:D},DV B' K H v d->Ky d=Lk->DV O K H v d
 |_,_,.ON,_=> .ON
 |_,_,.bl b,_=> .bl b
 |_,_,.int i,_=> .int i
 |_,_,.str x,_=> .str x
 |_,_,.tup (a:=a) h hs,e=> .tup ⟨h.1,fun z=>by
   by_cases y:B' a
   ·exact h.2 y
   ·obtain⟨ys,q⟩:=hO a z y;exact Dc h.1 q⟩ (sW hO hs e)
 |_,_,.lst h hs,e=>by cases e
theorem sW (hO:∀b,O b->¬B' b->∃ys,H b=lD (.lst ys)):∀{vs:List V} {ds:List D},Nc B' K H vs ds->Gx ds=Lk->Nc O K H vs ds
 |_,_,.nil,_=> .nil
 |_,_,.cons h hs,e=>by have e':=Bool.and_eq_true_iff.mp e;exact .cons (Ez hO h e'.1) (sW hO hs e'.2)
end
end
end L3
namespace PySem
end PySem
namespace PyProof.Rows
open PySem
end PyProof.Rows
namespace L9
open PySem PySem.Spec PyProof.Rows L2 L3
section
variable {K:Lc} {E:XK}
def Fi:R2:=fun x y H Q=>∃(z:Str) (n:Int),x= .str z/\y= .int n/\z.length<=1000/\0<=n/\n<=1000/\Q (.str (Txt.mul z n)) H
theorem xj:OpR X (Nl .Mult) Fi:=by
 intro pins s σ H x y v u Q I rx ry h;obtain⟨z,n,rfl,rfl,hz,h0,h1,q⟩:=h;obtain⟨t,rfl⟩:=rx;obtain⟨t',rfl⟩:=ry;refine SB.mul ⟨?_,fun _ _=> ?_,fun _ _=> ?_⟩ fun t' k=>⟨.str _,H,I.tok k,⟨_,rfl⟩,q⟩
 ·simp;omega
 ·have:(1000:Int)<=(2^63 - 1)/n:=Int.le_ediv_of_mul_le (by omega) (by omega);omega
 ·have:z.length*n.toNat<=1000*1000:=Oz hz (by omega);unfold LJ.Str.tooLong;have h2:=VG;simp;omega
noncomputable def uD:D->D->Option RV
 | .str z,.int n=>if z.length<=1000/\0<=n/\n<=1000 then lD (.fz (.str (Txt.mul z n))) else Ld
 |_,_=>Ld
theorem sN:lc K Fi uD:=by
 intro O H x y dx dy rv Q n hx hy e q;unfold uD at e;split at e
 ·split at e
  ·rename_i hc;cases e;cases hx;cases hy;exact⟨_,_,rfl,rfl,hc.1,hc.2.1,hc.2.2,q.at (.str _)⟩
  ·cases e
 ·cases e
end
end L9
namespace L9
open PySem PySem.W PyProof.Rows Builtin Builtin.ObjectAttr
open PySem.Spec L2
open L3 L4
noncomputable def Cr:D->Option RV
 | .tuple ds=>lD (.fz (.tuple ds.reverse))
 |_=>Ld
theorem v4 {K:Lc} {O:bu} {H:Hp}:∀{vs:List V} {ds:List D},Nc O K H vs ds->Nc O K H vs.reverse ds.reverse
 |_,_,.nil=> .nil
 |_,_,.cons h t=>by rw[Pp,Pp];exact(v4 t).append (.cons h .nil)
theorem CZ {K:Lc} {E:XK} {ta:TE} {fa:FE} (ha:EO K E ta fa):EO K E (IU K ta (AB (KI (rU fun i=> .int (-i)) (tC (.int 1))))) (Io Cr fa):=by
 intro B H0 O σ H ρ Q R w;refine ha B H0 O σ H ρ _ R (w.bind.imp fun a w1 O1 x H1 e1 R1 p1=> ?_);obtain⟨d,qd,w1⟩:=w1.ME;obtain⟨rv,qf,w1⟩:=w1.ME;have dx:=jS R1 p1 qd;unfold Cr at qf;split at qf
 ·cases qf;obtain⟨b,vs,rfl,k1,k2⟩:=wM dx;refine⟨1,rfl,-1,rfl,rfl,b,vs,rfl,k1.1,?_⟩;exact Fin.TK (v4 k2) R1.od (jI (rv:= .fz (.tuple _)) R1 fun O4 v H4 e4 R4 p4=>w1 O4 v H4 (e1.trans e4) R4 p4)
 ·cases qf
end L9
namespace LD
open PySem PyProof.Rows L2 L3
mutual
noncomputable def kd:Lg->Bool
 | .none=>Lk
 | .int _=>Lk
 | .str x=>Lg.strOk x
 | .tuple xs=>kds xs
 |_=>Lw
noncomputable def kds:List Lg->Bool
 |[]=>Lk
 |x::r=>kd x&&kds r
end
noncomputable def keyD:Lg->Bool
 | .tuple xs=>kds xs&&decide ((Lg.tuple xs).depth<=8)
 |_=>Lw
mutual
theorem pN:∀d:Lg,kd d=Lk->d.canLay0=Lk
 | .none,_=>rfl
 | .int _,_=>rfl
 | .str x,h=>by unfold Lg.canLay0;unfold kd at h;exact h
 | .tuple xs,h=>by unfold Lg.canLay0;unfold kd at h;exact yf xs h
 | .bool _,h| .list _,h| .dict _,h=>by simp[kd] at h
theorem yf:∀xs:List Lg,kds xs=Lk->Lg.canLayAll0 xs=Lk
 |[],_=>rfl
 |x::r,h=>by unfold kds at h;rw[LU] at h;unfold Lg.canLayAll0;rw[pN x h.1,yf r h.2];rfl
end
mutual
theorem B3:∀d e:Lg,kd d=Lk->kd e=Lk->Lg.eqv d e=Lk->d=e
 | .none,e,_,h,q=>by cases e<;>simp_all [kd,Lg.eqv]
 | .int i,e,_,h,q=>by cases e<;>simp_all [kd,Lg.eqv]
 | .str x,e,_,h,q=>by cases e<;>simp_all [kd,Lg.eqv]
 | .tuple xs,e,g,h,q=>by
  cases e with
  |tuple ys=>rw[Lg.eqv] at q;unfold kd at g h;rw[xG xs ys g h q]
  |_=>simp_all [kd,Lg.eqv]
 | .bool _,_,h,_,_| .list _,_,h,_,_| .dict _,_,h,_,_=>by simp[kd] at h
theorem xG:∀xs ys:List Lg,kds xs=Lk->kds ys=Lk->Lg.eqvAll xs ys=Lk->xs=ys
 |[],[],_,_,_=>rfl
 |[],_::_,_,_,q=>by simp[Lg.eqvAll] at q
 |_::_,[],_,_,q=>by simp[Lg.eqvAll] at q
 |x::xs,y::ys,g,h,q=>by unfold kds at g h;rw[Lg.eqvAll] at q;rw[LU] at g h q;rw[B3 x y g.1 h.1 q.1,xG xs ys g.2 h.2 q.2]
end
theorem AY [Decidable (d=e)] (hd:kd d=Lk) (he:kd e=Lk):Lg.eqv d e=decide (d=e):=by
 by_cases q:d=e
 ·subst q;rw[decide_eq_true rfl];exact SeqAt.eqv_refl d (pN d hd)
 ·rw[decide_eq_false q]
  cases z:Lg.eqv d e with
  |false=>rfl
  |true=>exact absurd (B3 d e hd he z) q
theorem cY (h:keyD d=Lk):kd d=Lk/\d.depth<=8:=by
 cases d with
 |tuple xs=>unfold keyD at h;rw[LU] at h;exact⟨by unfold kd;exact h.1,of_decide_eq_true h.2⟩
 |_=>simp[keyD] at h
mutual
noncomputable def k7 (w:Mg):Lg->Int
 | .none=>reduceHash 0xFCA86420
 | .int i=>hashInt i
 | .str x=>hashStr w x
 | .tuple xs=>reduceHash (LJ.Tuple.tupleHashOf (nO w xs))
 |_=>0
noncomputable def nO (w:Mg):List Lg->List Int
 |[]=>[]
 |x::r=>k7 w x::nO w r
end
mutual
noncomputable def JV:Lg->Nat
 | .tuple xs=>DB xs+1
 |_=>1
noncomputable def DB:List Lg->Nat
 |[]=>0
 |x::r=>JV x+DB r
end
section
variable {prog:LR} {w:Mg} {E:Lf->Lm->Prop}
mutual
theorem wZ:∀(d:Lg) (v:Lf) (as:List Lp) (A:L0) (s:Lm) (Q:Int->Lm->Prop),kd d=Lk->NJ s.heap v d as->A.units+d.depth<cLine->Q (k7 w d) {s with toks:=s.toks+JV d}->wpAny (model prog w) A (pyHash v) Q E s
 | .none,_,_,A,s,Q,_,r,hu,h=>by cases r;exact SI (T:= "NoneType") rfl F.slot_NoneType_hash F.entry_NoneType_hash (F.args_NoneType_hash_1 _) (XI _) (.inr (by omega)) (Bn (Li (Bn (wpAny_mkInt (Li ⟨_,_,rfl,h⟩)))))
 | .int i,_,_,A,s,Q,_,r,_,h=>by cases r;exact Xy h
 | .str x,_,_,A,s,Q,_,r,_,h=>by cases r;exact Xz h
 | .tuple xs,_,_,A,s,Q,hk,r,hu,h=>by
  cases r with
  | @tuple a o vs n _ _ h1 h2 h3 h4=>
   refine SI (T:= "tuple") ⟨_,h1,h2⟩ F.slot_tuple_hash F.entry_tuple_hash (F.args_tuple_hash_1 _) (XI _) (.inr (by omega)) ?_;show wpAny _ _ (LJ.Tuple.tupleItemsOf (.ref a)>>=_) _ _ s;refine Bn (OA h1 h3 ?_);refine Bn ?_;rw[<-TH];unfold kd at hk;refine oS xs vs.toList _ A.in1 s #[] _ hk h4 (by simp only[Lg.depth,L0.in1_units] at hu⊢;omega) fun b hb=> ?_;show wpAny _ _ (retInt (LJ.Tuple.tupleHashOf b.toList)) _ _ _;rw[hb];refine Bn (wpAny_mkInt (Li ⟨_,_,rfl,?_⟩));unfold k7 JV at h
   simpa [W8] using h
 | .bool _,_,_,_,_,_,h,_,_,_| .list _,_,_,_,_,_,h,_,_,_| .dict _,_,_,_,_,_,h,_,_,_=>by simp[kd] at h
theorem oS:∀(xs:List Lg) (vs:List Lf) (as:List Lp) (A:L0) (s:Lm) (b:Array Int) (Q:Array Int->Lm->Prop),kds xs=Lk->NS s.heap vs xs as->A.units+Lg.depthAll xs<cLine->
  (∀b':Array Int,b'.toList=b.toList++nO w xs->Q b' {s with toks:=s.toks+DB xs})->
  wpAny (model prog w) A (forIn vs b fun x r=>do let h<-pyHash x;pure PUnit.unit;pure (ForInStep.yield (r.push h))) Q E s
 |[],_,_,A,s,b,Q,_,x,_,h=>by cases x;exact Li (h b (by simp[nO]))
 |k::xs,_,_,A,s,b,Q,hk,x,hu,h=>by
  cases x with
  |cons x1 x2=>
   unfold kds at hk;simp only[LU,Lg.depthAll] at hk hu;rw[Rm];refine Bn (Bn (wZ k _ _ A s _ hk.1 x1 (by omega) ?_));refine Bn (Li (Li ?_));refine oS xs _ _ A _ _ Q hk.2 x2 (by omega) fun b' hb=> ?_;have:=h b' (by simp[hb,nO]);unfold DB at this
   simpa [W8] using this
end
theorem sY:∀(n:Nat) (d:Lg) (v:Lf) (as:List Lp) (A:L0) (s:Lm) (Q:Bool->Lm->Prop),kd d=Lk->NJ s.heap v d as->d.depth<=n->Q Lk s->wpAny (model prog w) A (eqIsQuiet n v) Q E s
 |n,.none,_,_,A,s,Q,_,r,_,h=>by cases r;rw[Rv _ rfl];exact Li h
 |n,.int i,_,_,A,s,Q,_,r,_,h=>by cases r;rw[Rv _ rfl];exact Li h
 |n,.str i,_,_,A,s,Q,_,r,_,h=>by cases r;rw[Rv _ rfl];exact Li h
 |0,.tuple xs,_,_,A,s,Q,hk,r,hn,h=>by simp only[Lg.depth] at hn;omega
 |n+1,.tuple xs,_,_,A,s,Q,hk,r,hn,h=>by
  cases r with
  | @tuple a o vs m _ _ h1 h2 h3 h4=>
   have hT:s.TypeIs (.ref a) "tuple":=⟨_,h1,h2⟩;simp only[Lg.depth] at hn;unfold eqIsQuiet;refine Bn (YN hT F.slot_tuple_eq.lookup ?_);refine Bn (NT hT Qy ?_);simp only[MZ,Lr,if_false];refine Bn (QJ h1 h3 ?_);refine Bn ?_;rw[<-TH];unfold kd at hk;refine RQ _ (fun rest r s'=>r.1=Ld/\s'=s/\∃ys bs,kds ys=Lk/\NS s.heap rest ys bs/\Lg.depthAll ys<=n) _ ?_ ?_ _ _ ⟨rfl,rfl,xs,_,hk,h4,by omega⟩
   ·rintro v rest r s' ⟨hr,rfl,ys,bs,k1,k2,k3⟩
    cases k2 with
    | @cons _ _ y TR _ _ g1 g2=>unfold kds at k1;simp only[LU,Lg.depthAll] at k1 k3;refine Bn (sY n y v _ A s' _ k1.1 g1 (by omega) ?_);simp only[MZ,Lr,if_false];exact Li ⟨rfl,rfl,TR,_,k1.2,g2,by omega⟩
   ·rintro⟨r1,r2⟩ s' ⟨hr,rfl,_⟩;simp only at hr;subst hr;exact Li h
 |_,.bool _,_,_,_,_,_,h,_,_,_|_,.list _,_,_,_,_,_,h,_,_,_|_,.dict _,_,_,_,_,_,h,_,_,_=>by simp[kd] at h
end
mutual
theorem o4 {h h':Heap} {x:Lp} {ob:Obj} {es:Array Na} {ep:Nat} (hx:h.get? x=lD ob) (he:ob.data= .dict es ep) (hs:Heap.SameBut x h h'):∀(d:Lg) (v:Lf) (as:List Lp),kd d=Lk->NJ h v d as->NJ h' v d as
 | .none,_,_,_,r=>by cases r;exact .none
 | .int _,_,_,_,r=>by cases r;exact .int _ _
 | .str _,_,_,_,r=>by cases r;exact .str _ _
 | .tuple xs,_,_,k,r=>by
  cases r with
  | @tuple a o vs n _ _ h1 h2 h3 h4=>
   have OK:a≠x:=by rintro rfl;rw[hx] at h1;cases h1;rw[he] at h3;exact nomatch h3
   unfold kd at k;exact .tuple ((hs.2 a OK).trans h1) h2 h3 (l9 hx he hs xs _ _ k h4)
 | .bool _,_,_,h,_| .list _,_,_,h,_| .dict _,_,_,h,_=>by simp[kd] at h
theorem l9 {h h':Heap} {x:Lp} {ob:Obj} {es:Array Na} {ep:Nat} (hx:h.get? x=lD ob) (he:ob.data= .dict es ep) (hs:Heap.SameBut x h h'):∀(ds:List Lg) (vs:List Lf) (as:List Lp),kds ds=Lk->NS h vs ds as->NS h' vs ds as
 |[],_,_,_,r=>by cases r;exact .nil
 |d::ds,_,_,k,r=>by
  cases r with
  |cons r1 r2=>unfold kds at k;rw[LU] at k;exact .cons (o4 hx he hs d _ _ k.1 r1) (l9 hx he hs ds _ _ k.2 r2)
end
abbrev KD:={d:Lg//keyD d=Lk}
noncomputable instance kdDec:DecidableEq KD:=fun _ _=>Classical.propDecidable _
noncomputable def bL (prog:LR) (w:Mg):HeapKind prog w KD where
 is:=fun h k a=>∃as,NJ h (.ref a) k.1 as
 hash:=fun k=>k7 w k.1
 draws:=fun k=>JV k.1
 room:=fun A=>A.units+8<cLine
 inj:=fun⟨_,r⟩ ⟨_,r'⟩=>Subtype.ext (NJ.unique r _ _ r').1
 keeps:=fun{h h' k a d o es ep} ⟨as,r⟩ ho hd hs=>⟨as,o4 ho hd hs k.1 _ _ (cY k.2).1 r⟩
 pyHash:=fun{A E s k a Q} hu ⟨as,r⟩ q=>wZ k.1 _ as A s Q (cY k.2).1 r (by have:=(cY k.2).2;omega) q
 eqBool:=fun{A E s x y a b Q} hu ⟨as,r⟩ ⟨bs,r'⟩ q=>SeqAt.eqAt_reads x.1 y.1 A s _ _ as bs r r' (pN _ (cY x.2).1) (pN _ (cY y.2).1) (by have:=(cY x.2).2;omega) prog w E Q (by
  haveI:Decidable (x.1=y.1):=Classical.propDecidable _
  rw[AY (cY x.2).1 (cY y.2).1];by_cases e:x=y
  ·rw[decide_eq_true e] at q;rw[decide_eq_true (congrArg Subtype.val e)];exact q
  ·rw[decide_eq_false e] at q;rw[decide_eq_false fun z=>e (Subtype.ext z)];exact q)
 quiet:=fun{A E s k a Q} ⟨as,r⟩ q=>sY 8 k.1 _ as A s Q (cY k.2).1 r (cY k.2).2 q
def KO (a:Lp) (xs:List (KD×Lp×V)) (w:Mg) (h:Heap):Prop:=
 (xs.length<=LL/\(a==NM)=Lw/\(xs.map (·.1)).Nodup)/\∃o es ep,h.get? a=lD o/\o.ExactDict/\o.data= .dict es ep/\Paired (fun(x:KD×Lp×V) (e:Na)=>e.hash=k7 w x.1.1/\e.key= .ref x.2.1/\RelV x.2.2 e.val) xs es.toList
noncomputable abbrev DkO (a:Lp) (xs:List (KD×Lp×V)):HO:= .Xs (KO a xs)
noncomputable abbrev PrD (O:bu) (K:Lc) (H:Hp):List (KD×Lp×V)->List (D×D)->Prop:=
 Paired fun x kv=>x.1.1=kv.1/\L3.DV O K H (.ref x.2.1) kv.1/\L3.DV O K H x.2.2 kv.2
end LD
namespace L10
open PySem L2 L3
inductive AV where
 |fz (d:D)
 |rf (i:Nat)
inductive SV where
 |fz (d:D)
 |rf (i:Nat)
 |tp (l:List AV)
noncomputable def AV.sv:AV->SV
 | .fz d=> .fz d
 | .rf i=> .rf i
inductive Cell where
 |lst (xs:List SV)
 |VW (Mj:List (ku×SV))
 |obj (C:Str) (fs:List (Str×SV))
 |dd (Mj:List (D×D))
 |dead
abbrev aX:=List Cell
abbrev aQ:=List (Option SV)
inductive RS (α:Type) where
 |ok (a:α) (ω:aX)
 |er (x:Xc) (ω:aX)
 |bad
noncomputable def RS.bind (r:RS α) (f:α->aX->RS β):RS β:=match r with
 | .ok a ω=>f a ω
 | .er x ω=> .er x ω
 | .bad=> .bad
noncomputable def RS.ME (ω:aX):Option α->RS α
 |some a=> .ok a ω
 |none=> .bad
theorem RS.bind_ok (a:α) (ω:aX) (f:α->aX->RS β):(RS.ok a ω).bind f=f a ω:=rfl
noncomputable def Lv (α:List Lp) (ω:aX):bu:=fun b=>∃(i:Nat) (c:Cell),α[i]? =lD b/\ω[i]? =lD c/\c≠Cell.dead
noncomputable def ow (B:bu) (α:List Lp) (ω:aX):bu:=fun b=>B b\/Lv α ω b
section
variable (O:bu) (K:Lc) (H:Hp) (α:List Lp)
def Vb (v:V):AV->Prop
 | .fz d=>DV O K H v d
 | .rf i=>∃a,α[i]? =lD a/\v= .ref a
def OT (v:V):SV->Prop
 | .fz d=>DV O K H v d
 | .rf i=>∃a,α[i]? =lD a/\v= .ref a
 | .tp l=>∃a xs,v= .ref a/\QG O K H a xs/\Paired (Vb O K H α) xs l
noncomputable abbrev N6:List V->List SV->Prop:=Paired (OT O K H α)
def U4 (a:Lp):Cell->Prop
 | .lst xs=>∃vs,H a=lD (.lst vs)/\N6 O K H α vs xs
 | .VW Mj=>∃ws:List (ku×V),H a=lD (.dK ws)/\Paired (fun(p:ku×V) (q:ku×SV)=>p.1=q.1/\OT O K H α p.2 q.2) ws Mj
 | .obj C fs=>∃Ca dx ws,MF K Ma C=lD (lD (.ref Ca))/\H a=lD (.ins Ca dx ws)/\Paired (fun(p:Str×V) (q:Str×SV)=>p.1=q.1/\OT O K H α p.2 q.2) ws fs
 | .dd Mj=>∃xs,H a=lD (LD.DkO a xs)/\LD.PrD O K H xs Mj
 | .dead=>True
def N5 (σ:L2.St) (ρ:aQ):Prop:=σ.length=ρ.length/\∀(i:Nat) (x:SV),ρ[i]? =lD (lD x)->∃v,σ[i]? =lD (lD v)/\OT O K H α v x
end
structure StoOk (B:bu) (K:Lc) (H:Hp) (α:List Lp) (ω:aX):Prop where
 len:α.length=ω.length
 nd:∀(i j:Nat) (a:Lp),α[i]? =lD a->α[j]? =lD a->i=j
 bn:∀a,B a->H a≠Ld
 ba:∀a,B a->∀i:Nat,α[i]?≠lD a
 al:∀(i:Nat) (a:Lp),α[i]? =lD a->H a≠Ld
 RL:∀(i:Nat) (a:Lp) (c:Cell),α[i]? =lD a->ω[i]? =lD c->U4 (ow B α ω) K H α a c
structure Nq (α:List Lp) (ω:aX) (H:Hp) (α':List Lp) (ω':aX) (H':Hp):Prop where
 pre:∀(i:Nat) (a:Lp),α[i]? =lD a->α'[i]? =lD a
 kp:∀b o,H b=lD o->¬Lv α ω b->H' b=lD o
 lv:∀b,Lv α' ω' b->Lv α ω b\/H b=Ld
section
variable {B O O':bu} {K:Lc} {E:XK} {H H' H1 H2:Hp} {α α' α1 α2:List Lp} {ω ω' ω1 ω2:aX} {σ:L2.St} {ρ:aQ} {v:V}
theorem Nq.refl:Nq α ω H α ω H:=⟨fun _ _ h=>h,fun _ _ h _=>h,fun _ h=> .inl h⟩
theorem Nq.trans (a:Nq α ω H α1 ω1 H1) (b:Nq α1 ω1 H1 α2 ω2 H2):Nq α ω H α2 ω2 H2:=by
 have n1:∀b o,H b=lD o->¬Lv α ω b->¬Lv α1 ω1 b:=fun b o h n z=>(a.lv b z).elim n fun q=>by rw[h] at q;cases q
 refine⟨fun i p h=>b.pre i p (a.pre i p h),fun p o h n=>b.kp p o (a.kp p o h n) (n1 p o h n),fun p h=> ?_⟩;rcases b.lv p h with h|h
 ·exact a.lv p h
 ·cases q:H p with
  |none=>exact .inr rfl
  |some o=>refine .inl (Classical.byContradiction fun n=> ?_);rw[a.kp p o q n] at h;cases h
theorem Nq.same (s:Nk H H'):Nq α ω H α ω H':=⟨fun _ _ h=>h,fun b o h _=>s b o h,fun _ h=> .inl h⟩
theorem Nq.ev (e:Nq α ω H α' ω' H'):Ev (ow B α ω) H (ow B α' ω') H':=fun b o h n=>
 ⟨e.kp b o h fun z=>n (.inr z),fun z=>z.elim (fun q=>n (.inl q)) fun q=>(e.lv b q).elim (fun q=>n (.inr q)) fun q=>by rw[h] at q;cases q⟩
theorem Vb.ev (e:Ev O H O' H') (p:∀(i:Nat) (a:Lp),α[i]? =lD a->α'[i]? =lD a) (h:Vb O K H α v x):Vb O' K H' α' v x:=by
 cases x with
 |fz d=>exact DV.ev e h
 |rf i=>obtain⟨a,h1,h2⟩:=h;exact⟨a,p i a h1,h2⟩
theorem OT.ev (e:Ev O H O' H') (p:∀(i:Nat) (a:Lp),α[i]? =lD a->α'[i]? =lD a) (h:OT O K H α v x):OT O' K H' α' v x:=by
 cases x with
 |fz d=>exact DV.ev e h
 |rf i=>obtain⟨a,h1,h2⟩:=h;exact⟨a,p i a h1,h2⟩
 |tp l=>obtain⟨a,xs,h1,h2,h3⟩:=h;exact⟨a,xs,h1,h2.ev e,Paired.Ph h3 fun _ _ q=>q.ev e p⟩
theorem OT.OC (e:Nq α ω H α' ω' H') (h:OT (ow B α ω) K H α v x):OT (ow B α' ω') K H' α' v x:=h.ev e.ev e.pre
theorem N6.OC (e:Nq α ω H α' ω' H') (h:N6 (ow B α ω) K H α vs xs):N6 (ow B α' ω') K H' α' vs xs:=Paired.Ph h fun _ _ q=>q.OC e
theorem N5.OC (e:Nq α ω H α' ω' H') (h:N5 (ow B α ω) K H α σ ρ):N5 (ow B α' ω') K H' α' σ ρ:=⟨h.1,fun i x q=>let⟨v,h1,h2⟩:=h.2 i x q;⟨v,h1,h2.OC e⟩⟩
theorem U4.ev (e:Ev O H O' H') (p:∀(i:Nat) (a:Lp),α[i]? =lD a->α'[i]? =lD a) (ha:∀o,H a=lD o->H' a=lD o) (h:U4 O K H α a c):U4 O' K H' α' a c:=by
 cases c with
 |lst xs=>obtain⟨vs,h1,h2⟩:=h;exact⟨vs,ha _ h1,Paired.Ph h2 fun _ _ q=>q.ev e p⟩
 |VW Mj=>obtain⟨ws,h1,h2⟩:=h;exact⟨ws,ha _ h1,Paired.Ph h2 fun _ _ q=>⟨q.1,q.2.ev e p⟩⟩
 |obj C fs=>obtain⟨Ca,dx,ws,h0,h1,h2⟩:=h;exact⟨Ca,dx,ws,h0,ha _ h1,Paired.Ph h2 fun _ _ q=>⟨q.1,q.2.ev e p⟩⟩
 |dd Mj=>obtain⟨xs,h1,h2⟩:=h;exact⟨xs,ha _ h1,Paired.Ph h2 fun _ _ q=>⟨q.1,q.2.1.ev e,q.2.2.ev e⟩⟩
 |dead=>trivial
theorem StoOk.SQ (s:StoOk B K H α ω):k9 (ow B α ω) H:=fun a h z=>z.elim (fun q=>s.bn a q h) fun⟨i,c,q,_⟩=>s.al i a q h
theorem StoOk.owd (s:StoOk B K H α ω):∀a,ow B α ω a->H a≠Ld:=fun a z h=>s.SQ a h z
theorem StoOk.grow (s:StoOk B K H α ω) (e:Nk H H'):StoOk B K H' α ω:=by have n:∀a,H a≠Ld->H' a≠Ld:=fun a h z=>h (e.free z);exact⟨s.len,s.nd,fun a h=>n a (s.bn a h),s.ba,fun i a h=>n a (s.al i a h),fun i a c h1 h2=>(s.RL i a c h1 h2).ev (Ev.grow e) (fun _ _ h=>h) fun o h=>e _ _ h⟩
theorem StoOk.at (s:StoOk B K H α ω) {i:Nat} (h:ω[i]? =lD c):∃a,α[i]? =lD a:=by have:i<ω.length:=(Lj.mp h).1;rw[<-s.len] at this;exact⟨_,LB this⟩
theorem StoOk.V3 (s:StoOk B K H α ω) {i:Nat} (h:α[i]? =lD a):¬B a:=fun z=>s.ba a z i h
theorem vF {i:Nat} {c c':Cell} (h:ω[i]? =lD c) (hc:c≠ .dead) (Sj:c'≠ .dead) {b:Lp}:Lv α (ω.set i c') b↔Lv α ω b:=by
 constructor
 ·rintro⟨j,d,h1,h2,h3⟩
  rcases bj h2 with⟨rfl,rfl⟩|⟨_,h2⟩
  ·exact⟨j,c,h1,h,hc⟩
  ·exact⟨j,d,h1,h2,h3⟩
 ·rintro⟨j,d,h1,h2,h3⟩
  by_cases e:j=i
  ·subst e;exact⟨j,c',h1,by rw[NQ (Lj.mp h).1],Sj⟩
  ·exact⟨j,d,h1,by rw[N7 (fun z=>e z.symm)];exact h2,h3⟩
theorem FU (h:ω[i]? =lD c) (hc:c≠ .dead) (Sj:c'≠ .dead):ow B α (ω.set i c')=ow B α ω:=by funext b;exact propext ⟨fun z=>z.imp id (vF h hc Sj).mp,fun z=>z.imp id (vF h hc Sj).mpr⟩
theorem Nq.put (ha:α[i]? =lD a) (h:ω[i]? =lD c) (hc:c≠ .dead) (Sj:c'≠ .dead):Nq α ω H α (ω.set i c') (upd H a o):=
 ⟨fun _ _ h=>h,fun b o' q n=>by have z:b≠a:=fun e=>n ⟨i,c,by rw[e];exact ha,h,hc⟩;rw[az z];exact q,fun b z=> .inl ((vF h hc Sj).mp z)⟩
theorem StoOk.put (s:StoOk B K H α ω) (ha:α[i]? =lD a) (h:ω[i]? =lD c) (hc:c≠ .dead) (Sj:c'≠ .dead) (new:U4 (ow B α ω) K (upd H a o) α a c'):StoOk B K (upd H a o) α (ω.set i c'):=by
 have e:Nq α ω H α (ω.set i c') (upd H a o):=Nq.put ha h hc Sj;have n:∀b,H b≠Ld->upd H a o b≠Ld:=fun b h=>by
  by_cases z:b=a
  ·subst z;rw[aB];simp
  ·rw[az z];exact h
 refine⟨by rw[MW];exact s.len,s.nd,fun b h=>n b (s.bn b h),s.ba,fun j b h=>n b (s.al j b h),fun j b d h1 h2=> ?_⟩;rcases bj h2 with⟨rfl,rfl⟩|⟨OK,h2⟩
 ·rw[ha] at h1;cases h1;rw[FU h hc Sj];exact new
 ·exact(s.RL j b d h1 h2).ev e.ev e.pre fun u q=>by rw[az (fun z=>OK (s.nd j i a (by rw[<-z];exact h1) ha))];exact q
theorem vE {i:Nat} {a:Lp} {c:Cell} {o:HO} (ha:α[i]? =lD a) (h:ω[i]? =lD c) (hc:c≠ .dead):Ev (ow B α ω) H (ow B α ω) (upd H a o):=Ev.mut (.inr ⟨i,c,ha,h,hc⟩) o
theorem bF {α:Type} {l:List α} {x y:α} {i:Nat} (h:(l++[x])[i]? =lD y):l[i]? =lD y\/(i=l.length/\y=x):=by
 by_cases hi:i<l.length
 ·rw[LK hi] at h;exact .inl h
 ·rw[LX (by omega)] at h
  cases q:i - l.length with
  |zero=>rw[q] at h;cases h;exact .inr ⟨by omega,rfl⟩
  |succ n=>rw[q] at h;cases h
theorem iS {α:Type} {l:List α} {x y:α} {i:Nat} (h:l[i]? =lD y):(l++[x])[i]? =lD y:=by rw[LK (Lj.mp h).1];exact h
theorem aU:(l++[x])[l.length]? =lD x:=by simp
theorem pB (hl:α.length=ω.length) (h:Lv (α++[p]) (ω++[c]) b):Lv α ω b\/b=p:=by
 obtain⟨i,d,h1,h2,h3⟩:=h;rcases bF h1 with h1|⟨e1,e2⟩
 ·rcases bF h2 with h2|⟨e1,e2⟩
  ·exact .inl ⟨i,d,h1,h2,h3⟩
  ·have:=(Lj.mp h1).1;omega
 ·exact .inr e2
theorem Nq.RE (hl:α.length=ω.length) (s:Nk H H') (hp:H p=Ld):Nq α ω H (α++[p]) (ω++[c]) H':=
 ⟨fun i a h=>iS h,fun b u q _=>s b u q,fun b z=>(pB hl z).imp id fun e=>by rw[e];exact hp⟩
theorem StoOk.RE (s:StoOk B K H α ω) (e:Nk H H') (hp:H p=Ld) (hq:H' p≠Ld) (new:U4 (ow B (α++[p]) (ω++[c])) K H' (α++[p]) p c):StoOk B K H' (α++[p]) (ω++[c]):=by
 have ev:Nq α ω H (α++[p]) (ω++[c]) H':=Nq.RE s.len e hp;have n:∀b,H b≠Ld->H' b≠Ld:=fun b h z=>h (e.free z);refine⟨by rw[Ln,Ln,s.len];rfl,fun i j a h1 h2=> ?_,fun a h=>n a (s.bn a h),fun a h i q=> ?_,fun i a h=> ?_,fun i a d h1 h2=> ?_⟩
 ·rcases bF h1 with g1|⟨e1,e2⟩<;>rcases bF h2 with g2|⟨e3,e4⟩
  ·exact s.nd i j a g1 g2
  ·exact absurd (by rw[e4];exact hp) (s.al i a g1)
  ·exact absurd (by rw[e2];exact hp) (s.al j a g2)
  ·omega
 ·rcases bF q with q|⟨_,e2⟩
  ·exact s.ba a h i q
  ·subst e2;exact s.bn a h hp
 ·rcases bF h with h|⟨_,e2⟩
  ·exact n a (s.al i a h)
  ·subst e2;exact hq
 ·rcases bF h2 with h2|⟨e1,e2⟩
  ·rcases bF h1 with h1|⟨e1,_⟩
   ·exact(s.RL i a d h1 h2).ev ev.ev ev.pre fun o q=>e _ _ q
   ·have:=(Lj.mp h2).1;have:=s.len;omega
  ·rcases bF h1 with h1|⟨_,e3⟩
   ·have:=(Lj.mp h1).1;have:=s.len;omega
   ·subst e2 e3;exact new
def WS (K:Lc) (E:XK) (B:bu) (H:Hp) (α:List Lp) (ω:aX) (P:A->List Lp->aX->Hp->Prop):RS A->Prop
 | .ok a ω'=>∀α' H',Nq α ω H α' ω' H'->StoOk B K H' α' ω'->P a α' ω' H'
 | .er x ω'=>∀c dx α' H',Nq α ω H α' ω' H'->StoOk B K H' α' ω'->VP K (ow B α' ω') H' c dx x->E c dx H'
 | .bad=>False
theorem WS.from (e:Nq α ω H α1 ω1 H1) (h:WS K E B H α ω P r):WS K E B H1 α1 ω1 P r:=by
 cases r with
 |ok a ω2=>exact fun α2 H2 e2 s2=>h α2 H2 (e.trans e2) s2
 |er x ω2=>exact fun c dx α2 H2 e2 s2=>h c dx α2 H2 (e.trans e2) s2
 |bad=>exact h
theorem WS.bind (h:WS K E B H α ω P (r.bind k)):WS K E B H α ω (fun a α1 ω1 H1=>WS K E B H1 α1 ω1 P (k a ω1)) r:=by
 cases r with
 |ok a ω1=>exact fun α1 H1 e1 _=>WS.from e1 h
 |er x ω1=>exact h
 |bad=>exact h
theorem WS.ME (h:WS K E B H α ω P ((RS.ME ω o).bind k)):∃a,o=lD a/\WS K E B H α ω P (k a ω):=by
 cases o with
 |none=>exact h.elim
 |some a=>exact⟨a,rfl,h⟩
theorem WS.imp (h:WS K E B H α ω P r) (g:∀a α' ω' H',Nq α ω H α' ω' H'->StoOk B K H' α' ω'->P a α' ω' H'->P' a α' ω' H'):WS K E B H α ω P' r:=by
 cases r with
 |ok a ω1=>exact fun α1 H1 e1 s1=>g a α1 ω1 H1 e1 s1 (h α1 H1 e1 s1)
 |er x ω1=>exact h
 |bad=>exact h
theorem WS.now (s:StoOk B K H α ω) (h:WS K E B H α ω P (.ok a ω)):P a α ω H:=h α H .refl s
end
abbrev c7:=aQ->aX->RS SV
abbrev og:=aQ->aX->RS Bool
abbrev yX:=aQ->aX->RS (List SV)
def d5 (K:Lc) (E:XK) (t:TE) (f:c7):Prop:=
 ∀(B:bu) (σ:L2.St) (H:Hp) (α:List Lp) (ω:aX) (ρ:aQ) (Q:VK),StoOk B K H α ω->N5 (ow B α ω) K H α σ ρ->WS K E B H α ω (fun x α' ω' H'=>∀v,OT (ow B α' ω') K H' α' v x->Q v H') (f ρ ω)->t σ H Q
def uP (K:Lc) (E:XK) (t:TT) (f:og):Prop:=
 ∀(B:bu) (σ:L2.St) (H:Hp) (α:List Lp) (ω:aX) (ρ:aQ) (Q:Bool->Hp->Prop),StoOk B K H α ω->N5 (ow B α ω) K H α σ ρ->WS K E B H α ω (fun b _ _ H'=>Q b H') (f ρ ω)->t σ H Q
def GV (K:Lc) (E:XK) (t:TA) (f:yX):Prop:=
 ∀(B:bu) (σ:L2.St) (H:Hp) (α:List Lp) (ω:aX) (ρ:aQ) (Q:List V->Hp->Prop),StoOk B K H α ω->N5 (ow B α ω) K H α σ ρ->WS K E B H α ω (fun xs α' ω' H'=>∀vs,N6 (ow B α' ω') K H' α' vs xs->Q vs H') (f ρ ω)->t σ H Q
section
variable {B O O':bu} {K:Lc} {E:XK} {H H' H1 H2:Hp} {α α' α1 α2:List Lp} {ω ω' ω1 ω2:aX} {σ:L2.St} {ρ:aQ} {v:V}
noncomputable def Fz:Option SV->Option PV
 |some (.fz d)=>lD (.fz d)
 |_=>Ld
noncomputable def dX (ρ:aQ):aI:=ρ.map Fz
theorem ph {i:Nat} (h:(dX ρ)[i]? =lD (lD x)):∃d,x= .fz d/\ρ[i]? =lD (lD (.fz d)):=by
 unfold dX at h;rw[Ls] at h;cases q:ρ[i]? with
 |none=>rw[q] at h;cases h
 |some o=>
  rw[q] at h;have h':=LZ h;unfold Fz at h';split at h'
  ·cases h';exact⟨_,rfl,rfl⟩
  ·cases h'
theorem Bx (s:StoOk B K H α ω) (sl:N5 (ow B α ω) K H α σ ρ):Rl K (ow B α ω) H (ow B α ω) σ H (dX ρ):=by
 refine⟨Nk.refl _,fun _ h=>h,s.owd,s.SQ,by unfold dX;rw[Lh];exact sl.1,fun i x h=> ?_,fun i j ds es w h=> ?_⟩
 ·obtain⟨d,rfl,hd⟩:=ph h;obtain⟨v,h1,h2⟩:=sl.2 i _ hd;exact⟨v,h1,h2⟩
 ·obtain⟨d,e,_⟩:=ph h;cases e
noncomputable def gC (ω:aX):RV->RS SV
 | .fz d=> .ok (.fz d) ω
 | .ow ds=> .ok (.rf ω.length) (ω++[.lst (ds.map .fz)])
noncomputable abbrev PQ (B:bu) (K:Lc) (Q:VK):SV->List Lp->aX->Hp->Prop:=fun x α' ω' H'=>∀v,OT (ow B α' ω') K H' α' v x->Q v H'
theorem kw (O:bu) (α:List Lp):∀{vs:List V} {ds:List D},Nc O K H vs ds->N6 O K H α vs (ds.map .fz)
 |_,_,.nil=> .nil
 |_,_,.cons h t=> .cons h (kw O α t)
theorem rY:∀{vs:List V} {ds:List D},N6 O K H α vs (ds.map .fz)->Nc O K H vs ds
 |_,[],.nil=> .nil
 |_,_::_,.cons h t=> .cons h (rY t)
theorem nk (s:StoOk B K H α ω) (w:WS K E B H α ω (PQ B K Q) (gC ω (.ow ds))) (e:Nk H H') (hp:H p=Ld) (h:H' p=lD (.lst vs)) (hd:Nc O' K H' vs ds) (hO:∀b,ow B α ω b->O' b) (hq:O' p):Q (.ref p) H':=by
 have sub:∀b,ow B (α++[p]) (ω++[.lst (ds.map .fz)]) b->O' b:=fun b z=>z.elim (fun q=>hO b (.inl q)) fun q=>(pB s.len q).elim (fun q=>hO b (.inr q)) fun q=>by rw[q];exact hq
 exact w (α++[p]) H' (Nq.RE s.len e hp) (s.RE e hp (by rw[h];simp) ⟨vs,h,kw _ _ (hd.ev (Ev.sub sub))⟩) (.ref p) ⟨p,by rw[<-s.len];exact aU,rfl⟩
theorem zX (s:StoOk B K H α ω) (w:WS K E B H α ω (PQ B K Q) (gC ω rv)):Fin (ow B α ω) K H Q rv:=by
 cases rv with
 |fz d=>exact fun v H' e dv=>w α H' (Nq.same e) (s.grow e) v dv
 |ow ds=>exact fun p vs H' e hp h dv=>nk s w e hp h dv (fun b z=> .inl z) (.inr rfl)
noncomputable def aL (f:FE):c7:=fun ρ ω=>match f (dX ρ) with
 | .ok (.fz d,_)=> .ok (.fz d) ω
 | .ok (.ow ds,_)=>gC ω (.ow ds)
 | .ok (.pl _,_)=> .bad
 | .er x=> .er x ω
 | .bad=> .bad
theorem aM (h:EO K E t f):d5 K E t (aL f):=by
 intro B σ H α ω ρ Q s sl w;refine h (ow B α ω) H (ow B α ω) σ H (dX ρ) Q (Bx s sl) ?_;unfold aL at w;cases q:f (dX ρ) with
 |bad=>rw[q] at w;exact w.elim
 |er x=>rw[q] at w;exact fun c dx H' e k=>w c dx α H' (Nq.same e) (s.grow e) k
 |ok r=>
  obtain⟨pv,ρ'⟩:=r;rw[q] at w;intro O' v H' e R p;cases pv with
  |fz d=>exact w α H' (Nq.same R.same) (s.grow R.same) v (DV.ev (Ev.sub R.bo) p)
  |ow ds=>obtain⟨a,vs,rfl,h1,h2,h3,h4,h5⟩:=p;exact nk s w R.same h2 h3 h4 R.bo h1
  |pl i=>exact w.elim
noncomputable def sw (f:FT):og:=fun ρ ω=>match f (dX ρ) with
 | .ok (b,_)=> .ok b ω
 | .er x=> .er x ω
 | .bad=> .bad
theorem ua (h:SE K E t f):uP K E t (sw f):=by
 intro B σ H α ω ρ Q s sl w;refine h (ow B α ω) H (ow B α ω) σ H (dX ρ) Q (Bx s sl) ?_;unfold sw at w;cases q:f (dX ρ) with
 |bad=>rw[q] at w;exact w.elim
 |er x=>rw[q] at w;exact fun c dx H' e k=>w c dx α H' (Nq.same e) (s.grow e) k
 |ok r=>obtain⟨b,ρ'⟩:=r;rw[q] at w;exact fun O' H' e R=>w α H' (Nq.same R.same) (s.grow R.same)
noncomputable def bV (i:Nat):c7:=fun ρ ω=>match ρ[i]? with
 |some (lD x)=> .ok x ω
 |_=> .bad
theorem bv:d5 K E (oi i) (bV i):=by
 intro B σ H α ω ρ Q s sl w;unfold bV at w;cases q:ρ[i]? with
 |none=>rw[q] at w;exact w.elim
 |some o=>
  cases o with
  |none=>rw[q] at w;exact w.elim
  |some x=>rw[q] at w;obtain⟨v,h1,h2⟩:=sl.2 i x q;exact⟨v,h1,WS.now s w v h2⟩
noncomputable def aw {α β:Type} (f:α->Option β):List α->Option (List β)
 |[]=>lD []
 |x::r=>match f x with
  |some y=>(match aw f r with
   |some ys=>lD (y::ys)
   |none=>Ld)
  |none=>Ld
noncomputable def rM:Nat->aX->SV->Option D
 |_,_,.fz d=>lD d
 |0,_,_=>Ld
 |n+1,ω,.rf i=>match ω[i]? with
  |some (.lst xs)=>(aw (rM n ω) xs).map .list
  |_=>Ld
 |n+1,ω,.tp l=>(aw (fun x=>rM n ω x.sv) l).map .tuple
theorem cZ {α β:Type} {f:α->Option β} {R:V->α->Prop} {S:V->β->Prop} (h:∀v x y,R v x->f x=lD y->S v y):∀{vs:List V} {xs:List α} {ys:List β},Paired R vs xs->aw f xs=lD ys->Paired S vs ys
 |_,_,_,.nil,e=>by cases e;exact .nil
 |_,_,_,.cons (b:=x) (l₂:=xs) r t,e=>by
  unfold aw at e;cases q:f x with
  |none=>rw[q] at e;cases e
  |some y=>
   rw[q] at e;dsimp only at e;cases q2:aw f xs with
   |none=>rw[q2] at e;cases e
   |some ys=>rw[q2] at e;cases e;exact .cons (h _ _ _ r q) (cZ h t q2)
theorem ju:∀{vs:List V} {ds:List D},Paired (DV O K H) vs ds->Nc O K H vs ds
 |_,_,.nil=> .nil
 |_,_,.cons h t=> .cons h (ju t)
theorem FB:Ev O H SQ H:=Ev.sub fun _ z=>z.elim
theorem jl (s:StoOk B K H α ω):∀(n:Nat) {v:V} {x:SV} {d:D},OT (ow B α ω) K H α v x->rM n ω x=lD d->DV SQ K H v d
 |n,v,.fz d',d,h,e=>by
  have e':lD d'=lD d:=by cases n<;>exact e
  cases e';exact DV.ev FB h
 |0,v,.rf i,d,h,e=>by cases e
 |0,v,.tp l,d,h,e=>by cases e
 |n+1,v,.rf i,d,h,e=>by
  obtain⟨a,ha,rfl⟩:=h;unfold rM at e;cases q:ω[i]? with
  |none=>rw[q] at e;cases e
  |some c=>
   rw[q] at e;cases c with
   |lst xs=>
    dsimp only at e;cases q2:aw (rM n ω) xs with
    |none=>rw[q2] at e;cases e
    |some ds=>rw[q2] at e;cases e;obtain⟨vs,h1,h2⟩:=s.RL i a _ ha q;exact .lst ⟨O0.of h1,fun z=>z.elim⟩ (ju (cZ (R:=OT (ow B α ω) K H α) (fun v x y r e=>jl s n r e) h2 q2))
   |_=>cases e
 |n+1,v,.tp l,d,h,e=>by
  obtain⟨a,xs,rfl,h1,h2⟩:=h;unfold rM at e;cases q2:aw (fun x=>rM n ω x.sv) l with
  |none=>rw[q2] at e;cases e
  |some ds=>rw[q2] at e;cases e;exact .tup (h1.ev FB) (ju (cZ (fun v x y r e=>jl s n (by cases x<;>exact r) e) h2 q2))
noncomputable def nX:SV->Option D
 | .fz d=>lD d
 |_=>Ld
noncomputable def sh (ω:aX):SV->Option D
 | .fz d=>lD d
 | .rf i=>match ω[i]? with
  |some (.lst xs)=>(aw nX xs).map .list
  |_=>Ld
 | .tp _=>Ld
theorem zB (s:StoOk B K H α ω) (h:OT (ow B α ω) K H α v x) (e:sh ω x=lD d):DX (ow B α ω) K H v d:=by
 cases x with
 |fz d'=>cases e;exact DV.x h
 |tp l=>cases e
 |rf i=>
  obtain⟨a,ha,rfl⟩:=h;unfold sh at e;dsimp only at e;cases q:ω[i]? with
  |none=>rw[q] at e;cases e
  |some c=>
   rw[q] at e;cases c with
   |lst xs=>
    dsimp only at e;cases q2:aw nX xs with
    |none=>rw[q2] at e;cases e
    |some ds=>
     rw[q2] at e;cases e;obtain⟨vs,h1,h2⟩:=s.RL i a _ ha q;refine⟨a,vs,rfl,O0.of h1,ju (cZ (fun v x y r e=> ?_) h2 q2)⟩;cases x with
     |fz d=>cases e;exact r
     |rf i=>cases e
     |tp l=>cases e
   |_=>cases e
noncomputable def DG:D->Bool
 | .none=>Lk
 | .bool _=>Lk
 | .int _=>Lk
 | .str _=>Lk
 |_=>Lw
theorem Dn (h:DG d=Lk) (dv:DV O K H v d):DV O' K H' v d:=by
 cases dv with
 |ON=>exact .ON
 |bl b=>exact .bl b
 |int i=>exact .int i
 |str x=>exact .str x
 |tup _ _=>cases h
 |lst _ _=>cases h
noncomputable def o3 (ω:aX):RV->RS SV
 | .fz d=>if DG d=Lk then .ok (.fz d) ω else .bad
 | .ow _=> .bad
theorem CG (s:StoOk B K H α ω) (w:WS K E B H α ω (PQ B K Q) (o3 ω rv)):Fin SQ K H Q rv:=by
 cases rv with
 |fz d=>
  have w:WS K E B H α ω (PQ B K Q) (if DG d=Lk then RS.ok (SV.fz d) ω else RS.bad):=w;by_cases z:DG d=Lk
  ·rw[if_pos z] at w;exact fun v H' e dv=>w α H' (Nq.same e) (s.grow e) v (Dn z dv)
  ·rw[if_neg z] at w;exact w.elim
 |ow ds=>exact w.elim
theorem Cu:k9 SQ H:=fun _ _ z=>z
noncomputable def sK (f:D->D->Option RV) (x y:SV) (ω:aX):RS SV:=match sh ω x,sh ω y with
 |some dx,lD dy=>(RS.ME ω (f dx dy)).bind fun rv ω1=>gC ω1 rv
 |_,_=>(RS.ME ω (rM 6 ω x)).bind fun dx ω1=>(RS.ME ω1 (rM 6 ω1 y)).bind fun dy ω2=>(RS.ME ω2 (f dx dy)).bind fun rv ω3=>o3 ω3 rv
theorem HV (hr:lc K r f) (s:StoOk B K H α ω) (hx:OT (ow B α ω) K H α x a) (hy:OT (ow B α ω) K H α y b) (w:WS K E B H α ω (PQ B K Q) (sK f a b ω)):r x y H Q:=by
 have deep:WS K E B H α ω (PQ B K Q) ((RS.ME ω (rM 6 ω a)).bind fun dx ω1=>(RS.ME ω1 (rM 6 ω1 b)).bind fun dy ω2=>(RS.ME ω2 (f dx dy)).bind fun rv ω3=>o3 ω3 rv)->r x y H Q:=fun w=>by obtain⟨dx,q1,w⟩:=w.ME;obtain⟨dy,q2,w⟩:=w.ME;obtain⟨rv,q3,w⟩:=w.ME;exact hr SQ H x y dx dy rv Q Cu (DV.x (jl s 6 hx q1)) (DV.x (jl s 6 hy q2)) q3 (CG s w)
 unfold sK at w;cases q1:sh ω a with
 |none=>rw[q1] at w;exact deep w
 |some dx=>
  cases q2:sh ω b with
  |none=>rw[q1,q2] at w;exact deep w
  |some dy=>rw[q1,q2] at w;obtain⟨rv,q3,w⟩:=w.ME;exact hr _ H x y dx dy rv Q s.SQ (zB s hx q1) (zB s hy q2) q3 (zX s w)
noncomputable def Es (f:D->D->Option RV) (fa fb:c7):c7:=fun ρ ω=>(fa ρ ω).bind fun x ω1=>(fb ρ ω1).bind fun y ω2=>sK f x y ω2
theorem vI (hr:lc K r f) (ha:d5 K E ta fa) (hb:d5 K E tb fb):d5 K E (F4 r ta tb) (Es f fa fb):=by intro B σ H α ω ρ Q s sl w;refine ha B σ H α ω ρ _ s sl (w.bind.imp fun x α1 ω1 H1 e1 s1 w1 v hv=> ?_);refine hb B σ H1 α1 ω1 ρ _ s1 (sl.OC e1) (w1.bind.imp fun y α2 ω2 H2 e2 s2 w2 u hu=> ?_);exact HV hr s2 (hv.OC e2) hu w2
noncomputable def En:SV->Option Bool
 | .fz (.bool b)=>lD b
 |_=>Ld
theorem DC (e:En x=lD b) (h:OT O K H α v x):v= .bl b:=by
 unfold En at e;split at e
 ·cases e;cases h;rfl
 ·cases e
noncomputable def gA (fa:c7):og:=fun ρ ω=>(fa ρ ω).bind fun x ω1=>RS.ME ω1 (En x)
theorem mH (ha:d5 K E ta fa):uP K E (Bc ta) (gA fa):=by
 intro B σ H α ω ρ Q s sl w;refine ha B σ H α ω ρ _ s sl (w.bind.imp fun x α1 ω1 H1 e1 s1 w1 v hv=> ?_);cases q:En x with
 |none=>rw[q] at w1;exact w1.elim
 |some b=>rw[q] at w1;exact⟨b,DC q hv,WS.now s1 w1⟩
theorem oK (ha:d5 K E ta fa):uP K E (tB ta) (gA fa):=mH ha
noncomputable def IZ (fa fb:og):og:=fun ρ ω=>(fa ρ ω).bind fun b ω1=>if b=Lk then .ok Lk ω1 else fb ρ ω1
noncomputable def zU (fa:og):og:=fun ρ ω=>(fa ρ ω).bind fun b ω1=> .ok (!b) ω1
theorem zM (h1:uP K E t f) (h2:uP K E u g):uP K E (JY t u) (IZ f g):=by
 intro B σ H α ω ρ Q s sl w;refine h1 B σ H α ω ρ _ s sl (w.bind.imp fun b α1 ω1 H1 e1 s1 w1=> ?_);cases b with
 |true=>exact WS.now s1 w1
 |false=>exact h2 B σ H1 α1 ω1 ρ Q s1 (sl.OC e1) w1
theorem pI (h1:uP K E t f):uP K E (GU t) (zU f):=by intro B σ H α ω ρ Q s sl w;exact h1 B σ H α ω ρ _ s sl (w.bind.imp fun b α1 ω1 H1 e1 s1 w1=>WS.now s1 w1)
noncomputable def CW:og:=fun _ ω=> .ok Lk ω
theorem Ci:uP K E tw CW:=fun B σ H α ω ρ Q s sl w=>WS.now s w
noncomputable def jC:yX:=fun _ ω=> .ok [] ω
noncomputable def dF (fa:c7) (fr:yX):yX:=fun ρ ω=>(fa ρ ω).bind fun x ω1=>(fr ρ ω1).bind fun xs ω2=> .ok (x::xs) ω2
theorem e8:GV K E nV jC:=fun B σ H α ω ρ Q s sl w=>WS.now s w [] .nil
theorem cF (ha:d5 K E ta fa) (hr:GV K E tr fr):GV K E (gI ta tr) (dF fa fr):=by intro B σ H α ω ρ Q s sl w;refine ha B σ H α ω ρ _ s sl (w.bind.imp fun x α1 ω1 H1 e1 s1 w1 v hv=> ?_);refine hr B σ H1 α1 ω1 ρ _ s1 (sl.OC e1) (w1.bind.imp fun xs α2 ω2 H2 e2 s2 w2 vs YZ=> ?_);exact WS.now s2 w2 (v::vs) (.cons (hv.OC e2) YZ)
theorem Ck (r:OT O K H α v x) (e:nX x=lD d):DV O K H v d:=by
 cases x with
 |fz d=>cases e;exact r
 |rf i=>cases e
 |tp l=>cases e
noncomputable def Dm (f:List D->Option RV) (xs:List SV) (ω:aX):RS SV:=match aw (sh ω) xs with
 |some ds=>(RS.ME ω (f ds)).bind fun rv ω1=>gC ω1 rv
 |_=>(RS.ME ω (aw (rM 6 ω) xs)).bind fun ds ω1=>(RS.ME ω1 (f ds)).bind fun rv ω3=>o3 ω3 rv
noncomputable def EA (f:List D->Option RV) (fa:yX):c7:=fun ρ ω=>(fa ρ ω).bind fun xs ω1=>Dm f xs ω1
theorem qw (hr:Ff K r f) (ha:GV K E ta fa):d5 K E (E9 r ta) (EA f fa):=by
 intro B σ H α ω ρ Q s sl w;refine ha B σ H α ω ρ _ s sl (w.bind.imp fun xs α1 ω1 H1 e1 s1 w1 vs hv=> ?_);unfold Dm at w1;cases q1:aw (sh ω1) xs with
 |none=>rw[q1] at w1;obtain⟨ds,q2,w1⟩:=w1.ME;obtain⟨rv,q3,w1⟩:=w1.ME;exact hr SQ H1 vs ds rv Q Cu (cZ (R:=OT (ow B α1 ω1) K H1 α1) (fun v x y r e=>DV.x (jl s1 6 r e)) hv q2) q3 (CG s1 w1)
 |some ds=>rw[q1] at w1;obtain⟨rv,q3,w1⟩:=w1.ME;exact hr _ H1 vs ds rv Q s1.SQ (cZ (R:=OT (ow B α1 ω1) K H1 α1) (fun v x y r e=>zB s1 r e) hv q1) q3 (zX s1 w1)
end
section
variable {B O O':bu} {K:Lc} {E:XK} {H H' H1 H2:Hp} {α α' α1 α2:List Lp} {ω ω' ω1 ω2:aX} {σ:L2.St} {ρ:aQ} {v:V}
theorem Ar:∀{vs:List V} {xs:List β} {i:Nat} {x:β},Paired R vs xs->xs[i]? =lD x->∃v,vs[i]? =lD v/\R v x
 |_,_,_,_,.nil,e=>by simp at e
 |_,_,0,_,.cons h _,e=>by simp at e;subst e;exact⟨_,rfl,h⟩
 |_,_,i+1,x,.cons _ t,e=>by obtain⟨v,h1,h2⟩:=Ar t (by simpa using e);exact⟨v,by simpa using h1,h2⟩
theorem lH (h:Lv α (ω.set i .dead) b):Lv α ω b:=by
 obtain⟨j,c,h1,h2,h3⟩:=h;rcases bj h2 with⟨rfl,rfl⟩|⟨_,h2⟩
 ·exact absurd rfl h3
 ·exact⟨j,c,h1,h2,h3⟩
theorem Nq.kill:Nq α ω H α (ω.set i .dead) H:=⟨fun _ _ h=>h,fun _ _ h _=>h,fun _ h=> .inl (lH h)⟩
theorem StoOk.kill (s:StoOk B K H α ω) (i:Nat):StoOk B K H α (ω.set i .dead):=by
 have e:Nq α ω H α (ω.set i .dead) H:=Nq.kill;refine⟨by rw[MW];exact s.len,s.nd,s.bn,s.ba,s.al,fun j b d h1 h2=> ?_⟩;rcases bj h2 with⟨rfl,rfl⟩|⟨OK,h2⟩
 ·exact trivial
 ·exact(s.RL j b d h1 h2).ev e.ev e.pre fun u q=>q
theorem StoOk.Sg (s:StoOk B K H α ω) (ha:α[i]? =lD a):¬ow B α (ω.set i .dead) a:=by
 rintro(z|⟨j,c,h1,h2,h3⟩)
 ·exact s.V3 ha z
 ·have:=s.nd j i a h1 ha
  subst this;rcases bj h2 with⟨_,rfl⟩|⟨OK,_⟩
  ·exact h3 rfl
  ·exact OK rfl
noncomputable def oy (g:aX->SV->Option (D×aX)):aX->List SV->Option (List D×aX)
 |ω,[]=>lD ([],ω)
 |ω,x::r=>match g ω x with
  |some (d,ω1)=>(match oy g ω1 r with
   |some (ds,ω2)=>lD (d::ds,ω2)
   |none=>Ld)
  |none=>Ld
noncomputable def frz:Nat->aX->SV->Option (D×aX)
 |_,ω,.fz d=>lD (d,ω)
 |0,_,_=>Ld
 |n+1,ω,.rf i=>match ω[i]? with
  |some (.lst xs)=>(match oy (frz n) ω xs with
   |some (ds,ω1)=>lD (.list ds,ω1.set i .dead)
   |none=>Ld)
  |_=>Ld
 |n+1,ω,.tp l=>match oy (frz n) ω (l.map AV.sv) with
  |some (ds,ω1)=>lD (.tuple ds,ω1)
  |none=>Ld
theorem sr (hg:∀{ω ω':aX} {v:V} {x:SV} {d:D},StoOk B K H α ω->OT (ow B α ω) K H α v x->g ω x=lD (d,ω')->StoOk B K H α ω'/\Nq α ω H α ω' H/\L3.DV (ow B α ω') K H v d):
  ∀{vs:List V} {xs:List SV} {ds:List D} {ω ω':aX},StoOk B K H α ω->N6 (ow B α ω) K H α vs xs->oy g ω xs=lD (ds,ω')->StoOk B K H α ω'/\Nq α ω H α ω' H/\L3.Nc (ow B α ω') K H vs ds
 |_,_,_,ω,ω',s,.nil,e=>by cases e;exact⟨s,.refl,.nil⟩
 |_,_,_,ω,ω',s,.cons (b:=x) (l₂:=xs) r t,e=>by
  unfold oy at e;cases q:g ω x with
  |none=>rw[q] at e;cases e
  |some p=>
   obtain⟨d,ω1⟩:=p;rw[q] at e;dsimp only at e;obtain⟨s1,e1,d1⟩:=hg s r q;cases q2:oy g ω1 xs with
   |none=>rw[q2] at e;cases e
   |some p2=>obtain⟨ds,ω2⟩:=p2;rw[q2] at e;cases e;obtain⟨s2,e2,d2⟩:=sr hg s1 (N6.OC e1 t) q2;exact⟨s2,e1.trans e2,.cons (d1.ev e2.ev) d2⟩
theorem qp:∀{vs:List V} {l:List AV},Paired (Vb O K H α) vs l->N6 O K H α vs (l.map AV.sv)
 |_,_,.nil=> .nil
 |_,_,.cons (b:=x) h t=> .cons (by cases x<;>exact h) (qp t)
theorem qz:∀(n:Nat) {ω ω':aX} {v:V} {x:SV} {d:D},StoOk B K H α ω->OT (ow B α ω) K H α v x->frz n ω x=lD (d,ω')->StoOk B K H α ω'/\Nq α ω H α ω' H/\L3.DV (ow B α ω') K H v d
 |n,ω,ω',v,.fz d',d,s,h,e=>by
  have e':lD (d',ω)=lD (d,ω'):=by cases n<;>exact e
  cases e';exact⟨s,.refl,h⟩
 |0,_,_,v,.rf i,d,s,h,e=>by cases e
 |0,_,_,v,.tp l,d,s,h,e=>by cases e
 |n+1,ω,ω',v,.rf i,d,s,h,e=>by
  obtain⟨a,ha,rfl⟩:=h;unfold frz at e;cases q:ω[i]? with
  |none=>rw[q] at e;cases e
  |some c=>
   rw[q] at e;cases c with
   |lst xs=>
    dsimp only at e;obtain⟨vs,h1,h2⟩:=s.RL i a _ ha q;cases q2:oy (frz n) ω xs with
    |none=>rw[q2] at e;cases e
    |some p=>obtain⟨ds,ω1⟩:=p;rw[q2] at e;cases e;obtain⟨s1,e1,d1⟩:=sr (fun s h e=>qz n s h e) s h2 q2;exact⟨s1.kill i,e1.trans Nq.kill,qW h1 (s1.Sg ha) (d1.ev (Nq.kill).ev)⟩
   |_=>cases e
 |n+1,ω,ω',v,.tp l,d,s,h,e=>by
  obtain⟨a,xs,rfl,h1,h2⟩:=h;unfold frz at e;cases q2:oy (frz n) ω (l.map AV.sv) with
  |none=>rw[q2] at e;cases e
  |some p=>obtain⟨ds,ω1⟩:=p;rw[q2] at e;cases e;obtain⟨s1,e1,d1⟩:=sr (fun s h e=>qz n s h e) s (qp h2) q2;exact⟨s1,e1,.tup (h1.ev e1.ev) d1⟩
noncomputable def GC (x:SV) (ω:aX):RS SV:=match frz 4 ω x with
 |some (d,ω1)=> .ok (.fz d) ω1
 |none=> .bad
noncomputable def yq (f:c7):c7:=fun ρ ω=>(f ρ ω).bind fun x ω1=>GC x ω1
theorem qQ (h:d5 K E t f):d5 K E t (yq f):=by
 intro B σ H α ω ρ Q s sl w;refine h B σ H α ω ρ _ s sl (w.bind.imp fun x α1 ω1 H1 e1 s1 w1 v hv=> ?_);unfold GC at w1;cases q:frz 4 ω1 x with
 |none=>rw[q] at w1;exact w1.elim
 |some p=>obtain⟨d,ω2⟩:=p;rw[q] at w1;obtain⟨s2,e2,d2⟩:=qz 4 s1 hv q;exact w1 α1 H1 e2 s2 v d2
theorem VP.sub (h:∀b,O' b->O b) (k:VP K O H c dx x):VP K O' H c dx x:=by obtain⟨h1,fs,h2,h3⟩:=k;exact⟨h1,fs,h2,fun f d e=>let⟨g1,v,g2,g3⟩:=h3 f d e;⟨g1,v,g2,g3.ev (Ev.sub h)⟩⟩
noncomputable def wz (F:FN) (n:Nat) (xs:List SV) (ω:aX):RS SV:=if xs.length=n then(match aw nX xs with
 |some ds=>(match F ds with
  | .ok rv=>gC ω rv
  | .er x=> .er x ω
  | .bad=> .bad)
 |none=>(RS.ME ω (aw (rM 6 ω) xs)).bind fun ds ω1=>(match F ds with
  | .ok rv=>o3 ω1 rv
  |_=> .bad)) else .bad
noncomputable def io:RS A->RS A
 | .er _ _=> .bad
 |r=>r
noncomputable def DR (F:FN) (n:Nat) (fa:yX):c7:=fun ρ ω=>(fa ρ ω).bind fun xs ω1=>io (wz F n xs ω1)
theorem WS.e0 (h:WS K E B H α ω P (io r)):WS K E0 B H α ω P r:=by
 cases r with
 |ok a ω=>exact h
 |er x ω=>exact h.elim
 |bad=>exact h
theorem Du (s:StoOk B K H α ω) (hv:N6 (ow B α ω) K H α vs xs) (w:WS K E B H α ω (PQ B K Q) (wz F n xs ω)):jM K n F vs H Q E:=by
 unfold wz at w;by_cases hn:xs.length=n
 ·rw[if_pos hn] at w
  refine⟨hv.length.trans hn,?_⟩;cases q:aw nX xs with
  |some ds=>
   rw[q] at w;refine⟨ow B α ω,ds,s.owd,ju (cZ (R:=OT (ow B α ω) K H α) (fun v x y r e=>Ck r e) hv q),?_⟩;dsimp only at w;cases qF:F ds with
   |ok rv=>rw[qF] at w;exact zX s w
   |er x=>rw[qF] at w;exact fun c dx H' e k=>w c dx α H' (Nq.same e) (s.grow e) k
   |bad=>rw[qF] at w;exact w.elim
  |none=>
   rw[q] at w;obtain⟨ds,q2,w⟩:=WS.ME w;refine⟨SQ,ds,fun a z=>z.elim,ju (cZ (R:=OT (ow B α ω) K H α) (fun v x y r e=>jl s 6 r e) hv q2),?_⟩;cases qF:F ds with
   |ok rv=>rw[qF] at w;exact CG s w
   |er x=>rw[qF] at w;exact w.elim
   |bad=>rw[qF] at w;exact w.elim
 ·rw[if_neg hn] at w;exact w.elim
theorem xp (ha:GV K E ta fa):d5 K E (oW (jM K n F) [] E0 ta) (DR F n fa):=by intro B σ H α ω ρ Q s sl w;refine ha B σ H α ω ρ _ s sl (w.bind.imp fun xs α1 ω1 H1 e1 s1 w1 vs hv=> ?_);rw[L6];exact Du s1 hv (WS.e0 w1)
abbrev pE:=List SV->aX->RS SV
noncomputable def yH (K:Lc) (n:Nat) (F:pE):Sp:=fun vs H Q E=>vs.length=n/\∃(B:bu) (α:List Lp) (ω:aX) (xs:List SV),StoOk B K H α ω/\N6 (ow B α ω) K H α vs xs/\WS K E B H α ω (PQ B K Q) (F xs ω)
noncomputable def pi (F:pE) (n:Nat) (fa:yX):c7:=fun ρ ω=>(fa ρ ω).bind fun xs ω1=>if xs.length=n then io (F xs ω1) else .bad
theorem i9 (ha:GV K E ta fa):d5 K E (oW (yH K n F) [] E0 ta) (pi F n fa):=by
 intro B σ H α ω ρ Q s sl w;refine ha B σ H α ω ρ _ s sl (w.bind.imp fun xs α1 ω1 H1 e1 s1 w1 vs hv=> ?_);rw[L6];by_cases hn:xs.length=n
 ·rw[if_pos hn] at w1;exact⟨hv.length.trans hn,B,α1,ω1,xs,s1,hv,WS.e0 w1⟩
 ·rw[if_neg hn] at w1;exact w1.elim
noncomputable def iL (ω:aX):SV->Option (Nat×List SV)
 | .rf i=>match ω[i]? with
  |some (.lst xs)=>lD (i,xs)
  |_=>Ld
 |_=>Ld
theorem xO (s:StoOk B K H α ω) (hv:OT (ow B α ω) K H α v x) (h:iL ω x=lD (i,xs)):ω[i]? =lD (.lst xs)/\∃a vs,α[i]? =lD a/\v= .ref a/\H a=lD (.lst vs)/\N6 (ow B α ω) K H α vs xs:=by
 cases x with
 |fz d=>cases h
 |tp l=>cases h
 |rf j=>
  obtain⟨a,ha,rfl⟩:=hv;unfold iL at h;dsimp only at h;cases q:ω[j]? with
  |none=>rw[q] at h;cases h
  |some c=>
   rw[q] at h;cases c with
   |lst ys=>have e:=LZ h;cases e;obtain⟨vs,h1,h2⟩:=s.RL i a _ ha q;exact⟨q,a,vs,ha,rfl,h1,h2⟩
   |_=>cases h
theorem wC (h:Paired R vs xs) (r:R v x):Paired R (vs++[v]) (xs++[x]):=by
 induction h with
 |nil=>exact .cons r .nil
 |cons a _ ih=>exact .cons a ih
noncomputable def DH (fo fe:c7):c7:=fun ρ ω=>(fo ρ ω).bind fun o ω1=>(RS.ME ω1 (iL ω1 o)).bind fun _ ω1=>(fe ρ ω1).bind fun x ω2=>(RS.ME ω2 (iL ω2 o)).bind fun p ω3=>
 if p.2.length<1000000 then .ok (.fz .none) (ω3.set p.1 (.lst (p.2++[x]))) else .bad
theorem xQ (ho:d5 K E to fo) (he:d5 K E te fe):d5 K E (JZ K "list" pR to (gI te nV)) (DH fo fe):=by
 intro B σ H α ω ρ Q s sl w;refine ho B σ H α ω ρ _ s sl (w.bind.imp fun o α1 ω1 H1 e1 s1 w1 v hv=> ?_);obtain⟨⟨i0,Vy⟩,q0,w1⟩:=WS.ME w1;obtain⟨_,a0,vs0,_,rfl,g0,_⟩:=xO s1 hv q0;refine⟨.inl ⟨rfl,vs0,Ql.of g0⟩,?_⟩;refine he B σ H1 α1 ω1 ρ _ s1 (sl.OC e1) (w1.bind.imp fun x α2 ω2 H2 e2 s2 w2 u hu=> ?_);obtain⟨⟨i,xs⟩,q,w2⟩:=WS.ME w2;obtain⟨qi,a,vs,ha,ea,g1,g2⟩:=xO s2 (hv.OC e2) q;cases ea;dsimp only at w2;by_cases hn:xs.length<1000000
 ·rw[if_pos hn] at w2;have ev:Ev (ow B α2 ω2) H2 (ow B α2 ω2) (upd H2 a0 (.lst (vs++[u]))):=vE ha qi (by intro z;cases z);refine⟨a0,vs,u,rfl,rfl,g1,um (by rw[g2.length];exact hn),?_⟩;exact w2 α2 _ (Nq.put ha qi (by intro z;cases z) (by intro z;cases z)) (s2.put ha qi (by intro z;cases z) (by intro z;cases z) ⟨_,aB,wC (Paired.Ph g2 fun _ _ r=>r.ev ev fun _ _ h=>h) (hu.ev ev fun _ _ h=>h)⟩) _ .ON
 ·rw[if_neg hn] at w2;exact w2.elim
end
inductive W0 where
 |nx (ρ:aQ)
 |bk (ρ:aQ)
 |ct (ρ:aQ)
 |rt (x:SV)
abbrev gM:=aQ->aX->RS W0
abbrev om:=SV->aQ->aX->RS aQ
abbrev Ao:=List SV->aQ->aX->RS aQ
def jt (B:bu) (K:Lc) (D:Ends):W0->List Lp->aX->Hp->Prop
 | .nx ρ,α,ω,H=>∀σ,N5 (ow B α ω) K H α σ ρ->D.nx σ H
 | .bk ρ,α,ω,H=>∀σ,N5 (ow B α ω) K H α σ ρ->D.bk σ H
 | .ct ρ,α,ω,H=>∀σ,N5 (ow B α ω) K H α σ ρ->D.ct σ H
 | .rt x,α,ω,H=>∀v,OT (ow B α ω) K H α v x->D.rt v H
def nG (K:Lc) (E:XK) (t:TS) (g:gM):Prop:=
 ∀(B:bu) (σ:L2.St) (H:Hp) (α:List Lp) (ω:aX) (ρ:aQ) (D:Ends),StoOk B K H α ω->N5 (ow B α ω) K H α σ ρ->WS K E B H α ω (jt B K D) (g ρ ω)->t D σ H
def B9 (K:Lc) (E:XK) (g:TG) (f:om):Prop:=
 ∀(B:bu) (σ:L2.St) (H:Hp) (α:List Lp) (ω:aX) (ρ:aQ) (v:V) (x:SV) (Q:L2.St->Hp->Prop),StoOk B K H α ω->N5 (ow B α ω) K H α σ ρ->OT (ow B α ω) K H α v x->WS K E B H α ω (fun ρ' α' ω' H'=>∀σ',N5 (ow B α' ω') K H' α' σ' ρ'->Q σ' H') (f x ρ ω)->g v σ H Q
def Dv (K:Lc) (E:XK) (g:Hi) (f:Ao):Prop:=
 ∀(B:bu) (σ:L2.St) (H:Hp) (α:List Lp) (ω:aX) (ρ:aQ) (vs:List V) (xs:List SV) (Q:L2.St->Hp->Prop),StoOk B K H α ω->N5 (ow B α ω) K H α σ ρ->N6 (ow B α ω) K H α vs xs->WS K E B H α ω (fun ρ' α' ω' H'=>∀σ',N5 (ow B α' ω') K H' α' σ' ρ'->Q σ' H') (f xs ρ ω)->g vs σ H Q
section
variable {B O O':bu} {K:Lc} {E:XK} {H H' H1 H2:Hp} {α α' α1 α2:List Lp} {ω ω' ω1 ω2:aX} {σ:L2.St} {ρ:aQ} {v:V}
theorem N5.set (sl:N5 O K H α σ ρ) (h:OT O K H α v x):N5 O K H α (σ.set i (lD v)) (ρ.set i (lD x)):=by
 refine⟨by rw[MW,MW];exact sl.1,fun j y hy=> ?_⟩;rcases bj hy with⟨rfl,e⟩|⟨OK,U9⟩
 ·cases e;refine⟨v,?_,h⟩;rw[NQ];have:=pY hy;rw[sl.1];exact this
 ·obtain⟨u,h1,h2⟩:=sl.2 j y U9;exact⟨u,by rw[N7 (fun z=>OK z.symm)];exact h1,h2⟩
noncomputable def lz (i:Nat):om:=fun x ρ ω=> .ok (ρ.set i (lD x)) ω
theorem a5:B9 K E (o0 i) (lz i):=fun B σ H α ω ρ v x Q s sl h w=>WS.now s w _ (sl.set h)
noncomputable def GZ:Ao:=fun xs ρ ω=>match xs with
 |[]=> .ok ρ ω
 |_=> .bad
noncomputable def z5 (f:om) (g:Ao):Ao:=fun xs ρ ω=>match xs with
 |x::r=>(f x ρ ω).bind fun ρ1 ω1=>g r ρ1 ω1
 |[]=> .bad
theorem r9:Dv K E HD GZ:=by
 intro B σ H α ω ρ vs xs Q s sl h w;cases h with
 |nil=>exact⟨rfl,WS.now s w _ sl⟩
 |cons _ _=>exact w.elim
theorem iQ (h1:B9 K E t f) (h2:Dv K E u g):Dv K E (Bb t u) (z5 f g):=by
 intro B σ H α ω ρ vs xs Q s sl h w;cases h with
 |nil=>exact w.elim
 |cons a b=>refine⟨_,_,rfl,h1 B σ H α ω ρ _ _ _ s sl a (WS.imp (WS.bind w) fun ρ1 α1 ω1 H1 e1 s1 w1 σ1 V6=> ?_)⟩;exact h2 B σ1 H1 α1 ω1 ρ1 _ _ _ s1 V6 (N6.OC e1 b) w1
noncomputable def AF:SV->Option (List SV)
 | .fz (.tuple ds)=>lD (ds.map .fz)
 | .tp l=>lD (l.map AV.sv)
 |_=>Ld
theorem G5 (h:OT O K H α v x) (e:AF x=lD xs):∃a vs,v= .ref a/\QG O K H a vs/\N6 O K H α vs xs:=by
 unfold AF at e;split at e
 ·cases e
  cases h with
  |tup h hs=>exact⟨_,_,rfl,h,kw _ _ hs⟩
 ·cases e;obtain⟨a,ys,rfl,h1,h2⟩:=h;exact⟨a,ys,rfl,h1,qp h2⟩
 ·cases e
noncomputable def Ka (n:Nat) (f:Ao):om:=fun x ρ ω=>(RS.ME ω (AF x)).bind fun xs ω1=>if xs.length=n then f xs ρ ω1 else .bad
theorem qK (h:Dv K E t f):B9 K E (FR K n t) (Ka n f):=by
 intro B σ H α ω ρ v x Q s sl hv w;obtain⟨xs,q,w⟩:=WS.ME w;obtain⟨a,vs,rfl,h1,h2⟩:=G5 hv q;by_cases hn:xs.length=n
 ·rw[if_pos hn] at w;exact⟨a,vs,rfl,h1.1,h2.length.trans hn,h B σ H α ω ρ vs xs Q s sl h2 w⟩
 ·rw[if_neg hn] at w;exact w.elim
noncomputable def kZ:gM:=fun ρ ω=> .ok (.nx ρ) ω
noncomputable def cr (f g:gM):gM:=fun ρ ω=>(f ρ ω).bind fun fl ω1=>match fl with
 | .nx ρ1=>g ρ1 ω1
 |fl=> .ok fl ω1
noncomputable def kY (f:c7):gM:=fun ρ ω=>(f ρ ω).bind fun _ ω1=> .ok (.nx ρ) ω1
noncomputable def gz (f:c7) (g:om):gM:=fun ρ ω=>(f ρ ω).bind fun x ω1=>(g x ρ ω1).bind fun ρ1 ω2=> .ok (.nx ρ1) ω2
noncomputable def kA (c:og) (f g:gM):gM:=fun ρ ω=>(c ρ ω).bind fun b ω1=>if b=Lk then f ρ ω1 else g ρ ω1
noncomputable def lm (f:c7):gM:=fun ρ ω=>(f ρ ω).bind fun x ω1=> .ok (.rt x) ω1
theorem iG:nG K E zT kZ:=fun B σ H α ω ρ D s sl w=>WS.now s w σ sl
theorem bh (h1:nG K E t f) (h2:nG K E u g):nG K E (GF t u) (cr f g):=by
 intro B σ H α ω ρ D s sl w;refine h1 B σ H α ω ρ {D with nx:=u D} s sl (WS.imp (WS.bind w) fun fl α1 ω1 H1 e1 s1 w1=> ?_);cases fl with
 |nx ρ1=>exact fun σ1 V6=>h2 B σ1 H1 α1 ω1 ρ1 D s1 V6 w1
 |rt x=>exact WS.now (E:=E) s1 w1
 |bk ρ1=>exact WS.now (E:=E) s1 w1
 |ct ρ1=>exact WS.now (E:=E) s1 w1
theorem j7 (h:d5 K E t f):nG K E (zt t) (kY f):=by intro B σ H α ω ρ D s sl w;exact h B σ H α ω ρ _ s sl (WS.imp (WS.bind w) fun x α1 ω1 H1 e1 s1 w1 v hv=>WS.now s1 w1 σ (sl.OC e1))
theorem cX (h:d5 K E t f) (hg:B9 K E g fg):nG K E (Gs t g) (gz f fg):=by intro B σ H α ω ρ D s sl w;refine h B σ H α ω ρ _ s sl (WS.imp (WS.bind w) fun x α1 ω1 H1 e1 s1 w1 v hv=> ?_);exact hg B σ H1 α1 ω1 ρ v x _ s1 (sl.OC e1) hv (WS.imp (WS.bind w1) fun ρ1 α2 ω2 H2 e2 s2 w2 σ2 Sn=>WS.now s2 w2 σ2 Sn)
theorem nr (hc:uP K E c fc) (h1:nG K E t f) (h2:nG K E u g):nG K E (FZ c t u) (kA fc f g):=by
 intro B σ H α ω ρ D s sl w;refine hc B σ H α ω ρ _ s sl (WS.imp (WS.bind w) fun b α1 ω1 H1 e1 s1 w1=> ?_);cases b with
 |true=>exact h1 B σ H1 α1 ω1 ρ D s1 (sl.OC e1) w1
 |false=>exact h2 B σ H1 α1 ω1 ρ D s1 (sl.OC e1) w1
theorem gO (h:d5 K E t f):nG K E (Ib t) (lm f):=by intro B σ H α ω ρ D s sl w;exact h B σ H α ω ρ _ s sl (WS.imp (WS.bind w) fun x α1 ω1 H1 e1 s1 w1 v hv=>WS.now s1 w1 v hv)
abbrev Ir:=aQ->aX->RS (List D)
def JW (K:Lc) (E:XK) (wi:TI) (fi:Ir):Prop:=
 ∀(B:bu) (σ:L2.St) (H:Hp) (α:List Lp) (ω:aX) (ρ:aQ) (R':It->Hp->Prop),StoOk B K H α ω->N5 (ow B α ω) K H α σ ρ->WS K E B H α ω (fun ds α' ω' H'=>∀J,pW K J (ow B α' ω') H' ds->R' J H') (fi ρ ω)->wi σ H R'
noncomputable def mS (f:FI):Ir:=fun ρ ω=>match f (dX ρ) with
 | .ok (ds,_)=> .ok ds ω
 | .er x=> .er x ω
 | .bad=> .bad
theorem mD (h:IO K E wi f):JW K E wi (mS f):=by
 intro B σ H α ω ρ R' s sl w;refine h (ow B α ω) H (ow B α ω) σ H (dX ρ) R' (Bx s sl) ?_;unfold mS at w;cases q:f (dX ρ) with
 |bad=>rw[q] at w;exact w.elim
 |er x=>rw[q] at w;exact fun c dx H' e k=>w c dx α H' (Nq.same e) (s.grow e) k
 |ok r=>obtain⟨ds,ρ'⟩:=r;rw[q] at w;exact fun O' J H' e R it=>w α H' (Nq.same R.same) (s.grow R.same) J fun O2 H2 e2 n=>it O2 H2 (fun b o h z=>e2 b o h fun y=>z (R.bo b y)) n
noncomputable def wO (fe:c7):Ir:=fun ρ ω=>(fe ρ ω).bind fun x ω1=>(match frz 4 ω1 x with
 |some (d,ω2)=>RS.ME ω2 (fF d)
 |none=> .bad)
theorem wN (h:d5 K E tl fe):JW K E (xz K tl) (wO fe):=by
 intro B σ H α ω ρ R' s sl w;refine h B σ H α ω ρ _ s sl (WS.imp (WS.bind w) fun x α1 ω1 H1 e1 s1 w1 v hv=> ?_);cases q:frz 4 ω1 x with
 |none=>rw[q] at w1;exact w1.elim
 |some p=>
  obtain⟨d,ω2⟩:=p;rw[q] at w1;obtain⟨s2,e2,d2⟩:=qz 4 s1 hv q;dsimp only at w1;cases qs:fF d with
  |none=>rw[qs] at w1;exact w1.elim
  |some ds=>
   rw[qs] at w1;cases d2 with
   |tup h hs=>cases qs;exact⟨_,rfl,.inr ⟨⟨_,h.1⟩,w1 α1 H1 e2 s2 _ (C0 h hs)⟩⟩
   |lst h hs=>cases qs;exact⟨_,rfl,.inl ⟨⟨_,h.1.sq⟩,w1 α1 H1 e2 s2 _ (vZ h hs)⟩⟩
   |_=>cases qs
noncomputable def fW (gt:om) (b:gM):List D->gM
 |[],ρ,ω=> .ok (.nx ρ) ω
 |d::r,ρ,ω=>(gt (.fz d) ρ ω).bind fun ρ1 ω1=>(b ρ1 ω1).bind fun fl ω2=>match fl with
  | .nx ρ2=>fW gt b r ρ2 ω2
  | .ct ρ2=>fW gt b r ρ2 ω2
  | .bk ρ2=> .ok (.nx ρ2) ω2
  | .rt x=> .ok (.rt x) ω2
noncomputable def C3 (fi:Ir) (gt:om) (b:gM):gM:=fun ρ ω=>(fi ρ ω).bind fun ds ω1=>fW gt b ds ρ ω1
theorem qO (hi:JW K E wi fi) (hg:B9 K E g gt) (hb:nG K E tb b):nG K E (Bm wi g tb) (C3 fi gt b):=by
 intro B σ H α ω ρ D s sl w;refine hi B σ H α ω ρ _ s sl (WS.imp (WS.bind w) fun ds α1 ω1 H1 e1 s1 w1 J it=> ?_);refine⟨fun i m σ' H'=>m=ds.length - i/\i<=ds.length/\∃α2 ω2 ρ2,Nq α1 ω1 H1 α2 ω2 H'/\StoOk B K H' α2 ω2/\N5 (ow B α2 ω2) K H' α2 σ' ρ2/\WS K E B H' α2 ω2 (jt B K D) (fW gt b (ds.drop i) ρ2 ω2),⟨_,rfl,Mr _,α1,ω1,ρ,.refl,s1,sl.OC e1,w1⟩,?_⟩;rintro i m σ2 H2 ⟨rfl,hi,α2,ω2,ρ2,e2,s2,Sn,w2⟩;obtain⟨go,stop⟩:=it (ow B α2 ω2) H2 e2.ev s2.SQ;by_cases Pm:i<ds.length
 ·obtain⟨g1,g2⟩:=go i Pm
  refine .inr ⟨g1,fun σ' H'=>i+1<=ds.length/\∃α2 ω2 ρ2,Nq α1 ω1 H1 α2 ω2 H'/\StoOk B K H' α2 ω2/\N5 (ow B α2 ω2) K H' α2 σ' ρ2/\WS K E B H' α2 ω2 (jt B K D) (fW gt b (ds.drop (i+1)) ρ2 ω2),fun σ' H' ⟨h1,h2⟩=>⟨ds.length - (i+1),by omega,rfl,h1,h2⟩,fun x H3 y=> ?_⟩;obtain⟨s3,d,hd,dv⟩:=g2 x H3 y;have ed:ds.drop i=d::ds.drop (i+1):=by obtain⟨_,q⟩:=Lj.mp hd;rw[MO Pm,q]
  rw[ed] at w2;have e3:Nq α2 ω2 H2 α2 ω2 H3:=Nq.same s3;refine hg B σ2 H3 α2 ω2 ρ2 x (.fz d) _ (s2.grow s3) (Sn.OC e3) dv (WS.imp (WS.bind (WS.from e3 w2)) fun ρ3 α4 ω4 H4 e4 s4 w3 σ4 Xt=> ?_);refine hb B σ4 H4 α4 ω4 ρ3 _ s4 Xt (WS.imp (WS.bind w3) fun fl α5 ω5 H5 e5 s5 w4=> ?_);have Wc:=e2.trans (e3.trans (e4.trans e5));cases fl with
  |nx ρ5=>exact fun σ5 S5=>⟨Pm,α5,ω5,ρ5,Wc,s5,S5,w4⟩
  |ct ρ5=>exact fun σ5 S5=>⟨Pm,α5,ω5,ρ5,Wc,s5,S5,w4⟩
  |bk ρ5=>exact WS.now (E:=E) s5 w4
  |rt x=>exact WS.now (E:=E) s5 w4
 ·have e:i=ds.length:=by omega
  subst e;rw[Nb (Ll _)] at w2;exact .inl ⟨stop,WS.now s2 w2 σ2 Sn⟩
noncomputable def oA (c:og) (b:gM):Nat->gM
 |0,_,_=> .bad
 |n+1,ρ,ω=>(c ρ ω).bind fun k ω1=>if k=Lk then(b ρ ω1).bind fun fl ω2=>match fl with
  | .nx ρ2=>oA c b n ρ2 ω2
  | .ct ρ2=>oA c b n ρ2 ω2
  | .bk ρ2=> .ok (.nx ρ2) ω2
  | .rt x=> .ok (.rt x) ω2 else .ok (.nx ρ) ω1
noncomputable def AR (c:og) (b:gM):gM:=oA c b 1000000
theorem oP (hc:uP K E c fc) (hb:nG K E tb b):nG K E (Cp c tb) (AR fc b):=by
 intro B σ H α ω ρ D s sl w;refine⟨fun m σ' H'=>∃α2 ω2 ρ2,Nq α ω H α2 ω2 H'/\StoOk B K H' α2 ω2/\N5 (ow B α2 ω2) K H' α2 σ' ρ2/\WS K E B H' α2 ω2 (jt B K D) (oA fc b m ρ2 ω2),⟨_,α,ω,ρ,.refl,s,sl,w⟩,?_⟩;rintro m σ2 H2 ⟨α2,ω2,ρ2,e2,s2,Sn,w2⟩;cases m with
 |zero=>exact w2.elim
 |succ m=>
  refine hc B σ2 H2 α2 ω2 ρ2 _ s2 Sn (WS.imp (WS.bind w2) fun k α3 ω3 H3 e3 s3 w3=> ?_);cases k with
  |true=>
   rw[if_pos rfl] at w3⊢;refine⟨fun σ' H'=>∃α2 ω2 ρ2,Nq α ω H α2 ω2 H'/\StoOk B K H' α2 ω2/\N5 (ow B α2 ω2) K H' α2 σ' ρ2/\WS K E B H' α2 ω2 (jt B K D) (oA fc b m ρ2 ω2),fun σ' H' q=>⟨m,Ni m,q⟩,?_⟩;refine hb B σ2 H3 α3 ω3 ρ2 _ s3 (Sn.OC e3) (WS.imp (WS.bind w3) fun fl α5 ω5 H5 e5 s5 w4=> ?_);have Wc:=e2.trans (e3.trans e5);cases fl with
   |nx ρ5=>exact fun σ5 S5=>⟨α5,ω5,ρ5,Wc,s5,S5,w4⟩
   |ct ρ5=>exact fun σ5 S5=>⟨α5,ω5,ρ5,Wc,s5,S5,w4⟩
   |bk ρ5=>exact WS.now (E:=E) s5 w4
   |rt x=>exact WS.now (E:=E) s5 w4
  |false=>rw[if_neg LA] at w3⊢;exact WS.now s3 w3 σ2 (Sn.OC e3)
end
section
variable {B O O':bu} {K:Lc} {E:XK} {H H' H1 H2:Hp} {α α' α1 α2:List Lp} {ω ω' ω1 ω2:aX} {σ:L2.St} {ρ:aQ} {v:V}
noncomputable def bM (gt:om) (ft:og) (fe:c7):List D->aQ->aX->List SV->RS (List SV)
 |[],_,ω,acc=> .ok acc ω
 |d::r,ρ,ω,acc=>(gt (.fz d) ρ ω).bind fun ρ1 ω1=>(ft ρ1 ω1).bind fun b ω2=>if b=Lk then(fe ρ1 ω2).bind fun x ω3=>(if acc.length<1000000 then bM gt ft fe r ρ1 ω3 (acc++[x]) else .bad) else bM gt ft fe r ρ1 ω2 acc
noncomputable def fY (n:Nat) (fj:List Nat) (ρ:aQ):aQ:=Lq n Ld++fj.map fun j=>(ρ[j]?).join
noncomputable def xR (n:Nat) (fj:List Nat) (fi:Ir) (gt:om) (ft:og) (fe:c7):c7:=fun ρ ω=>(fi ρ ω).bind fun ds ω1=>(io (bM gt ft fe ds (fY n fj ρ) ω1 [])).bind fun xs ω2=> .ok (.rf ω2.length) (ω2++[.lst xs])
theorem EE {own:List Str} {fv:List (Str×Nat)} {n:Nat} {fj:List Nat} (hn:own.length=n) (hf:fv.map (·.2)=fj) (sl:N5 O K H α σ ρ):N5 O K H α (dY own fv σ) (fY n fj ρ):=by
 unfold dY fY;rw[vY hn];have hl:fv.length=fj.length:=by rw[<-hf,Lh]
 refine⟨by rw[Ln,Ln,LI,LI,Lh,Lh,hl],fun j x hx=> ?_⟩;by_cases hj:j<n
 ·rw[LK (by rw[LI];exact hj),NL,if_pos hj] at hx;cases hx
 ·rw[LX (by rw[LI];omega),LI,Ls] at hx⊢
  subst hf;rw[Ls] at hx;cases q:fv[j - n]? with
  |none=>rw[q] at hx;cases hx
  |some p=>
   rw[q] at hx;have Sm:(ρ[p.2]?).join=lD x:=LZ hx;have Wh:ρ[p.2]? =lD (lD x):=by
    cases qq:ρ[p.2]? with
    |none=>rw[qq] at Sm;cases Sm
    |some o=>rw[qq] at Sm;exact congrArg lD Sm
   obtain⟨u,h1,h2⟩:=sl.2 p.2 x Wh;exact⟨u,by show lD ((σ[p.2]?).join)=_;rw[h1];rfl,h2⟩
theorem sZ {p:Lp} {c:Cell} (hl:α.length=ω.length) (hc:c≠ .dead):ow (bC B p) α ω=ow B (α++[p]) (ω++[c]):=by
 funext b;refine propext ⟨fun z=> ?_,fun z=> ?_⟩
 ·rcases z with(z|z)|⟨i,d,h1,h2,h3⟩
  ·exact .inl z
  ·exact .inr ⟨α.length,c,by rw[z];exact aU,by rw[hl];exact aU,hc⟩
  ·exact .inr ⟨i,d,iS h1,iS h2,h3⟩
 ·rcases z with z|z
  ·exact .inl (.inl z)
  ·rcases pB hl z with z|z
   ·exact .inr z
   ·exact .inl (.inr z)
theorem StoOk.adopt {p:Lp} {vs:List V} {xs:List SV} (s:StoOk (bC B p) K H α ω) (hp:H p=lD (.lst vs)) (hv:N6 (ow (bC B p) α ω) K H α vs xs) (hB:¬B p):StoOk B K H (α++[p]) (ω++[.lst xs]):=by
 have eo:ow (bC B p) α ω=ow B (α++[p]) (ω++[.lst xs]):=sZ s.len (by intro z;cases z);have pre:∀(i:Nat) (a:Lp),α[i]? =lD a->(α++[p])[i]? =lD a:=fun i a h=>iS h;have np:∀i:Nat,α[i]?≠lD p:=s.ba p (.inr rfl);refine⟨by rw[Ln,Ln,s.len];rfl,fun i j a h1 h2=> ?_,fun a h=>s.bn a (.inl h),fun a h i q=> ?_,fun i a h=> ?_,fun i a d h1 h2=> ?_⟩
 ·rcases bF h1 with g1|⟨e1,e2⟩<;>rcases bF h2 with g2|⟨e3,e4⟩
  ·exact s.nd i j a g1 g2
  ·rw[e4] at g1;exact absurd g1 (np i)
  ·rw[e2] at g2;exact absurd g2 (np j)
  ·omega
 ·rcases bF q with q|⟨_,e2⟩
  ·exact s.ba a (.inl h) i q
  ·subst e2;exact hB h
 ·rcases bF h with h|⟨_,e2⟩
  ·exact s.al i a h
  ·rw[e2,hp];simp
 ·rw[<-eo]
  rcases bF h2 with g2|⟨e1,e2⟩
  ·rcases bF h1 with g1|⟨e1,_⟩
   ·exact(s.RL i a d g1 g2).ev .refl pre fun o q=>q
   ·have:=(Lj.mp g2).1;have:=s.len;omega
  ·rcases bF h1 with g1|⟨_,e3⟩
   ·have:=(Lj.mp g1).1;have:=s.len;omega
   ·rw[e2,e3];exact⟨vs,hp,Paired.Ph hv fun _ _ r=>r.ev .refl pre⟩
theorem StoOk.hide {p:Lp} {o:HO} (s:StoOk B K H α ω) (hp:H p=Ld):StoOk (bC B p) K (upd H p o) α ω:=by have sm:Nk H (upd H p o):=cc hp o;have g:=s.grow sm;have ev:Ev (ow B α ω) H (ow (bC B p) α ω) (upd H p o):=fun b u h n=>⟨sm b u h,fun z=>z.elim (fun z=>z.elim (fun z=>n (.inl z)) fun z=>by rw[z,hp] at h;cases h) fun z=>n (.inr z)⟩;refine⟨g.len,g.nd,fun a h=>h.elim (g.bn a) fun e=>by rw[e,aB];simp,fun a h i q=>h.elim (fun h=>g.ba a h i q) fun e=>by rw[e] at q;exact s.al i p q hp,g.al,fun i a c h1 h2=> ?_⟩;exact(s.RL i a c h1 h2).ev ev (fun _ _ h=>h) fun o q=>sm _ _ q
theorem StoOk.aaS {p:Lp} {o o':HO} (s:StoOk (bC B p) K H α ω) (hp:H p=lD o):StoOk (bC B p) K (upd H p o') α ω:=by
 have ev:Ev (ow (bC B p) α ω) H (ow (bC B p) α ω) (upd H p o'):=Ev.mut (.inl (.inr rfl)) o';have n:∀b,H b≠Ld->upd H p o' b≠Ld:=fun b h=>by
  by_cases z:b=p
  ·subst z;rw[aB];simp
  ·rw[az z];exact h
 refine⟨s.len,s.nd,fun a h=>n a (s.bn a h),s.ba,fun i a h=>n a (s.al i a h),fun i a c h1 h2=>(s.RL i a c h1 h2).ev ev (fun _ _ h=>h) fun u q=> ?_⟩;have:a≠p:=fun z=>s.ba p (.inr rfl) i (by rw[<-z];exact h1);rw[az this];exact q
theorem Nq.dd {p:Lp} {o:HO} (e:Nq α1 ω1 H1 α ω H) (hp:H1 p=Ld):Nq α1 ω1 H1 α ω (upd H p o):=⟨e.pre,fun b u h n=>by rw[az (bX h hp)];exact e.kp b u h n,e.lv⟩
theorem StoOk.WY {p:Lp} (s:StoOk (bC B p) K H α ω):StoOk B K H α ω:=
 ⟨s.len,s.nd,fun a h=>s.bn a (.inl h),fun a h=>s.ba a (.inl h),s.al,fun i a c h1 h2=>(s.RL i a c h1 h2).ev (fun b o h n=>⟨h,fun y=>n (y.elim (fun y=> .inl (.inl y)) .inr)⟩) (fun _ _ h=>h) fun _ h=>h⟩
theorem mY {own:List Str} {fv:List (Str×Nat)} {g:TG} {tc:TT} {te:TE} {gt:om} {ft:og} {fe:c7} {n:Nat} {fj:List Nat} {J:It} {Q:VK} {ds:List D} (hn:own.length=n) (hf:fv.map (·.2)=fj)
  (hg:B9 K E g gt) (ht:uP K E tc ft) (he:d5 K E te fe) (s1:StoOk B K H1 α1 ω1) (V6:N5 (ow B α1 ω1) K H1 α1 σ ρ) (it:pW K J (ow B α1 ω1) H1 ds) (w1:WS K E B H1 α1 ω1 (PQ B K Q) ((bM gt ft fe ds (fY n fj ρ) ω1 []).bind fun xs ω2=> .ok (.rf ω2.length) (ω2++[.lst xs]))):
  ∀D,H1 D=Ld->tj J D (dY own fv σ) g tc te H1 fun H'=>Q (.ref D) H':=by
 intro Dd hD;have slc:N5 (ow B α1 ω1) K H1 α1 (dY own fv σ) (fY n fj ρ):=EE hn hf V6;generalize qr:bM gt ft fe ds (fY n fj ρ) ω1 []=rr at w1;by_cases Vf:rr= .bad
 ·subst Vf;exact w1.elim
 ·
  have hB:¬B Dd:=fun z=>s1.bn Dd z hD;have evH:∀{α2:List Lp} {ω2:aX} {H':Hp},Nq α1 ω1 H1 α2 ω2 H'->Ev (ow B α1 ω1) H1 (ow (bC B Dd) α2 ω2) H':=fun e b o h n=>⟨e.kp b o h fun z=>n (.inr z),fun z=>by
   rcases z with(z|z)|z
   ·exact n (.inl z)
   ·rw[z,hD] at h;cases h
   ·exact(e.lv b z).elim (fun q=>n (.inr q)) fun q=>by rw[h] at q;cases q⟩
  refine⟨fun i m σ' H'=>m=ds.length - i/\i<=ds.length/\∃α2 ω2 ρc acc ys,Nq α1 ω1 H1 α2 ω2 H'/\StoOk (bC B Dd) K H' α2 ω2/\N5 (ow (bC B Dd) α2 ω2) K H' α2 σ' ρc/\H' Dd=lD (.lst ys)/\N6 (ow (bC B Dd) α2 ω2) K H' α2 ys acc/\bM gt ft fe (ds.drop i) ρc ω2 acc=rr,
   ⟨_,rfl,Mr _,α1,ω1,fY n fj ρ,[],[],Nq.same (cc hD _),s1.hide hD,?_,aB,.nil,qr⟩,?_⟩
  ·exact⟨slc.1,fun j x hx=>let⟨v,h1,h2⟩:=slc.2 j x hx;⟨v,h1,h2.ev (evH (Nq.same (cc hD _))) fun _ _ h=>h⟩⟩
  ·rintro i m σ2 H2 ⟨rfl,hi,α2,ω2,ρ2,acc,ys,e2,s2,Sn,hy,vy,qP⟩
   obtain⟨go,stop⟩:=it (ow (bC B Dd) α2 ω2) H2 (evH e2) s2.SQ;by_cases Pm:i<ds.length
   ·obtain⟨g1,g2⟩:=go i Pm
    refine .inr ⟨g1,fun σ5 H5=>i+1<=ds.length/\∃α2 ω2 ρc acc ys,Nq α1 ω1 H1 α2 ω2 H5/\StoOk (bC B Dd) K H5 α2 ω2/\N5 (ow (bC B Dd) α2 ω2) K H5 α2 σ5 ρc/\H5 Dd=lD (.lst ys)/\N6 (ow (bC B Dd) α2 ω2) K H5 α2 ys acc/\bM gt ft fe (ds.drop (i+1)) ρc ω2 acc=rr,
     fun σ5 H5 ⟨h1,h2⟩=>⟨ds.length - (i+1),by omega,rfl,h1,h2⟩,fun x H3 y=> ?_⟩
    obtain⟨s3,d,hd,dv⟩:=g2 x H3 y;have ed:ds.drop i=d::ds.drop (i+1):=by obtain⟨_,q⟩:=Lj.mp hd;rw[MO Pm,q]
    rw[ed] at qP;unfold bM at qP;have e3:Nq α2 ω2 H2 α2 ω2 H3:=Nq.same s3;have kD:∀{αx αy:List Lp} {ωx ωy:aX} {Hx Hy:Hp} {o:HO},StoOk (bC B Dd) K Hx αx ωx->Nq αx ωx Hx αy ωy Hy->Hx Dd=lD o->Hy Dd=lD o:=fun sx ex h=>ex.kp _ _ h fun⟨i,c,q,_⟩=>sx.ba Dd (.inr rfl) i q;have raise:∀{α3:List Lp} {ω3:aX} {H3:Hp} {z:Xc} {ωz:aX},Nq α1 ω1 H1 α3 ω3 H3->RS.er z ωz=rr->∀c dx α' H',Nq α3 ω3 H3 α' ωz H'->StoOk (bC B Dd) K H' α' ωz->VP K (ow (bC B Dd) α' ωz) H' c dx z->E c dx H':=fun{α3 ω3 H3 z ωz} e3 q c dx α' H' e s' x'=>by subst q;exact w1 c dx α' H' (e3.trans e) s'.WY (VP.sub (fun b y=>y.elim (fun y=> .inl (.inl y)) .inr) x')
    refine hg (bC B Dd) σ2 H3 α2 ω2 ρ2 x (.fz d) _ (s2.grow s3) (Sn.OC e3) dv ?_;cases qg:gt (.fz d) ρ2 ω2 with
    |er z ωz=>rw[qg] at qP;exact raise (e2.trans e3) qP
    |bad=>rw[qg] at qP;exact Vf qP.symm
    |ok ρ4 ω4=>
     rw[qg] at qP;intro α4 H4 e4 s4 σ4 Xt;refine ht (bC B Dd) σ4 H4 α4 ω4 ρ4 _ s4 Xt ?_;have qP:((ft ρ4 ω4).bind fun b ω2=>if b=Lk then(fe ρ4 ω2).bind fun x ω3=>(if acc.length<1000000 then bM gt ft fe (ds.drop (i+1)) ρ4 ω3 (acc++[x]) else .bad) else bM gt ft fe (ds.drop (i+1)) ρ4 ω2 acc)=rr:=qP;cases qt:ft ρ4 ω4 with
     |er z ωz=>rw[qt] at qP;exact raise (e2.trans (e3.trans e4)) qP
     |bad=>rw[qt] at qP;exact Vf qP.symm
     |ok b ω5=>
      rw[qt] at qP;intro α5 H5 e5 s5;have S5:=Xt.OC e5;have YH:=e3.trans (e4.trans e5);cases b with
      |false=>have qP:bM gt ft fe (ds.drop (i+1)) ρ4 ω5 acc=rr:=qP;exact⟨Pm,α5,ω5,ρ4,acc,ys,e2.trans YH,s5,S5,kD s2 YH hy,N6.OC YH vy,qP⟩
      |true=>
       have qP:((fe ρ4 ω5).bind fun x ω3=>(if acc.length<1000000 then bM gt ft fe (ds.drop (i+1)) ρ4 ω3 (acc++[x]) else .bad))=rr:=qP;rw[if_pos rfl];refine he (bC B Dd) σ4 H5 α5 ω5 ρ4 _ s5 S5 ?_;cases qe:fe ρ4 ω5 with
       |er z ωz=>rw[qe] at qP;exact raise (e2.trans YH) qP
       |bad=>rw[qe] at qP;exact Vf qP.symm
       |ok x6 ω6=>
        rw[qe] at qP;intro α6 H6 e6 s6 v6 hv6;have qP:(if acc.length<1000000 then bM gt ft fe (ds.drop (i+1)) ρ4 ω6 (acc++[x6]) else .bad)=rr:=qP;by_cases WO:acc.length<1000000
        ·rw[if_pos WO] at qP;have ZZ:=YH.trans e6;have hy6:H6 Dd=lD (.lst ys):=kD s2 ZZ hy;have vy6:=N6.OC ZZ vy;have em:Ev (ow (bC B Dd) α6 ω6) H6 (ow (bC B Dd) α6 ω6) (upd H6 Dd (.lst (ys++[v6]))):=Ev.mut (.inl (.inr rfl)) _;have sl6:=S5.OC e6;refine⟨ys,hy6,um (by rw[vy6.length];exact WO),Pm,α6,ω6,ρ4,acc++[x6],ys++[v6],(e2.trans ZZ).dd hD,s6.aaS hy6,⟨sl6.1,fun j x hx=>let⟨v,h1,h2⟩:=sl6.2 j x hx;⟨v,h1,h2.ev em fun _ _ h=>h⟩⟩,aB,wC (Paired.Ph vy6 fun _ _ r=>r.ev em fun _ _ h=>h) (hv6.ev em fun _ _ h=>h),qP⟩
        ·rw[if_neg WO] at qP;exact absurd qP.symm Vf
   ·have e:i=ds.length:=by omega
    subst e;rw[Nb (Ll _)] at qP;have qP:RS.ok acc ω2=rr:=qP;subst qP;refine .inl ⟨stop,?_⟩;refine w1 (α2++[Dd]) H2 ⟨fun i a h=>iS (e2.pre i a h),e2.kp,fun b z=>(pB s2.len z).elim (e2.lv b) fun z=> .inr (by rw[z];exact hD)⟩ (s2.adopt hy vy hB) (.ref Dd) ⟨Dd,by rw[<-s2.len];exact aU,rfl⟩
theorem zi {A C:Type} {P:C->List Lp->aX->Hp->Prop} {r:RS A} {k:A->aX->C} {m:A->aX->aX} (w:WS K E B H α ω P ((io r).bind fun a o=> .ok (k a o) (m a o))):WS K E0 B H α ω P (r.bind fun a o=> .ok (k a o) (m a o)):=by
 cases r with
 |ok a o=>exact w
 |er x o=>exact w.elim
 |bad=>exact w
theorem B2 {own:List Str} {fv:List (Str×Nat)} {wi:TI} {g:TG} {tc:TT} {te:TE} {fi:Ir} {gt:om} {ft:og} {fe:c7} {n:Nat} {fj:List Nat} (hn:own.length=n) (hf:fv.map (·.2)=fj)
  (hi:JW K E wi fi) (hg:B9 K E0 g gt) (ht:uP K E0 tc ft) (he:d5 K E0 te fe):d5 K E (oG own fv wi g tc te) (xR n fj fi gt ft fe):=by
 intro B σ H α ω ρ Q s sl w;refine hi B σ H α ω ρ _ s sl (WS.imp (WS.bind w) fun ds α1 ω1 H1 e1 s1 w1 J it=> ?_);exact mY hn hf hg ht he s1 (sl.OC e1) it (zi w1)
noncomputable def lB (N:Nat) (g:gM):pE:=fun xs ω=>(g (xs.map lD++Lq (N - xs.length) Ld) ω).bind fun fl ω1=>match fl with
 | .rt x=> .ok x ω1
 | .nx _=> .ok (.fz .none) ω1
 |_=> .bad
theorem AI {N:List Str} {vs:List V} {xs:List SV} (h:N6 O K H α vs xs):N5 O K H α (L2.start N vs) (xs.map lD++Lq (N.length - xs.length) Ld):=by
 have hl:vs.length=xs.length:=Paired.length h;unfold L2.start;refine⟨by rw[Ln,Ln,Lh,Lh,LI,LI,hl],fun i x hx=> ?_⟩;by_cases hi:i<xs.length
 ·rw[LK (by rw[Lh];exact hi),Ls] at hx
  cases q:xs[i]? with
  |none=>rw[q] at hx;cases hx
  |some d=>rw[q] at hx;cases hx;obtain⟨v,hv,h2⟩:=Ar h q;refine⟨v,?_,h2⟩;rw[LK (by rw[Lh,hl];exact hi),Ls,hv];rfl
 ·rw[LX (by rw[Lh];omega),NL] at hx;split at hx<;>cases hx
theorem GX {N:List Str} {vs:List V} {xs:List SV} {g:gM} {t:TS} {Q:VK} {n:Nat} (hs:nG K E t g) (h:yH K n (lB N.length g) vs H Q E):t {nx:=fun _ H'=>Q .ON H',rt:=Q} (L2.start N vs) H:=by
 obtain⟨hl,B,α,ω,xs,s,hv,w⟩:=h;refine hs B _ H α ω _ _ s (AI hv) (WS.imp (WS.bind w) fun fl α1 ω1 H1 e1 s1 w1=> ?_);cases fl with
 |rt x=>exact WS.now (E:=E) s1 w1
 |nx ρ=>exact fun σ sl=>WS.now (E:=E) s1 w1 .ON .ON
 |bk ρ=>exact w1.elim
 |ct ρ=>exact w1.elim
end
theorem K5 {P:LR} {w:Mg} {K:Lc} {mg:Str->Option Lf} {base:Heap} {x qual:Str} {st:NZ} {f:Lp} {fd:M8} {N ps:List Str} {k n m:Nat} {g:gM} {FF:pE} (F:PY K x qual st f fd) (S:OM N ps (aF st)) (hn:ps.length=n) (hm:N.length=m) (hF:FF=lB m g)
  (Pu:∀(Ny:Lf) (A:L0) (outer:List Env) (s:Lm) (H:Hp) (E:XK),OG k (A.deeper (MB qual (aF st) s.heap.objs.size f Ny))->
   ∃t,Rq (lF fT P w K mg base N qual (aF st) f Ny A outer s H E).Vx (bZ st) t/\nG K E t g):FnOk P w K mg base fT (k+1) f fd ps (yH K n FF):=by
 subst hF hm;refine F.ok S (fun vs H Q E h=>h.1.trans hn.symm) (fun Ny A outer s H vs Q E hr h=> ?_);obtain⟨t,ht,hs⟩:=Pu Ny A outer s H E hr;exact⟨t,ht,GX (xs:=[]) hs h⟩
noncomputable abbrev Ae (P:LR) (w:Mg) (K:Lc) (mg:Str->Option Lf) (base:Heap) (k:Nat) (x:Str) (ps:List Str) (n:Nat) (F:pE):Prop:=wW P w K mg base k x ps (yH K n F)
end L10
namespace PySem.W
open PySem PySem.Calls PyProof.Rows PyProof.V PySem.Spec
end PySem.W
namespace PyProof.Rows
open PySem
end PyProof.Rows
namespace L10
open PySem PySem.Spec PyProof.Rows L2 L3
noncomputable def Ih (p d:Lp):HO:= .ext fun h=>h.IsValuesView p d
theorem JB (x:h.IsValuesView p d):MY P w H h p (Ih p d):=⟨x,let⟨o,ho,_⟩:=x;⟨o,ho⟩,fun h1 h2 ⟨o,ho,hc⟩ k=>⟨o,k o ho,hc⟩⟩
end L10
namespace PySem
open Sem (wp)
namespace F
theorem sub_ae:isSubtype (.type "AttributeError") (.type "AttributeError")=pure Lk:=by rw[isSubtype_type];kernel_rfl
end F
section
variable {prog:LR} {w:Mg} {A:L0} {E:Lf->Lm->Prop} {h:Heap} {g:Array Rr} {d:W4} {t:Nat} {os:W7} {a:Lp} {o:Obj}
theorem ve {α:Type} {name msg:Str} {Q:α->Lm->Prop} {E:Lf->Lm->Prop} (hm:msg.length<=LL) (hh:A.handled=Ld) (hq:∀e h' t',(∀b o,h.get? b=lD o->h'.get? b=lD o)->(⟨h',g,d,t',os⟩:Lm).TypeIs e "AttributeError"->E e ⟨h',g,d,t',os⟩):
  wpAny (model prog w) A (raiseAttrError (.ref a) name msg:Sem α) Q E ⟨h,g,d,t,os⟩:=by
 have Wl:¬msg.length>LL:=Nat.not_lt.mpr hm;unfold raiseAttrError newExc newTuple
 repeat (any_goals (first|assumption|wp_step))
 refine P4 (a:=Lk) F.sub_ae ?_
 repeat (any_goals (first|assumption|wp_step))
 refine wpAny_raiseNew_none hh (hq _ _ _ (fun b o e=> ?_) ?_)
 ·exact(Heap.get?_update_other _ _ (Ne.symm (Ml (Heap.lt_size (Heap.get?_push_of_some _ e))))).trans (Heap.get?_push_of_some _ (Heap.get?_push_of_some _ e))
 ·exact⟨_,Heap.get?_update_self _ (Heap.get?_push_size _ rfl) rfl,rfl⟩
namespace F
theorem entry_upd_loop:entryFor table "dict.update.loop"=lD LJ.«dict.update.loop»:=entryFor_of_tree (by kernel_rfl)
theorem plain_upd_loop:plainId "dict.update.loop"=Lk:=by decide+kernel
end F
end
end PySem
namespace PySem
open Sem (wp)
open PyProof.Rows
end PySem
namespace L10
open PySem PySem.Spec PyProof.Rows L2 L3
inductive U3 (K:Lc) (H:Hp):List V->List (ku×V)->Prop
 |nil:U3 K H [] []
 |cons {q:Lp} {k:ku} {v:V} {vs:List V} {Mj:List (ku×V)}:P9 K H q [kV k,v]->U3 K H vs Mj->U3 K H (.ref q::vs) ((k,v)::Mj)
end L10
namespace L10
open PySem PyProof.Rows L2 L3
theorem uQ:ML "dict"=lD (.type "dict"):=by decide+kernel
section
variable {B O O':bu} {K:Lc} {E:XK} {H H' H1 H2:Hp} {α α' α1 α2:List Lp} {ω ω' ω1 ω2:aX} {σ:L2.St} {ρ:aQ} {v:V}
theorem tt (s:StoOk B K H α ω) (hp:H p=Ld) (w:WS K E B H α ω (PQ B K Q) (.ok (.rf ω.length) (ω++[c]))) (hc:∀e:Nq α ω H (α++[p]) (ω++[c]) (upd H p o),U4 (ow B (α++[p]) (ω++[c])) K (upd H p o) (α++[p]) p c):Q (.ref p) (upd H p o):=by have sm:Nk H (upd H p o):=cc hp _;have e:Nq α ω H (α++[p]) (ω++[c]) (upd H p o):=Nq.RE s.len sm hp;exact w _ _ e (s.RE sm hp (by rw[aB];simp) (hc e)) _ ⟨p,by rw[<-s.len];exact aU,rfl⟩
end
end L10
namespace PySem
open PyProof.Rows
namespace F
end F
end PySem
namespace L10
open PySem PySem.Spec PyProof.Rows L2 L3
end L10
namespace L10
open PySem L2 L3
section
variable {B O O':bu} {K:Lc} {E:XK} {H H' H1 H2:Hp} {α α' α1 α2:List Lp} {ω ω' ω1 ω2:aX} {σ:L2.St} {ρ:aQ} {v:V}
theorem eZ {l r:List A} (h:(l++r)[i]? =lD y):l[i]? =lD y\/∃j,i=l.length+j/\r[j]? =lD y:=by
 by_cases hi:i<l.length
 ·rw[LK hi] at h;exact .inl h
 ·rw[LX (by omega)] at h;exact .inr ⟨i - l.length,by omega,h⟩
theorem DJ {l r:List A} {i:Nat} (h:l[i]? =lD y):(l++r)[i]? =lD y:=by rw[LK (Lj.mp h).1];exact h
theorem C5 {l r:List A} (h:r[i]? =lD y):(l++r)[l.length+i]? =lD y:=by rw[LX (by omega),PX];exact h
theorem Be (hl:α.length=ω.length) (h:Lv (α++ps) (ω++cs) b):Lv α ω b\/b∈ps:=by
 obtain⟨i,d,h1,h2,h3⟩:=h;rcases eZ h1 with g1|⟨j,e1,g1⟩
 ·rcases eZ h2 with g2|⟨k,e2,g2⟩
  ·exact .inl ⟨i,d,g1,g2,h3⟩
  ·have:=(Lj.mp g1).1;omega
 ·exact .inr (LH g1)
theorem Nq.RZ (s:StoOk B K H α ω) (e:Nk H H') (hp:∀p∈ps,H p=Ld):Nq α ω H (α++ps) (ω++cs) H':=
 ⟨fun i a h=>DJ h,fun b u q _=>e b u q,fun b z=>(Be s.len z).imp id fun z=>hp b z⟩
theorem StoOk.RZ (s:StoOk B K H α ω) (e:Nk H H') (hp:∀p∈ps,H p=Ld) (hq:∀p∈ps,H' p≠Ld) (nd:∀(i j:Nat) (a:Lp),ps[i]? =lD a->ps[j]? =lD a->i=j) (hl:ps.length=cs.length)
  (new:∀(i:Nat) (a:Lp) (c:Cell),ps[i]? =lD a->cs[i]? =lD c->U4 (ow B (α++ps) (ω++cs)) K H' (α++ps) a c):StoOk B K H' (α++ps) (ω++cs):=by
 have ev:Nq α ω H (α++ps) (ω++cs) H':=Nq.RZ s e hp;have n:∀b,H b≠Ld->H' b≠Ld:=fun b h z=>h (e.free z);refine⟨by rw[Ln,Ln,s.len,hl],fun i j a h1 h2=> ?_,fun a h=>n a (s.bn a h),fun a h i q=> ?_,fun i a h=> ?_,fun i a d h1 h2=> ?_⟩
 ·rcases eZ h1 with g1|⟨i',e1,g1⟩<;>rcases eZ h2 with g2|⟨j',e2,g2⟩
  ·exact s.nd i j a g1 g2
  ·exact absurd (hp a (LH g2)) (s.al i a g1)
  ·exact absurd (hp a (LH g1)) (s.al j a g2)
  ·have:=nd i' j' a g1 g2;omega
 ·rcases eZ q with q|⟨j,_,q⟩
  ·exact s.ba a h i q
  ·exact s.bn a h (hp a (LH q))
 ·rcases eZ h with h|⟨j,_,h⟩
  ·exact n a (s.al i a h)
  ·exact hq a (LH h)
 ·have hle:=s.len
  rcases eZ h2 with g2|⟨j,e2,g2⟩
  ·rcases eZ h1 with g1|⟨k,e1,g1⟩
   ·exact(s.RL i a d g1 g2).ev ev.ev ev.pre fun o q=>e _ _ q
   ·have:=(Lj.mp g2).1;omega
  ·rcases eZ h1 with g1|⟨k,e1,g1⟩
   ·have:=(Lj.mp g1).1;omega
   ·have:k=j:=by omega
    subst this;exact new k a d g1 g2
noncomputable def Et (ω':aX):Nat->List AV->Option (List AV×List (List D)×List Nat)
 |_,[]=>lD ([],[],[])
 |n,.fz d::r=>match Et ω' n r with
  |some (l,cs,js)=>lD (.fz d::l,cs,js)
  |none=>Ld
 |n,.rf i::r=>match sh ω' (.rf i) with
  |some (.list ds)=>(match Et ω' (n+1) r with
   |some (l,cs,js)=>lD (.rf n::l,ds::cs,i::js)
   |none=>Ld)
  |_=>Ld
noncomputable def Kf (ds:List D):Cell:= .lst (ds.map .fz)
noncomputable def jh (x:SV) (ω' ω:aX):RS SV:=match x with
 | .fz d=> .ok (.fz d) ω
 | .rf i=>(match sh ω' (.rf i) with
  |some (.list ds)=>gC ω (.ow ds)
  |_=> .bad)
 | .tp l=>(match Et ω' ω.length l with
  |some (l',cs,js)=>if js.Nodup then .ok (.tp l') (ω++cs.map Kf) else .bad
  |none=> .bad)
theorem sg (h:sh ω (.rf i)=lD (.list ds)):∃xs,ω[i]? =lD (.lst xs)/\aw nX xs=lD ds:=by
 unfold sh at h;dsimp only at h;cases q:ω[i]? with
 |none=>rw[q] at h;cases h
 |some c=>
  rw[q] at h;cases c with
  |lst xs=>
   dsimp only at h;cases q2:aw nX xs with
   |none=>rw[q2] at h;cases h
   |some es=>rw[q2] at h;cases h;exact⟨xs,rfl,q2⟩
  |_=>cases h
theorem jE (s:StoOk B K H α ω) (h:sh ω (.rf i)=lD (.list ds)):∃a vs,α[i]? =lD a/\H a=lD (.lst vs)/\L3.Nc (ow B α ω) K H vs ds/\ow B α ω a:=by obtain⟨xs,q1,q2⟩:=sg h;obtain⟨a,ha⟩:=s.at q1;obtain⟨vs,h1,h2⟩:=s.RL i a _ ha q1;exact⟨a,vs,ha,h1,ju (cZ (R:=OT (ow B α ω) K H α) (fun v x y r e=>Ck r e) h2 q2),.inr ⟨i,_,ha,q1,by intro z;cases z⟩⟩
theorem zK {B':bu} (s:StoOk B' K H' α' ω'):∀{n:Nat} {l l':List AV} {cs:List (List D)} {js:List Nat} {xs:List V},Et ω' n l=lD (l',cs,js)->Paired (Vb (ow B' α' ω') K H' α') xs l->
  ∃ps:List Lp,ps.length=js.length/\cs.length=js.length/\(∀(k j:Nat),js[k]? =lD j->∃a ds vs,ps[k]? =lD a/\cs[k]? =lD ds/\α'[j]? =lD a/\H' a=lD (.lst vs)/\L3.Nc (ow B' α' ω') K H' vs ds/\ow B' α' ω' a)/\
   ∀(γ:List Lp),γ.length=n->Paired (Vb (ow B' α' ω') K H' (γ++ps)) xs l'
 |_,[],_,_,_,_,e,.nil=>by cases e;exact⟨[],rfl,rfl,fun k j h=>by simp at h,fun γ _=> .nil⟩
 |n,.fz d::r,l',cs,js,_,e,.cons h t=>by
  unfold Et at e;cases q:Et ω' n r with
  |none=>rw[q] at e;cases e
  |some p=>obtain⟨l1,cs1,js1⟩:=p;rw[q] at e;cases e;obtain⟨ps,h1,h2,h3,h4⟩:=zK s q t;exact⟨ps,h1,h2,h3,fun γ hγ=> .cons h (h4 γ hγ)⟩
 |n,.rf i::r,l',cs,js,_,e,.cons h t=>by
  unfold Et at e;cases qs:sh ω' (.rf i) with
  |none=>rw[qs] at e;cases e
  |some d=>
   rw[qs] at e;cases d with
   |list ds=>
    dsimp only at e;cases q:Et ω' (n+1) r with
    |none=>rw[q] at e;cases e
    |some p=>
     obtain⟨l1,cs1,js1⟩:=p;rw[q] at e;cases e;obtain⟨ps,h1,h2,h3,h4⟩:=zK s q t;obtain⟨a,vs,ha,hv,hd,ho⟩:=jE s qs;refine⟨a::ps,by rw[Lu,Lu,h1],by rw[Lu,Lu,h2],fun k j hk=> ?_,fun γ hγ=> ?_⟩
     ·cases k with
      |zero=>cases hk;exact⟨a,ds,vs,rfl,rfl,ha,hv,hd,ho⟩
      |succ k=>exact h3 k j (by simpa using hk)
     ·have e2:γ++a::ps=(γ++[a])++ps:=by simp
      obtain⟨a',SG,rfl⟩:=h;rw[ha] at SG;cases SG;refine .cons ⟨a,by rw[<-hγ];exact C5 (l:=γ) (r:=a::ps) (i:=0) rfl,rfl⟩ ?_;rw[e2];exact h4 (γ++[a]) (by rw[Ln,hγ];rfl)
   |_=>cases e
theorem i8 (s:StoOk B K H α ω) (w:WS K E B H α ω (PQ B K Q) (jh x ω' ω)) (e':Nq [] [] H α' ω' H') (s':StoOk (ow B α ω) K H' α' ω') (hv:OT (ow (ow B α ω) α' ω') K H' α' v x):Q v H':=by
 have sm:=fun b o h=>e'.kp b o h fun⟨i,c,q,_⟩=>by simp at q
 have sub:∀b,ow B α ω b->ow (ow B α ω) α' ω' b:=fun b z=> .inl z;have fr:=fun i a c h1 h2 h3=>(e'.lv a ⟨i,c,h1,h2,h3⟩).elim (fun⟨i,c,q,_⟩=>by simp at q) id;cases x with
 |fz d=>exact w α H' (Nq.same sm) (s.grow sm) v (DV.ev (Ev.sub sub) hv)
 |rf i=>
  unfold jh at w;dsimp only at w;cases qs:sh ω' (.rf i) with
  |none=>rw[qs] at w;exact w.elim
  |some d=>
   rw[qs] at w;cases d with
   |list ds=>obtain⟨a,vs,ha,h1,hd,ho⟩:=jE s' qs;obtain⟨xs,q1,_⟩:=sg qs;obtain⟨a',SG,rfl⟩:=hv;rw[ha] at SG;cases SG;exact nk s w sm (fr i a _ ha q1 (by intro z;cases z)) h1 hd sub ho
   |_=>exact w.elim
 |tp l=>
  unfold jh at w;dsimp only at w;cases qg:Et ω' ω.length l with
  |none=>rw[qg] at w;exact w.elim
  |some p=>
   obtain⟨l',cs,js⟩:=p;rw[qg] at w;dsimp only at w;by_cases hn:js.Nodup
   ·rw[if_pos hn] at w
    obtain⟨a,xs,rfl,ht,hl⟩:=hv;obtain⟨ps,g1,g2,g3,g4⟩:=zK s' qg hl;have pj:∀(k:Nat) (b:Lp),ps[k]? =lD b->∃j ds vs,js[k]? =lD j/\cs[k]? =lD ds/\α'[j]? =lD b/\H' b=lD (.lst vs)/\L3.Nc (ow (ow B α ω) α' ω') K H' vs ds/\ow (ow B α ω) α' ω' b:=fun k b hb=>by
     have hk:k<js.length:=by rw[<-g1];exact(Lj.mp hb).1
     obtain⟨b',ds,vs,q1,q2,q3,q4,q5,q6⟩:=g3 k _ (LB hk);rw[hb] at q1;cases q1;exact⟨_,ds,vs,LB hk,q2,q3,q4,q5,q6⟩
    have nB:∀(j:Nat) (b:Lp),α'[j]? =lD b->ow (ow B α ω) α' ω' b->H b=Ld:=fun j b hj ho=>by
     rcases ho with z|⟨i,c,z1,z2,z3⟩
     ·exact absurd hj (s'.ba b z j)
     ·exact fr i b c z1 z2 z3
    have fp:∀p∈ps,H p=Ld:=fun p hp=>by obtain⟨k,hk⟩:=OD.mp hp;obtain⟨j,ds,vs,q1,q2,q3,q4,q5,q6⟩:=pj k p hk;exact nB j p q3 q6
    have WQ:∀b,ow B (α++ps) (ω++cs.map Kf) b->ow (ow B α ω) α' ω' b:=fun b z=>by
     rcases z with z|z
     ·exact .inl (.inl z)
     ·rcases Be s.len z with z|z
      ·exact .inl (.inr z)
      ·obtain⟨k,hk⟩:=OD.mp z;obtain⟨j,ds,vs,q1,q2,q3,q4,q5,q6⟩:=pj k b hk;exact q6
    have ev:=Nq.RZ (cs:=cs.map Kf) s sm fp;refine w (α++ps) H' ev (s.RZ sm fp (fun p hp=> ?_) (fun i j b hi hj=> ?_) (by rw[Lh,g1,g2]) fun i b c hi hc=> ?_) (.ref a) ⟨a,xs,rfl,ht.ev (Ev.sub WQ),Paired.Ph (g4 α s.len) fun _ _ r=>r.ev (Ev.sub WQ) fun _ _ h=>h⟩
    ·obtain⟨k,hk⟩:=OD.mp hp;obtain⟨j,ds,vs,q1,q2,q3,q4,q5,q6⟩:=pj k p hk;rw[q4];simp
    ·obtain⟨j1,_,_,p1,_,p3,_⟩:=pj i b hi;obtain⟨j2,_,_,r1,_,r3,_⟩:=pj j b hj;have:=s'.nd j1 j2 b p3 r3;subst this;have hi':=(Lj.mp p1).1;exact(List.getElem?_inj hi' hn).mp (p1.trans r1.symm)
    ·obtain⟨j,ds,vs,q1,q2,q3,q4,q5,q6⟩:=pj i b hi;rw[Ls,q2] at hc;cases hc;exact⟨vs,q4,kw _ _ (q5.ev (Ev.sub WQ))⟩
   ·rw[if_neg hn] at w;exact w.elim
noncomputable def oY (F:pE) (n:Nat) (xs:List SV) (ω:aX):RS SV:=if xs.length=n then(match aw nX xs with
 |some ds=>(match F (ds.map .fz) [] with
  | .ok x ω'=>jh x ω' ω
  | .er x _=> .er x ω
  | .bad=> .bad)
 |none=> .bad) else .bad
noncomputable def k8 (F:pE) (n:Nat) (fa:yX):c7:=fun ρ ω=>(fa ρ ω).bind fun xs ω1=>io (oY F n xs ω1)
theorem CF (h:∀a,B a->H a≠Ld):StoOk B K H [] []:=⟨rfl,fun i j a h=>by simp at h,h,fun a h i=>by simp,fun i a h=>by simp at h,fun i a c h=>by simp at h⟩
theorem jV:∀{xs:List SV} {ds:List D},aw nX xs=lD ds->xs=ds.map .fz
 |[],_,e=>by cases e;rfl
 |x::r,ds,e=>by
  unfold aw at e;cases x with
  |fz d=>
   dsimp only[nX] at e;cases q:aw nX r with
   |none=>rw[q] at e;cases e
   |some es=>rw[q] at e;cases e;rw[Lo,<-jV q]
  |rf i=>cases e
  |tp l=>cases e
theorem BI (s:StoOk B K H α ω) (hv:N6 (ow B α ω) K H α vs xs) (w:WS K E B H α ω (PQ B K Q) (oY F n xs ω)):yH K n F vs H Q E:=by
 unfold oY at w;by_cases hn:xs.length=n
 ·rw[if_pos hn] at w
  refine⟨hv.length.trans hn,?_⟩;cases q:aw nX xs with
  |none=>rw[q] at w;exact w.elim
  |some ds=>
   rw[q] at w;dsimp only at w;have ex:=jV q;refine⟨ow B α ω,[],[],ds.map .fz,CF s.owd,?_,?_⟩
   ·rw[ex] at hv;exact kw _ _ ((rY hv).ev (Ev.sub fun b z=>z.elim id fun⟨i,c,q,_⟩=>by simp at q))
   ·cases qF:F (ds.map .fz) [] with
    |bad=>rw[qF] at w;exact w.elim
    |ok x ω'=>rw[qF] at w;exact fun α' H' e' s' v Yu=>i8 s w e' s' Yu
    |er x ω'=>
     rw[qF] at w;intro c dx α' H' e' s' k;have sm:=fun b o h=>e'.kp b o h fun⟨i,c,q,_⟩=>by simp at q
     exact w c dx α H' (Nq.same sm) (s.grow sm) (VP.sub (fun b z=> .inl z) k)
 ·rw[if_neg hn] at w;exact w.elim
theorem oU (ha:GV K E ta fa):d5 K E (oW (yH K n F) [] E0 ta) (k8 F n fa):=by intro B σ H α ω ρ Q s sl w;refine ha B σ H α ω ρ _ s sl (w.bind.imp fun xs α1 ω1 H1 e1 s1 w1 vs hv=> ?_);rw[L6];exact BI s1 hv (WS.e0 w1)
noncomputable def Iy (F:pE):FN:=fun ds=>match F (ds.map .fz) [] with
 | .ok (.fz d) _=> .ok (.fz d)
 | .ok (.rf i) ω=>(match sh ω (.rf i) with
  |some (.list ds)=> .ok (.ow ds)
  |_=> .bad)
 | .ok (.tp _) _=> .bad
 | .er x _=> .er x
 | .bad=> .bad
theorem GD (h:jM K n (Iy F) vs H Q E):yH K n F vs H Q E:=by
 obtain⟨hl,B,ds,hb,dv,w⟩:=h;refine⟨hl,B,[],[],ds.map .fz,CF hb,kw _ _ (dv.ev (Ev.sub fun b z=>z.elim id fun⟨i,c,q,_⟩=>by simp at q)),?_⟩;unfold Iy at w;cases qF:F (ds.map .fz) [] with
 |bad=>rw[qF] at w;exact w.elim
 |er x ω'=>rw[qF] at w;intro c dx α' H' e' s' k;exact w c dx H' (fun b o h=>e'.kp b o h fun⟨i,c,q,_⟩=>by simp at q) (VP.sub (fun b z=> .inl z) k)
 |ok x ω'=>
  rw[qF] at w;intro α' H' e' s' v hv;have sm:=fun b o h=>e'.kp b o h fun⟨i,c,q,_⟩=>by simp at q
  cases x with
  |fz d=>exact w v H' sm (DV.ev (Ev.sub fun b z=> .inl z) hv)
  |tp l=>exact w.elim
  |rf i=>
   dsimp only at w;cases qs:sh ω' (.rf i) with
   |none=>rw[qs] at w;exact w.elim
   |some d=>
    rw[qs] at w;cases d with
    |list es=>obtain⟨a,us,ha,h1,hd,ho⟩:=jE s' qs;obtain⟨xs,q1,_⟩:=sg qs;obtain⟨a',SG,rfl⟩:=hv;rw[ha] at SG;cases SG;refine w a us H' sm ((e'.lv a ⟨i,_,ha,q1,by intro z;cases z⟩).elim (fun⟨i,c,q,_⟩=>by simp at q) id) h1 (hd.ev (Ev.sub fun b z=>z.elim (fun z=> .inl z) fun z=>by rw[z];exact ho))
    |_=>exact w.elim
end
section
variable {ρ ρ1 ρ2:aQ} {ω ω1 ω2 ω3 ω4:aX} {x y z:SV} {i n:Nat} {d dx dy:D} {ds:List D} {b:Bool}
theorem bG (h:ρ[i]? =lD (lD x)):bV i ρ ω= .ok x ω:=by unfold bV;rw[h]
theorem bf (h:f (dX ρ)= .ok (.fz d,ρ')):aL f ρ ω= .ok (.fz d) ω:=by unfold aL;rw[h]
theorem mL (h:f (dX ρ)= .ok (.ow ds,ρ')):aL f ρ ω= .ok (.rf ω.length) (ω++[.lst (ds.map .fz)]):=by unfold aL;rw[h];rfl
theorem sJ (h:f (dX ρ)= .ok (b,ρ')):sw f ρ ω= .ok b ω:=by unfold sw;rw[h]
theorem ud (h:f (dX ρ)= .ok (ds,ρ')):mS f ρ ω= .ok ds ω:=by unfold mS;rw[h]
theorem tU (ha:fa ρ ω= .ok x ω1) (hb:fb ρ ω1= .ok y ω2) (hf:sK f x y ω2= .ok z ω3):Es f fa fb ρ ω= .ok z ω3:=by unfold Es;rw[ha,RS.bind_ok,hb,RS.bind_ok,hf]
theorem Ag (h:f dx dy=lD (.fz d)):sK f (.fz dx) (.fz dy) ω= .ok (.fz d) ω:=by unfold sK;show((RS.ME ω (f dx dy)).bind fun rv ω1=>gC ω1 rv)=_;rw[h];rfl
theorem vf (hx:sh ω x=lD dx) (hy:sh ω y=lD dy) (h:f dx dy=lD (.fz d)):sK f x y ω= .ok (.fz d) ω:=by unfold sK;rw[hx,hy];show((RS.ME ω (f dx dy)).bind fun rv ω1=>gC ω1 rv)=_;rw[h];rfl
theorem jZ:∀ds:List D,aw nX (ds.map .fz)=lD ds
 |[]=>rfl
 |d::r=>by rw[Lo];unfold aw;rw[jZ r];rfl
theorem iU (h:ω[i]? =lD (.lst (ds.map .fz))):sh ω (.rf i)=lD (.list ds):=by unfold sh;dsimp only;rw[h];dsimp only;rw[jZ];rfl
theorem d8 (h:fa ρ ω= .ok (.fz (.bool b)) ω1):gA fa ρ ω= .ok b ω1:=by unfold gA;rw[h];rfl
theorem sS (h:fa ρ ω= .ok Lw ω1) (k:fb ρ ω1=r):IZ fa fb ρ ω=r:=by unfold IZ;rw[h,RS.bind_ok,if_neg LA,k]
theorem qu (h:fa ρ ω= .ok b ω1):zU fa ρ ω= .ok (!b) ω1:=by unfold zU;rw[h];rfl
theorem eU:jC ρ ω= .ok [] ω:=rfl
theorem cu (ha:fa ρ ω= .ok x ω1) (hr:fr ρ ω1= .ok xs ω2):dF fa fr ρ ω= .ok (x::xs) ω2:=by unfold dF;rw[ha,RS.bind_ok,hr,RS.bind_ok]
theorem Fo (ha:fa ρ ω= .ok xs ω1) (hs:aw (sh ω1) xs=lD ds) (h:f ds=lD (.fz d)):EA f fa ρ ω= .ok (.fz d) ω1:=by unfold EA;rw[ha,RS.bind_ok];unfold Dm;rw[hs];show((RS.ME ω1 (f ds)).bind fun rv ω1=>gC ω1 rv)=_;rw[h];rfl
theorem tH:io (RS.ok a ω)= .ok a ω:=rfl
theorem Gm (ho:fo ρ ω= .ok (.rf i) ω1) (h1:ω1[i]? =lD (.lst xs)) (he:fe ρ ω1= .ok x ω2) (h2:ω2[i]? =lD (.lst ys)) (hl:ys.length<1000000):DH fo fe ρ ω= .ok (.fz .none) (ω2.set i (.lst (ys++[x]))):=by
 have e1:iL ω1 (.rf i)=lD (i,xs):=by unfold iL;dsimp only;rw[h1]
 have e2:iL ω2 (.rf i)=lD (i,ys):=by unfold iL;dsimp only;rw[h2]
 unfold DH;rw[ho,RS.bind_ok,e1];show((fe ρ ω1).bind _)=_;rw[he,RS.bind_ok,e2];show(if ys.length<1000000 then _ else _)=_;rw[if_pos hl]
variable {fl:W0} {r:RS W0}
theorem Hm (h:f ρ ω= .ok (.nx ρ1) ω1) (k:g ρ1 ω1=r):cr f g ρ ω=r:=by unfold cr;rw[h,RS.bind_ok];exact k
theorem Aw (h:f ρ ω= .ok x ω1):lm f ρ ω= .ok (.rt x) ω1:=by unfold lm;rw[h];rfl
theorem Er (h:f ρ ω= .ok x ω1):kY f ρ ω= .ok (.nx ρ) ω1:=by unfold kY;rw[h];rfl
theorem F8 (h:f ρ ω= .ok x ω1) (e:ρ.set i (lD x)=ρ1):gz f (lz i) ρ ω= .ok (.nx ρ1) ω1:=by subst e;unfold gz;rw[h];rfl
theorem G1 (h:f ρ ω= .ok x ω1) (k:frz 4 ω1 x=lD (d,ω2)):yq f ρ ω= .ok (.fz d) ω2:=by unfold yq;rw[h,RS.bind_ok];unfold GC;rw[k]
theorem Hf (e:xs.map lD++Lq (N - xs.length) Ld=ρ) (h:g ρ ω= .ok (.rt x) ω1):lB N g xs ω= .ok x ω1:=by subst e;unfold lB;rw[h];rfl
end
section
variable {ρ ρ1 ρ2:aQ} {ω ω1 ω2 ω3 ω4:aX} {x y z:SV} {i n:Nat} {d dx dy:D} {ds:List D} {b:Bool}
theorem pf (e:α->D) (f:α->SV) (ω:aX) (I:aQ->Prop):∀(xs:List α) (ρ:aQ) (acc:List SV),I ρ->acc.length+xs.length<=1000000->(∀x∈xs,∀ρ,I ρ->∃ρ',gt (.fz (e x)) ρ ω= .ok ρ' ω/\ft ρ' ω= .ok Lk ω/\fe ρ' ω= .ok (f x) ω/\I ρ')->bM gt ft fe (xs.map e) ρ ω acc= .ok (acc++xs.map f) ω
 |[],ρ,acc,_,_,_=>by show RS.ok acc ω=_;rw[LY,L6]
 |x::r,ρ,acc,h0,hl,hs=>by obtain⟨ρ',h1,h2,h3,h4⟩:=hs x LG ρ h0;rw[Lu] at hl;show((gt (.fz (e x)) ρ ω).bind _)=_;rw[h1,RS.bind_ok,h2,RS.bind_ok,if_pos rfl,h3,RS.bind_ok,if_pos (by omega),pf e f ω I r ρ' _ h4 (by rw[Ln,Mx];omega) fun y hy=>hs y (Ly _ hy),LP];rfl
theorem DF (hi:fi ρ ω= .ok ds ω1) (hc:bM gt ft fe ds (fY n fj ρ) ω1 []= .ok xs ω2):xR n fj fi gt ft fe ρ ω= .ok (.rf ω2.length) (ω2++[.lst xs]):=by unfold xR;rw[hi,RS.bind_ok,hc,tH,RS.bind_ok]
theorem xI (m:Nat):∀(ds:List D),oy (frz m) ω (ds.map .fz)=lD (ds,ω)
 |[]=>rfl
 |d::r=>by rw[Lo];unfold oy;rw[show frz m ω (.fz d)=lD (d,ω) by cases m<;>rfl];dsimp only;rw[xI m r]
theorem wL (h:ω[i]? =lD (.lst (ds.map .fz))):frz 4 ω (.rf i)=lD (.list ds,ω.set i .dead):=by unfold frz;rw[h];dsimp only;rw[xI]
theorem HF (h:fe ρ ω= .ok (.rf i) ω1) (hl:ω1[i]? =lD (.lst (ds.map .fz))):wO fe ρ ω= .ok ds (ω1.set i .dead):=by unfold wO;rw[h,RS.bind_ok,wL hl];rfl
def IT (N C:aQ->aX->Prop) (T:SV->aX->Prop):RS W0->Prop
 | .ok (.nx ρ) ω=>N ρ ω
 | .ok (.ct ρ) ω=>C ρ ω
 | .ok (.rt v) ω=>T v ω
 |_=>False
structure OU (r:RS W0) (N C:aQ->aX->Prop) (T:SV->aX->Prop):Prop where
 out:IT N C T r
variable {f g:gM} {fe:c7} {N C:aQ->aX->Prop} {T:SV->aX->Prop}
theorem OU.eq (e:r=r') (h:OU r' N C T):OU r N C T:=by rw[e];exact h
theorem OU.imp (h:OU r N C T) (hN:∀ρ ω,N ρ ω->N' ρ ω) (hC:∀ρ ω,C ρ ω->C' ρ ω) (hT:∀v ω,T v ω->T' v ω):OU r N' C' T':=by
 refine⟨?_⟩;have h:=h.out;cases r with
 |bad=>exact h
 |er x ω=>exact h
 |ok fl ω=>
  cases fl with
  |nx r=>exact hN _ _ h
  |ct r=>exact hC _ _ h
  |rt v=>exact hT _ _ h
  |bk r=>exact h
theorem jJ (h:OU (f ρ ω) (fun r o=>OU (g r o) N C T) C T):OU (cr f g ρ ω) N C T:=by
 refine⟨?_⟩;have h:=h.out;unfold cr;cases q:f ρ ω with
 |bad=>rw[q] at h;exact h.elim
 |er x o=>rw[q] at h;exact h.elim
 |ok fl o=>
  rw[q] at h;cases fl with
  |nx r=>exact(show OU (g r o) N C T from h).out
  |ct r=>exact h
  |rt v=>exact h
  |bk r=>exact h.elim
theorem Fg (hc:c ρ ω= .ok b ω1) (ht:b=Lk->OU (f ρ ω1) N C T) (hf:b=Lw->OU (g ρ ω1) N C T):OU (kA c f g ρ ω) N C T:=by
 unfold kA;rw[hc,RS.bind_ok];cases b with
 |true=>exact ht rfl
 |false=>exact hf rfl
theorem Hs (hc:c ρ ω= .ok Lw ω1) (ht:OU (g ρ ω1) N C T):OU (kA c f g ρ ω) N C T:=Fg hc (fun h=>by cases h) fun _=>ht
theorem CT (he:fe ρ ω= .ok x ω1) (hg:gt x ρ ω1= .ok ρ1 ω2) (h:N ρ1 ω2):OU (gz fe gt ρ ω) N C T:=by refine⟨?_⟩;unfold gz;rw[he,RS.bind_ok,hg,RS.bind_ok];exact h
theorem Bv (he:f ρ ω= .ok (.nx ρ1) ω1) (h:N ρ1 ω1):OU (f ρ ω) N C T:=⟨by rw[he];exact h⟩
theorem Jo (he:f ρ ω= .ok (.rt x) ω1) (h:T x ω1):OU (f ρ ω) N C T:=⟨by rw[he];exact h⟩
theorem x5 (he:fe ρ ω= .ok x ω1) (h:N ρ ω1):OU (kY fe ρ ω) N C T:=Bv (Er he) h
theorem u6 (he:fe ρ ω= .ok x ω1) (h:T x ω1):OU (lm fe ρ ω) N C T:=Jo (Aw he) h
theorem rR (h:N ρ ω):OU (kZ ρ ω) N C T:=⟨h⟩
theorem eX {gt:om} (he:fe ρ ω= .ok x ω1) (hg:gt x ρ ω1= .ok ρ1 ω2) (h:OU (g ρ1 ω2) N C T):OU (cr (gz fe gt) g ρ ω) N C T:=jJ (CT he hg h)
theorem IW (he:f ρ ω= .ok (.nx ρ1) ω1) (h:OU (g ρ1 ω1) N C T):OU (cr f g ρ ω) N C T:=jJ (Bv he h)
theorem yh (he:fe ρ ω= .ok x ω1) (h:OU (g ρ ω1) N C T):OU (cr (kY fe) g ρ ω) N C T:=jJ (x5 he h)
theorem II {f1 f2:gM} (hc:c ρ ω= .ok b ω1) (ht:b=Lk->OU (cr f1 g ρ ω1) N C T) (hf:b=Lw->OU (cr f2 g ρ ω1) N C T):OU (cr (kA c f1 f2) g ρ ω) N C T:=by
 have e:cr (kA c f1 f2) g ρ ω=if b=Lk then cr f1 g ρ ω1 else cr f2 g ρ ω1:=by unfold cr kA;rw[hc,RS.bind_ok];cases b<;>rfl
 refine .eq e ?_;cases b with
 |true=>exact ht rfl
 |false=>exact hf rfl
theorem vG {f1 f2:gM} (hc:c ρ ω= .ok Lw ω1) (ht:OU (cr f2 g ρ ω1) N C T):OU (cr (kA c f1 f2) g ρ ω) N C T:=II hc (fun h=>by cases h) fun _=>ht
theorem p0 (h:OU (g ρ ω) N C T):OU (cr kZ g ρ ω) N C T:=jJ (rR h)
theorem qZ {b:gM} (I:Nat->aQ->aX->Prop):∀(ds:List D) (k:Nat) (ρ:aQ) (ω:aX),I k ρ ω->(∀i d ρ ω,ds[i]? =lD d->I (k+i) ρ ω->∃ρ1 ω1,gt (.fz d) ρ ω= .ok ρ1 ω1/\OU (b ρ1 ω1) (I (k+i+1)) (I (k+i+1)) T)->OU (fW gt b ds ρ ω) (I (k+ds.length)) C T
 |[],k,ρ,ω,h0,_=>⟨h0⟩
 |d::r,k,ρ,ω,h0,hs=>by
  obtain⟨ρ1,ω1,h1,h2⟩:=hs 0 d ρ ω rfl h0;have h2:=h2.out;have rest:∀ρ' ω',I (k+1) ρ' ω'->OU (fW gt b r ρ' ω') (I (k+(r.length+1))) C T:=fun ρ' ω' h=>by
   have e:k+(r.length+1)=k+1+r.length:=by omega
   rw[e];refine qZ I r (k+1) ρ' ω' h fun i d' XW ω'' hi hI=> ?_;have e:k+1+i=k+(i+1):=by omega
   rw[e] at hI⊢;exact hs (i+1) d' XW ω'' (by simpa using hi) hI
  refine⟨?_⟩;show IT _ _ _ ((gt (.fz d) ρ ω).bind _);rw[h1,RS.bind_ok];cases q:b ρ1 ω1 with
  |bad=>rw[q] at h2;exact h2.elim
  |er x o=>rw[q] at h2;exact h2.elim
  |ok fl o=>
   rw[q] at h2;cases fl with
   |nx r=>exact(rest _ _ h2).out
   |ct r=>exact(rest _ _ h2).out
   |rt v=>exact h2
   |bk r=>exact h2.elim
theorem Bz {b:gM} (I:Nat->aQ->aX->Prop) (hi:fi ρ ω= .ok ds ω1) (h0:I 0 ρ ω1) (hs:∀i d ρ ω,ds[i]? =lD d->I i ρ ω->∃ρ1 ω1,gt (.fz d) ρ ω= .ok ρ1 ω1/\OU (b ρ1 ω1) (I (i+1)) (I (i+1)) T) (hN:∀ρ' ω',I ds.length ρ' ω'->N ρ' ω'):OU (C3 fi gt b ρ ω) N C T:=by have:=qZ (C:=C) I ds 0 ρ ω1 h0 (by simpa using hs);rw[OY] at this;refine .eq ?_ (this.imp hN (fun _ _ h=>h) fun _ _ h=>h);unfold C3;rw[hi,RS.bind_ok]
theorem pZ (hρ:xs.map lD++Lq (n - xs.length) Ld=ρ) (h:OU (g ρ ω) (fun _ ω'=>T (.fz .none) ω') (fun _ _=>False) T):∃x ω',lB n g xs ω= .ok x ω'/\T x ω':=by
 have h:=h.out;unfold lB;rw[hρ];cases q:g ρ ω with
 |bad=>rw[q] at h;exact h.elim
 |er x o=>rw[q] at h;exact h.elim
 |ok fl o=>
  rw[q] at h;cases fl with
  |nx r=>exact⟨_,_,rfl,h⟩
  |ct r=>exact h.elim
  |rt v=>exact⟨_,_,rfl,h⟩
  |bk r=>exact h.elim
end
end L10
namespace L10
open PySem PySem.SeqAt PySem.Spec PySem.W PyProof.Rows L2 L3
end L10
namespace L10
open PySem PyProof.Rows L2 L3
end L10
namespace L10
open PySem PySem.Spec PyProof.Rows L2 L3
end L10
namespace L10
open PySem PyProof.Rows L2 L3
section
variable {O O':bu} {K:Lc} {H H':Hp} {a b:Lp} {xs:List V} {φ:Heap->Prop}
def C9 (a:Lp) (O:bu) (H:Hp) (O':bu) (H':Hp):Prop:=∀b o,b≠a->H b=lD o->¬O b->H' b=lD o/\¬O' b
theorem R8.Q2 (hx:H a=lD (.ext φ)) (h:R8 O K H b xs) (e:C9 a O H O' H'):R8 O' K H' b xs:=by
 obtain⟨h,k⟩:=h;by_cases z:O b
 ·exact⟨O0.same (jf H') (k z),fun _=>k z⟩
 ·rcases h with(h|⟨o,h⟩)|h
  ·obtain⟨h1,h2⟩:=e b _ (fun y=>by rw[y,hx] at h;cases h) h z;exact⟨.inl (.inl h1),fun y=>absurd y h2⟩
  ·obtain⟨h1,h2⟩:=e b _ (fun y=>by rw[y,hx] at h;cases h) h z;exact⟨.inl (.inr ⟨o,h1⟩),fun y=>absurd y h2⟩
  ·exact⟨.inr h,fun _=> .inr h⟩
theorem QG.Q2 (hx:H a=lD (.ext φ)) (h:QG O K H b xs) (e:C9 a O H O' H'):QG O' K H' b xs:=by
 obtain⟨h,k⟩:=h;by_cases z:O b
 ·exact⟨(jf H').tup (k z),fun _=>k z⟩
 ·rcases h with(h|⟨o,h⟩)|h
  ·obtain⟨h1,h2⟩:=e b _ (fun y=>by rw[y,hx] at h;cases h) h z;exact⟨.inl (.inl h1),fun y=>absurd y h2⟩
  ·obtain⟨h1,h2⟩:=e b _ (fun y=>by rw[y,hx] at h;cases h) h z;exact⟨.inl (.inr ⟨o,h1⟩),fun y=>absurd y h2⟩
  ·exact⟨.inr h,fun _=> .inr h⟩
mutual
theorem DV.Q2 (hx:H a=lD (.ext φ)) (e:C9 a O H O' H'):∀{v:V} {d:D},L3.DV O K H v d->L3.DV O' K H' v d
 |_,_,.ON=> .ON
 |_,_,.bl b=> .bl b
 |_,_,.int i=> .int i
 |_,_,.str x=> .str x
 |_,_,.tup h hs=> .tup (QG.Q2 hx h e) (Nc.Q2 hx e hs)
 |_,_,.lst h hs=> .lst (R8.Q2 hx h e) (Nc.Q2 hx e hs)
theorem Nc.Q2 (hx:H a=lD (.ext φ)) (e:C9 a O H O' H'):∀{vs:List V} {ds:List D},L3.Nc O K H vs ds->L3.Nc O' K H' vs ds
 |_,_,.nil=> .nil
 |_,_,.cons h hs=> .cons (DV.Q2 hx e h) (Nc.Q2 hx e hs)
end
end
section
variable {B O O':bu} {K:Lc} {E:XK} {H H' H1 H2:Hp} {α α' α1 α2:List Lp} {ω ω' ω1 ω2:aX} {σ:L2.St} {ρ:aQ} {v:V} {φ:Heap->Prop} {a b:Lp}
theorem Vb.Q2 {x:AV} (hx:H a=lD (.ext φ)) (e:C9 a O H O' H') (h:Vb O K H α v x):Vb O' K H' α v x:=by
 cases x with
 |fz d=>exact DV.Q2 hx e h
 |rf i=>exact h
theorem OT.Q2 {x:SV} (hx:H a=lD (.ext φ)) (e:C9 a O H O' H') (h:OT O K H α v x):OT O' K H' α v x:=by
 cases x with
 |fz d=>exact DV.Q2 hx e h
 |rf i=>exact h
 |tp l=>obtain⟨a,xs,h1,h2,h3⟩:=h;exact⟨a,xs,h1,QG.Q2 hx h2 e,Paired.Ph h3 fun _ _ q=>Vb.Q2 hx e q⟩
theorem U4.Q2 {c:Cell} (hx:H a=lD (.ext φ)) (e:C9 a O H O' H') (ha:∀o,H b=lD o->H' b=lD o) (h:U4 O K H α b c):U4 O' K H' α b c:=by
 cases c with
 |lst xs=>obtain⟨vs,h1,h2⟩:=h;exact⟨vs,ha _ h1,Paired.Ph h2 fun _ _ q=>OT.Q2 hx e q⟩
 |VW Mj=>obtain⟨ws,h1,h2⟩:=h;exact⟨ws,ha _ h1,Paired.Ph h2 fun _ _ q=>⟨q.1,OT.Q2 hx e q.2⟩⟩
 |obj C fs=>obtain⟨Ca,dx,ws,h0,h1,h2⟩:=h;exact⟨Ca,dx,ws,h0,ha _ h1,Paired.Ph h2 fun _ _ q=>⟨q.1,OT.Q2 hx e q.2⟩⟩
 |dd Mj=>obtain⟨xs,h1,h2⟩:=h;exact⟨xs,ha _ h1,Paired.Ph h2 fun _ _ q=>⟨q.1,DV.Q2 hx e q.2.1,DV.Q2 hx e q.2.2⟩⟩
 |dead=>trivial
theorem Nq.pin {i:Nat} {c:Cell} {o:HO} (ha:α[i]? =lD a) (h:ω[i]? =lD c) (hc:c≠ .dead):Nq α ω H α (ω.set i .dead) (upd H a o):=
 ⟨fun _ _ h=>h,fun b o' q n=>by have z:b≠a:=fun e=>n ⟨i,c,by rw[e];exact ha,h,hc⟩;rw[az z];exact q,fun b z=> .inl (lH z)⟩
theorem j3 {o:HO} (h:H b≠Ld):upd H a o b≠Ld:=by
 by_cases z:b=a
 ·subst z;rw[aB];simp
 ·rw[az z];exact h
theorem StoOk.pin (s:StoOk B K H α ω) {i:Nat} {c:Cell} {o:HO} (ha:α[i]? =lD a) (h:ω[i]? =lD c) (hc:c≠ .dead):StoOk B K (upd H a o) α (ω.set i .dead):=by
 have e:Nq α ω H α (ω.set i .dead) (upd H a o):=Nq.pin ha h hc;refine⟨by rw[MW];exact s.len,s.nd,fun b h=>j3 (s.bn b h),s.ba,fun j b h=>j3 (s.al j b h),fun j b d h1 h2=> ?_⟩;rcases bj h2 with⟨rfl,rfl⟩|⟨OK,h2⟩
 ·exact trivial
 ·exact(s.RL j b d h1 h2).ev e.ev e.pre fun u q=>by rw[az (fun z=>OK (s.nd j i a (by rw[<-z];exact h1) ha))];exact q
theorem Ce {i:Nat} {c:Cell} (s:StoOk B K H α ω) (ha:α[i]? =lD a) (h:Lv α (ω.set i c) b):b=a\/Lv α ω b:=by
 obtain⟨j,d,h1,h2,h3⟩:=h;rcases bj h2 with⟨rfl,rfl⟩|⟨_,h2⟩
 ·rw[ha] at h1;cases h1;exact .inl rfl
 ·exact .inr ⟨j,d,h1,h2,h3⟩
theorem wy {i:Nat} {c:Cell} {o:HO} (s:StoOk B K H α ω) (ha:α[i]? =lD a):C9 a (ow B α ω) H (ow B α (ω.set i c)) (upd H a o):=fun b u hb h n=>by
 refine⟨by rw[az hb];exact h,fun z=> ?_⟩;rcases z with z|z
 ·exact n (.inl z)
 ·rcases Ce s ha z with z|z
  ·exact hb z
  ·exact n (.inr z)
theorem yK {own:List Str} {fv:List (Str×Nat)} {g:TG} {tc:TT} {te:TE} {gt:om} {ft:og} {fe:c7} {n:Nat} {fj:List Nat} {J:It} {Q:VK} {ds:List D} (hn:own.length=n) (hf:fv.map (·.2)=fj)
  (hg:B9 K E0 g gt) (ht:uP K E0 tc ft) (he:d5 K E0 te fe) (s1:StoOk B K H1 α1 ω1) (V6:N5 (ow B α1 ω1) K H1 α1 σ ρ) (it:pW K J (ow B α1 ω1) H1 ds) (w1:WS K E B H1 α1 ω1 (PQ B K Q) ((io (bM gt ft fe ds (fY n fj ρ) ω1 [])).bind fun xs ω2=> .ok (.rf ω2.length) (ω2++[.lst xs]))):
  ∀D,H1 D=Ld->tj J D (dY own fv σ) g tc te H1 fun H'=>Q (.ref D) H':=mY hn hf hg ht he s1 V6 it (zi w1)
end
end L10
namespace PySem
open Sem (wp)
open PyProof.Rows
end PySem
namespace L10
open PySem PySem.Spec PyProof.Rows L2 L3
end L10
namespace L10
open PySem PyProof.Rows L2 L3
end L10
namespace L3
open PySem PySem.Spec PyProof.Rows L2
end L3
namespace L3
open PySem L2
structure NI (K:Lc) (f:Lp) (n:Str) (t:NZ):Prop where
 a:MF K Ma n=lD (lD (.ref f))
 F:∃fd,PY K n n t f fd
structure MI (K:Lc) (C f:Lp) (m q:Str) (t:NZ):Prop where
 a:Nh K (.ref C) m=lD (lD (.ref f))
 i:RO K (.ref f)=Lk
 F:∃fd,PY K m q t f fd
structure CI (K:Lc) (C:Lp) (n:Str) (fs:List Str):Prop where
 a:MF K Ma n=lD (lD (.ref C))
 pg:Tz K C Str.empty=Lk
 hd:S8 K C=Lk
 po:S9 K C=Lk
 sa:Nh K (.ref C) "__setattr__"=lD (lD (.builtin "object.__setattr__"))
 mm:Ue K C=Lk
 kc:NF K (.ref C)=Lk
 fl:∀x∈fs,Gr K C x
def BA (n q:Str) (t:NZ) (ps:List Str):Prop:=∀(kV doc pm:Lf) (an:Option Lp) (Ny ct:Lf) (us:List Lf),us.length=ps.length->bindArgs (N2 n q (jm t) (bZ t) (aF t) .none kV doc pm an Ny ct) ⟨us,[]⟩=pure (ps.zip us)
section
variable {P:LR} {w:Mg} {K:Lc} {mg:Str->Option Lf} {base h:Heap} {f C:Lp} {n m q:Str} {t:NZ} {ps fs:List Str} {lv k:Nat} {sp Z1:Sp}
theorem NI.Ro (i:NI K f n t) (X:K.In h) (G:h.Ns Ma mg) (hb:BA n n t ps) (ok:∀fd,PY K n n t f fd->FnOk P w K mg base fT lv f fd ps sp):wW P w K mg base lv n ps sp:=
 let⟨fd,z⟩:=i.F;⟨f,fd,ok fd z,z.binds hb,z.kp,Vj X G i.a⟩
theorem NI.law (i:NI K f "law" t) (X:K.In h) (G:h.Ns Ma mg) (ZY:mg "law"=lD (.ref fa)) (hb:BA "law" "law" t [x]) (ok:∀base fd,PY K "law" "law" t f fd->FnOk P w K mg base fT lv f fd [x] sp):∃fd:M8,(∀(s:Lm) (v:Lf),QP s fd ⟨[v],[]⟩ [(x,v)])/\∀base:Heap,K.In base->base.Ns Ma mg->FnOk P w K mg base fT lv fa fd [x] sp:=by have e:=ZY.symm.trans (Vj X G i.a);cases e;obtain⟨fd,z⟩:=i.F;obtain⟨oc,od,kV,doc,pm,an,Ny,ct,UK,rfl,lk,Tf⟩:=z.ex;exact⟨_,fun s v=> .of_eq (hb kV doc pm an Ny ct [v] rfl),fun base _ _=>ok base _ z⟩
theorem Bs (hr:OG k A):A.units+65<cLine:=by have:=hr.un;omega
theorem uz (p:SO K E u g) (h:Rq X b u):∃t,Rq X b t/\SO K E t g:=⟨_,h,p⟩
theorem Ik (p:L10.nG K E u g) (h:Rq X b u):∃t,Rq X b t/\L10.nG K E t g:=⟨_,h,p⟩
theorem iz {x qual:Str} {st:NZ} {fd:M8} {N:List Str} {n m:Nat} {g:FS} {FF:FN} (F:PY K x qual st f fd) (S:OM N ps (aF st)) (hn:ps.length=n) (hm:N.length=m) (hF:FF=d7 m g)
  (Pu:∀(Ny:Lf) (A:L0) (outer:List Env) (s:Lm) (H:Hp) (E:XK),N.Nodup->OG k (A.deeper (MB qual (aF st) s.heap.objs.size f Ny))->(A.deeper (MB qual (aF st) s.heap.objs.size f Ny)).units+64<cLine->(A.deeper (MB qual (aF st) s.heap.objs.size f Ny)).units+1<cLine->(A.deeper (MB qual (aF st) s.heap.objs.size f Ny)).units+65<cLine->
   ∃t,Rq (lF fT P w K mg base N qual (aF st) f Ny A outer s H E).Vx (bZ st) t/\SO K E t g):FnOk P w K mg base fT (k+1) f fd ps (jM K n FF):=
 KH F S hn hm hF fun Ny A outer s H E hr=>Pu Ny A outer s H E S.nd hr hr.units (FL hr) (Bs hr)
theorem zQ {n m:Nat} (F:PY K x qual st f fd) (S:OM N ps (aF st)) (hn:ps.length=n) (hm:N.length=m) (hF:FF=L10.lB m g)
  (Pu:∀(Ny:Lf) (A:L0) (outer:List Env) (s:Lm) (H:Hp) (E:XK),N.Nodup->OG k (A.deeper (MB qual (aF st) s.heap.objs.size f Ny))->(A.deeper (MB qual (aF st) s.heap.objs.size f Ny)).units+64<cLine->(A.deeper (MB qual (aF st) s.heap.objs.size f Ny)).units+1<cLine->(A.deeper (MB qual (aF st) s.heap.objs.size f Ny)).units+65<cLine->
   ∃t,Rq (lF fT P w K mg base N qual (aF st) f Ny A outer s H E).Vx (bZ st) t/\L10.nG K E t g):FnOk P w K mg base fT (k+1) f fd ps (L10.yH K n FF):=
 L10.K5 F S hn hm hF fun Ny A outer s H E hr=>Pu Ny A outer s H E S.nd hr hr.units (FL hr) (Bs hr)
end
end L3
namespace L2
open PySem PySem.Spec PyProof.Rows
end L2
namespace L3
open PySem PySem.Spec PyProof.Rows L2
end L3
namespace L10R
open PySem PySem.Calls PyProof.Rows
end L10R
namespace L2
open PySem PySem.Spec PyProof.Rows
end L2
namespace L10
open PySem PySem.Spec PyProof.Rows L2 L3
end L10
namespace L9
open PySem PySem.Spec PyProof.Rows L2 L3 L4
end L9
namespace L2
open PySem PySem.Spec PyProof.Rows
end L2
namespace L3
open PySem L2
end L3
namespace L10
open PySem PySem.Spec PyProof.Rows L2 L3
end L10
namespace L4
open PySem PySem.Spec PyProof.Rows L2 L3
end L4
namespace L3
open PySem L2
end L3
namespace LD
open PySem PyProof.Rows L2 L3
section
variable {prog:LR} {w:Mg} {K:Type} [DecidableEq K] {knd:HeapKind prog w K} {A:L0} {E:Lf->Lm->Prop} {s:Lm}
noncomputable def qJ (xs:List (K×Lp×Lf)) (k:K):List (K×Lp×Lf):=xs.filter fun x=>decide (x.1≠k)
theorem yy {k:K} (h:k∉xs.map (·.1)):qJ xs k=xs:=by unfold qJ;rw[List.filter_eq_self];intro x hx;exact decide_eq_true fun e=>h (e▸Lz.mpr ⟨x,hx,rfl⟩)
theorem pA:∀{xs:List (K×Lp×Lf)} {j:Nat} {p:Lp×Lf},(xs.map (·.1)).Nodup->xs[j]? =lD (k,p)->xs.eraseIdx j=qJ xs k
 |[],_,_,_,h=>by simp at h
 |x::r,0,p,hn,h=>by simp only[PK,Qk] at h;subst h;rw[Lo,MJ] at hn;rw[List.eraseIdx_zero,List.tail_cons];unfold qJ;rw[MR,if_neg (by simp)];exact(yy hn.1).symm
 |x::r,j+1,p,hn,h=>by simp only[PL] at h;rw[Lo,MJ] at hn;have hm:k∈r.map (·.1):=Lz.mpr ⟨(k,p),LH h,rfl⟩;have OK:x.1≠k:=fun e=>hn.1 (e▸hm);rw[PM,pA hn.2 h];unfold qJ;rw[MR,if_pos (decide_eq_true OK)]
theorem oZ (f:α->β):∀(l:List α) (j:Nat),(l.map f).eraseIdx j=(l.eraseIdx j).map f
 |[],_=>rfl
 |_::_,0=>rfl
 |x::r,j+1=>by rw[Lo,PM,PM,Lo,oZ f r j]
theorem pT (hu:knd.room A) (V2:knd.is s.heap k a) (hm:s.heap.DictOfH knd d xs) (hp:atKey xs k=lD p) (hsz:xs.length<=LL)
  (hQ:∀(e:Na) h',e.val=p.2->h'.DictOfH knd d (qJ xs k)->Heap.SameBut d s.heap h'->Q (lD e) {s with heap:=h',toks:=s.toks+knd.draws k}):wpAny (model prog w) A (LJ.Dict.takeOut d (.ref a)) Q E s:=by
 obtain⟨o,es,ep,ho,hc,hd,he,his,hn⟩:=hm;unfold LJ.Dict.takeOut
 try with_reducible refine Nd ?_
 refine Bn (knd.pyHash hu V2 (Bn (wpAny_dictFind_heap hu V2 ho hd he his hn ?_ ?_)))
 ·intro Z2;rw[atKey_none_of_get Z2] at hp;cases hp
 ·intro j p' hj
  have e:=atKey_of_get hn hj;rw[hp] at e;cases e;refine Bn (M0 ho hd ?_);rw[entry_at he j,hj];refine Bn (wpAny_updateDictKeys (hz:=by have e:=size_of_entries he;omega) ho hd (Li (hQ _ _ rfl ⟨_,_,ep+1,Heap.get?_update_self _ ho (Obj.isFreed_of_dict (Obj.data_mapDictKeys hd _)),
   hc.mapDictKeys _,Obj.data_mapDictKeys hd _,?_,?_,?_⟩ (Heap.SameBut.update ..))))
  ·rw[<-pA hn hj,<-oZ,<-he];simp
  ·intro x hx;exact knd.keeps (his x (MQ.mp hx).1) ho hd (Heap.SameBut.update ..)
  ·exact hn.sublist ((TJ).map _)
theorem vh (d a:Lp):MeetsIn prog w (LJ.«dict.pop» ⟨[.ref d,.ref a],[]⟩) (fun A R s=>knd.room A.in1/\∃k xs p,knd.is s.heap k a/\s.heap.DictOfH knd d xs/\xs.length<=LL/\atKey xs k=lD p/\
  ∀h',h'.DictOfH knd d (qJ xs k)->Heap.SameBut d s.heap h'->R (.ok (.ret p.2)) {s with heap:=h',toks:=s.toks+knd.draws k}):=
 .of_wp fun A R s ⟨hu,k,xs,p,V2,hm,hsz,hp,h⟩=>by
  unfold LJ.«dict.pop»;refine Bn ?_;unfold LJ.Dict.keyAndDefault;refine Bn (Ob hm.typeIs ?_);refine Li ?_;have Wl:=hm;obtain⟨o,es,ep,ho,_,hd,he,_,_⟩:=Wl;have OK:es.isEmpty=Lw:=by
   cases q:es.isEmpty with
   |false=>rfl
   |true=>
    rw[QK] at q;subst q;cases xs with
    |nil=>cases hp
    |cons x r=>cases he
  have Ya:(keyPart (.ref a)).isSome=Lw:=rfl;simp only[Ya,Lr,if_false];refine Bn (M0 ho hd ?_);refine Bn (Li ?_);rw[OK];simp only[Lr,if_false];refine Bn (pT hu V2 hm hp hsz fun e h' hv Wl Xj=> ?_);simp only[Option.isNone_some,Lr,if_false];exact Bn (QL (Li ⟨e.val,rfl,by rw[hv];exact h h' Wl Xj⟩))
end
noncomputable def iY (xs:List (KD×Lp×V)) (k:KD):Option V:=(xs.find? fun x=>decide (x.1=k)).map (·.2.2)
noncomputable def j0 (xs:List (KD×Lp×V)) (k:KD) (b:Lp) (v:V):List (KD×Lp×V):=
 if(xs.find? fun x=>decide (x.1=k)).isSome=Lk then xs.map (fun x=>if x.1=k then(x.1,x.2.1,v) else x) else xs++[(k,b,v)]
noncomputable def lj (xs:List (KD×Lp×V)) (k:KD):List (KD×Lp×V):=xs.filter fun x=>decide (x.1≠k)
noncomputable abbrev RX:List (KD×Lp×V)->List (KD×Lp×Lf)->Prop:=Paired fun x y=>x.1=y.1/\x.2.1=y.2.1/\RelV x.2.2 y.2.2
theorem rK:∀{xs:List (KD×Lp×V)} {ys:List (KD×Lp×Lf)},RX xs ys->xs.map (·.1)=ys.map (·.1)
 |_,_,.nil=>rfl
 |_,_,.cons h t=>by rw[Lo,Lo,h.1,rK t]
theorem jH:∀{xs:List (KD×Lp×V)} {ys:List (KD×Lp×Lf)},RX xs ys->Q0 (iY xs k) ((atKey ys k).map (·.2))
 |_,_,.nil=>by unfold iY atKey;exact trivial
 |x::xs,y::ys,.cons h t=>by
  unfold iY atKey;rw[Mw,Mw,h.1];by_cases e:y.1=k
  ·rw[decide_eq_true e];exact h.2.2
  ·rw[decide_eq_false e];exact jH t
theorem x4:∀{xs:List (KD×Lp×V)} {ys:List (KD×Lp×Lf)},RX xs ys->(xs.find? fun x=>decide (x.1=k)).isSome=(atKey ys k).isSome
 |_,_,.nil=>rfl
 |x::xs,y::ys,.cons h t=>by
  unfold atKey;rw[Mw,Mw,h.1];by_cases e:y.1=k
  ·rw[decide_eq_true e];rfl
  ·rw[decide_eq_false e];exact x4 t
theorem Al (r:RelV v u):∀{xs:List (KD×Lp×V)} {ys:List (KD×Lp×Lf)},RX xs ys->RX (xs.map fun x=>if x.1=k then(x.1,x.2.1,v) else x) (ys.map (putAt k u))
 |_,_,.nil=> .nil
 |x::xs,y::ys,.cons h t=>by
  rw[Lo,Lo];refine .cons ?_ (Al r t);unfold putAt;by_cases e:y.1=k
  ·rw[if_pos (h.1.trans e),if_pos e];exact⟨h.1,h.2.1,r⟩
  ·rw[if_neg (by rw[h.1];exact e),if_neg e];exact h
theorem yg (h:x.1=y.1/\x.2.1=y.2.1/\RelV x.2.2 y.2.2):∀{xs:List (KD×Lp×V)} {ys:List (KD×Lp×Lf)},RX xs ys->RX (xs++[x]) (ys++[y])
 |_,_,.nil=> .cons h .nil
 |_,_,.cons g t=> .cons g (yg h t)
theorem Cl (r:RelV v u) (h:RX xs ys):RX (j0 xs k b v) (storedH ys k b u):=by
 unfold j0 storedH;rw[x4 h];split
 ·exact Al r h
 ·exact yg ⟨rfl,rfl,r⟩ h
theorem rh:∀{xs:List (KD×Lp×V)} {ys:List (KD×Lp×Lf)},RX xs ys->RX (lj xs k) (qJ ys k)
 |_,_,.nil=> .nil
 |x::xs,y::ys,.cons h t=>by
  unfold lj qJ;rw[MR,MR,h.1];by_cases e:y.1≠k
  ·rw[if_pos (decide_eq_true e),if_pos (decide_eq_true e)];exact .cons h (rh t)
  ·rw[if_neg (by simpa using e),if_neg (by simpa using e)];exact rh t
theorem li (xs:List (KD×Lp×V)) (k:KD) (b:Lp) (v:V):(j0 xs k b v).length<=xs.length+1:=by
 unfold j0;split
 ·rw[Lh];omega
 ·rw[Ln];exact Ll _
def jU (K:Lc) (H:Hp) (xs:List (KD×Lp×V)):Prop:=∀x∈xs,L2.DV K H (.ref x.2.1) x.1.1
section
variable {X:Cx} {pins:List (Lp×Obj)} {σ:L2.St} {H:Hp} {s:Lm} {a b:Lp} {xs:List (KD×Lp×V)} {k:KD} {v:V} {u r:Lf} {A:L0} {E:Lf->Lm->Prop}
theorem zk:∀{xs:List (KD×Lp×V)} {es:List Na},Paired (fun(x:KD×Lp×V) (e:Na)=>e.hash=k7 w x.1.1/\e.key= .ref x.2.1/\RelV x.2.2 e.val) xs es->∃ys,RX xs ys/\es=ys.map (entryOfKey (bL P w))
 |_,_,.nil=>⟨[],.nil,rfl⟩
 |x::_,e::_,.cons ⟨h1,h2,h3⟩ t=>by obtain⟨ys,g1,g2⟩:=zk t;refine⟨(x.1,x.2.1,e.val)::ys,.cons ⟨rfl,rfl,h3⟩ g1,?_⟩;rw[Lo,<-g2];obtain⟨eh,ek,ev⟩:=e;dsimp only at h1 h2;subst h1 h2;rfl
theorem FP:∀{xs:List (KD×Lp×V)} {ys:List (KD×Lp×Lf)},RX xs ys->Paired (fun(x:KD×Lp×V) (e:Na)=>e.hash=k7 w x.1.1/\e.key= .ref x.2.1/\RelV x.2.2 e.val) xs (ys.map (entryOfKey (bL P w)))
 |_,_,.nil=> .nil
 |_,_,.cons h t=> .cons ⟨by rw[h.1];rfl,by rw[h.2.1];rfl,h.2.2⟩ (FP t)
theorem iw (I:L2.Inv X pins σ H s) (h:L2.DV X.K H (.ref b) k.1):(bL X.prog X.w).is s.heap k b:=L2.DV.reads I h rfl
theorem mU (I:L2.Inv X pins σ H s) (e:H a=lD (DkO a xs)) (hk:jU X.K H xs):xs.length<=LL/\(a==NM)=Lw/\∃ys,RX xs ys/\s.heap.DictOfH (bL X.prog X.w) a ys:=by
 obtain⟨⟨⟨z,hd,nd⟩,o,es,ep,h1,h2,h3,h4⟩,_⟩:=(show MY X.prog X.w H s.heap a (DkO a xs) from I.NO a _ e);obtain⟨ys,g1,g2⟩:=zk h4;refine⟨z,hd,ys,g1,o,es,ep,h1,h2,h3,g2,?_,by rw[<-rK g1];exact nd⟩;have all:∀{l:List (KD×Lp×V)} {m:List (KD×Lp×Lf)},RX l m->(∀x∈l,L2.DV X.K H (.ref x.2.1) x.1.1)->∀y∈m,(bL X.prog X.w).is s.heap y.1 y.2.1:=by
  intro l m q
  induction q with
  |nil=>intro _ y hy;exact nomatch hy
  | @cons p q ps qs hq t ih=>
   intro g y hy;rcases LN.mp hy with e|hy
   ·subst e;have:=iw I (g p (LG ..));rw[hq.1,hq.2.1] at this;exact this
   ·exact ih (fun x hx=>g x (Ly _ hx)) y hy
 exact all g1 hk
theorem pV (z:xs.length<=LL) (hd:(a==NM)=Lw) (rel:RX xs ys) (dd:h'.DictOfH (bL P w) a ys):MY P w H' h' a (DkO a xs):=by obtain⟨o,es,ep,h1,h2,h3,h4,h5,h6⟩:=dd;refine⟨⟨⟨z,hd,by rw[rK rel];exact h6⟩,o,es,ep,h1,h2,h3,by rw[h4];exact FP rel⟩,⟨o,h1⟩,?_⟩;rintro g1 g2 ⟨q,o,es,ep,e1,e2⟩ st;exact⟨q,o,es,ep,st o e1,e2⟩
theorem gU (hu:A.units+64<cLine):(bL X.prog X.w).room A.in1:=by show A.in1.units+8<cLine;rw[L0.in1_units];omega
theorem Gy (hu:A.units+64<cLine) (I:L2.Inv X pins σ H s) (e:H a=lD (DkO a xs)) (hk:jU X.K H xs) (hb:L2.DV X.K H (.ref b) k.1) (g:iY xs k=lD v) (h:∀w' s',L2.Inv X pins σ H s'->RelV v w'->Q w' s'):
  wpAny (model X.prog X.w) A (getItem (.ref a) (.ref b)) Q E s:=by
 obtain⟨z,hd,ys,rel,dd⟩:=mU I e hk;obtain⟨w',hw,S7⟩:=Q0.some_of (by rw[<-g];exact jH rel);obtain⟨p,hp,YC⟩:=Mo.mp hw;refine Wt (gU hu) (iw I hb) dd hp ?_;rw[YC];exact h w' _ (I.tok _) S7
theorem IA (hu:A.units+64<cLine) (I:L2.Inv X pins σ H s) (e:H a=lD (DkO a xs)) (hk:jU X.K H xs) (hb:L2.DV X.K H (.ref b) k.1) (h:∀s',L2.Inv X pins σ H s'->Q (.bool (iY xs k).isSome) s'):
  wpAny (model X.prog X.w) A (NG .In (.ref b) (.ref a)) Q E s:=by
 obtain⟨z,hd,ys,rel,dd⟩:=mU I e hk;refine wpAny_in_heap (gU hu) (iw I hb) hd dd ?_;have q:=(jH (k:=k) rel).RI;rw[NC] at q;rw[<-q];exact h _ (I.tok _)
theorem Hj (hu:A.units+64<cLine) (I:L2.Inv X pins σ H s) (e:H a=lD (DkO a xs)) (hk:jU X.K H xs) (hb:L2.DV X.K H (.ref b) k.1) (h:∀s',L2.Inv X pins σ H s'->Q (.bool (!(iY xs k).isSome)) s'):
  wpAny (model X.prog X.w) A (NG .NotIn (.ref b) (.ref a)) Q E s:=by
 obtain⟨z,hd,ys,rel,dd⟩:=mU I e hk;refine wpAny_notIn_heap (gU hu) (iw I hb) hd dd ?_;have q:=(jH (k:=k) rel).RI;rw[NC] at q;rw[<-q];exact h _ (I.tok _)
theorem Hl (hu:A.units+64<cLine) (I:L2.Inv X pins σ H s) (e:H a=lD (DkO a xs)) (hk:jU X.K H xs) (hb:L2.DV X.K H (.ref b) k.1) (rv:RelV v r) (hl:xs.length<LL) (h:∀s',L2.Inv X pins σ (upd H a (DkO a (j0 xs k b v))) s'->Q () s'):
  wpAny (model X.prog X.w) A (setItem (.ref a) (.ref b) r) Q E s:=by
 obtain⟨z,hd,ys,rel,dd⟩:=mU I e hk;have hz:ys.length<=LL:=by rw[<-Paired.length rel];exact z
 have hl':(j0 xs k b v).length<=LL:=by have:=li xs k b v;omega
 refine wpAny_setItem_heap (hsz:=hz) (gU hu) (iw I hb) dd fun h' XR hs=>h _ ?_;have he:∃q,h'.get? a=lD q:=let⟨q,_,_,hq,_⟩:=XR;⟨q,hq⟩
 exact xZ I (by rw[e];exact True.intro) hs he (pV hl' hd (Cl rv rel) XR)
theorem D3 (hu:A.units+64<cLine) (I:L2.Inv X pins σ H s) (e:H a=lD (DkO a xs)) (hk:jU X.K H xs) (hb:L2.DV X.K H (.ref b) k.1) (rd:RelV d r) (h:∀w' s',L2.Inv X pins σ H s'->RelV ((iY xs k).getD d) w'->Q w' s'):
  wpAny (model X.prog X.w) A (call (.builtin "dict.get") [.ref a,.ref b,r]) Q E s:=by
 obtain⟨z,hd,ys,rel,dd⟩:=mU I e hk;refine Uu Sh dd.typeIs PySem.F.entry_dict_get (PySem.F.args_dict_get_3 _ _ _) (meetsH_dict_get_default (bL X.prog X.w) a b hd r) ⟨gU (by omega),k,ys,iw I hb,dd,h _ _ (I.tok _) ?_⟩;exact(jH rel).getD rd
theorem FW (hu:A.units+64<cLine) (I:L2.Inv X pins σ H s) (e:H a=lD (DkO a xs)) (hk:jU X.K H xs) (hb:L2.DV X.K H (.ref b) k.1) (g:iY xs k=lD v) (h:∀w' s',L2.Inv X pins σ (upd H a (DkO a (lj xs k))) s'->RelV v w'->Q w' s'):
  wpAny (model X.prog X.w) A (call (.builtin "dict.pop") [.ref a,.ref b]) Q E s:=by
 obtain⟨z,hd,ys,rel,dd⟩:=mU I e hk;obtain⟨w',hw,S7⟩:=Q0.some_of (by rw[<-g];exact jH rel);obtain⟨p,hp,YC⟩:=Mo.mp hw;refine Uu Si dd.typeIs PySem.F.entry_dict_pop (PySem.F.args_dict_pop_2 _ _) (vh a b) ⟨gU (by omega),k,ys,p,iw I hb,dd,by rw[<-Paired.length rel];exact z,hp,fun h' XR hs=> ?_⟩;rw[YC];refine h w' _ ?_ S7;have he:∃q,h'.get? a=lD q:=let⟨q,_,_,hq,_⟩:=XR;⟨q,hq⟩
 exact xZ I (by rw[e];exact True.intro) hs he (pV (LF (Qh _ _) z) hd (rh rel) XR)
theorem i7 (I:L2.Inv X pins σ H s) (e:H a=lD (DkO a xs)):s.TypeIs (.ref a) "dict"/\(∀b,Lf.ref a= .ref b->∃ob,s.heap.get? b=lD ob/\ob.dict=Ld)/\(a==NM)=Lw:=by obtain⟨⟨⟨z,hd,nd⟩,o,es,ep,h1,h2,h3,h4⟩,_⟩:=(show MY X.prog X.w H s.heap a (DkO a xs) from I.NO a _ e);refine⟨⟨o,h1,h2.1⟩,fun b q=> ?_,hd⟩;cases q;exact⟨o,h1,h2.2.1⟩
end
section
variable (K:Lc)
def AL (neg:Bool) (ty td:TE):TE:=fun σ H Q=>ty σ H fun y H1=>td σ H1 fun x H2=>∃a b xs k,x= .ref a/\y= .ref b/\H2 a=lD (DkO a xs)/\jU K H2 xs/\L2.DV K H2 (.ref b) k.1/\Q (.bl ((iY xs k).isSome !=neg)) H2
def zG (td ty:TE):TE:=fun σ H Q=>td σ H fun x H1=>ty σ H1 fun y H2=>∃a b xs k v,x= .ref a/\y= .ref b/\H2 a=lD (DkO a xs)/\jU K H2 xs/\L2.DV K H2 (.ref b) k.1/\iY xs k=lD v/\Q v H2
def BV (td ty tv:TE):TS:=fun D σ H=>tv σ H fun v H1=>td σ H1 fun x H2=>ty σ H2 fun y H3=>∃a b xs k,x= .ref a/\y= .ref b/\H3 a=lD (DkO a xs)/\jU K H3 xs/\L2.DV K H3 (.ref b) k.1/\xs.length<LL/\D.nx σ (upd H3 a (DkO a (j0 xs k b v)))
def xJ (td ty tx:TE):TE:=fun σ H Q=>td σ H fun x H1=>∃a Vy,x= .ref a/\H1 a=lD (DkO a Vy)/\ty σ H1 fun y H2=>tx σ H2 fun z H3=>∃b xs k,y= .ref b/\H3 a=lD (DkO a xs)/\jU K H3 xs/\L2.DV K H3 (.ref b) k.1/\Q ((iY xs k).getD z) H3
def A9 (td ty:TE):TE:=fun σ H Q=>td σ H fun x H1=>∃a Vy,x= .ref a/\H1 a=lD (DkO a Vy)/\ty σ H1 fun y H2=>∃b xs k v,y= .ref b/\H2 a=lD (DkO a xs)/\jU K H2 xs/\L2.DV K H2 (.ref b) k.1/\iY xs k=lD v/\Q v (upd H2 a (DkO a (lj xs k)))
def CH:TE:=fun _ H Q=>∀p,H p=Ld->Q (.ref p) (upd H p (DkO p []))
end
section
variable {X:Cx} {o i e f value:Mv} {td ty tx tv:TE} {pos pos' apos OJ:Pos}
theorem VU (hu:X.A.units+64<cLine) (hi:PE X i ty) (ho:PE X o td):PC X .In i o (AL X.K Lw ty td):=by intro pins s σ H Q I h;refine ce (hi pins s σ H _ I h) fun iv s1 ⟨y,H1,I1,ry,q1⟩=>ce (ho pins s1 σ H1 _ I1 q1) fun u s2 ⟨x,H2,I2,rx,a,b,xs,k,ex,ey,e,ks,kb,q2⟩=> ?_;subst ex ey;obtain rfl:=rx;obtain rfl:=ry;rw[Bool.bne_false] at q2;exact IA hu I2 e ks kb fun s3 I3=>⟨.bl _,H2,I3,rfl,q2⟩
theorem SA (hu:X.A.units+64<cLine) (hi:PE X i ty) (ho:PE X o td):PC X .NotIn i o (AL X.K Lk ty td):=by intro pins s σ H Q I h;refine ce (hi pins s σ H _ I h) fun iv s1 ⟨y,H1,I1,ry,q1⟩=>ce (ho pins s1 σ H1 _ I1 q1) fun u s2 ⟨x,H2,I2,rx,a,b,xs,k,ex,ey,e,ks,kb,q2⟩=> ?_;subst ex ey;obtain rfl:=rx;obtain rfl:=ry;rw[Wu] at q2;exact Hj hu I2 e ks kb fun s3 I3=>⟨.bl _,H2,I3,rfl,q2⟩
theorem U8 (hu:X.A.units+64<cLine) (ho:PE X o td) (hi:PE X i ty) (hs:GM i):PE X (.Subscript o i pos) (zG X.K td ty):=by intro pins s σ H Q I h;refine xg Rn.lookup hs (ce (ho pins s σ H _ I h) fun u s1 ⟨x,H1,I1,rx,q1⟩=>ce (hi pins s1 σ H1 _ I1 q1) fun iv s2 ⟨y,H2,I2,ry,a,b,xs,k,v,ex,ey,e,ks,kb,g,q2⟩=> ?_);subst ex ey;obtain rfl:=rx;obtain rfl:=ry;exact⟨(i7 I2 e).1,Gy hu I2 e ks kb g fun w' s3 I3 S7=>⟨v,H2,I3,S7,q2⟩⟩
theorem Sz (hu:X.A.units+64<cLine) (ho:PE X o td) (hi:PE X i ty) (hv:PE X value tv) (hs:Nz value (lD (.Subscript o i pos')) pos.line X.env=pure Lw):
  PS X (.Assign [.Subscript o i pos'] value pos) (BV X.K td ty tv):=by
 intro pins s σ H D I h;refine wpAny_Assign_Subscript (ce (hv pins s σ H _ I h) fun r s1 ⟨v,H1,I1,rv,q1⟩=>ce (ho pins s1 σ H1 _ I1 q1) fun u s2 ⟨x,H2,I2,rx,q2⟩=>ce (hi pins s2 σ H2 _ I2 q2) fun iv s3 ⟨y,H3,I3,ry,a,b,xs,k,ex,ey,e,ks,kb,hl,q3⟩=> ?_) hs;subst ex ey;obtain rfl:=rx;obtain rfl:=ry;exact Hl hu I3 e ks kb rv hl fun s4 I4=>⟨σ,_,I4,q3⟩
theorem TM (hu:X.A.units+64<cLine) (ho:PE X o td) (he:PE X e ty) (hf:PE X f tx) (m:M2 X o "get" apos e f OJ):PE X (.Call (.Attribute o "get" apos) [e,f] [] OJ) (xJ X.K td ty tx):=by
 intro pins s σ H Q I h;refine W9 m.base m.few m.line Og Sh PySem.F.type_dict_get (ce (ho pins s σ H _ I h) fun u s1 ⟨x,H1,I1,rx,a,Vy,ex,e0,q1⟩=> ?_);subst ex;obtain rfl:=rx;obtain⟨t1,t2,_⟩:=i7 I1 e0;refine⟨t1,t2,?_⟩;rw[m.trees];refine Calls.callWith_builtin rfl (Calls.evalArgs_plain (Calls.spliced_cons (ce (he pins s1 σ H1 _ I1 q1) fun iv s2 ⟨y,H2,I2,ry,q2⟩=>
  Calls.spliced_cons (ce (hf pins s2 σ H2 _ I2 q2) fun fv s3 ⟨z,H3,I3,rz,b,xs,k,ey,e3,ks,kb,q3⟩=>Calls.spliced_nil ?_))))
 subst ey;obtain rfl:=ry;exact D3 hu I3 e3 ks kb rz fun w' s4 I4 S7=>⟨_,H3,I4,S7,q3⟩
theorem U5 (hu:X.A.units+64<cLine) (ho:PE X o td) (he:PE X e ty) (m:M1 X o "pop" apos e OJ):PE X (.Call (.Attribute o "pop" apos) [e] [] OJ) (A9 X.K td ty):=by intro pins s σ H Q I h;refine W9 m.base m.few m.line Og Si PySem.F.type_dict_pop (ce (ho pins s σ H _ I h) fun u s1 ⟨x,H1,I1,rx,a,Vy,ex,e0,q1⟩=> ?_);subst ex;obtain rfl:=rx;obtain⟨t1,t2,_⟩:=i7 I1 e0;refine⟨t1,t2,?_⟩;rw[m.trees];refine Calls.callWith_builtin rfl (Calls.evalArgs_plain (Calls.spliced_cons (ce (he pins s1 σ H1 _ I1 q1) fun iv s2 ⟨y,H2,I2,ry,b,xs,k,v,ey,e2,ks,kb,g,q2⟩=>Calls.spliced_nil ?_)));subst ey;obtain rfl:=ry;exact FW hu I2 e2 ks kb g fun w' s3 I3 S7=>⟨v,_,I3,S7,q2⟩
theorem Rh:PE X (.Dict [] [] pos) CH:=fun pins s σ H Q I h=>
 wpAny_Dict_empty ⟨.ref s.heap.objs.size,_,I.laid (fun _ _ q=>Heap.get?_push_of_some _ q) (Ll _) (pV (Mr _) (beq_eq_false_iff_ne.mpr (Ne.symm (Ml I.big))) .nil (Heap.DictOfH.new s.heap)),rfl,h _ (I.NO.fresh (Ll _))⟩
end
mutual
noncomputable def Ot:Lg->Lg->Option Bool
 | .int i,.int j=>lD (decide (i<j))
 | .str x,.str y=>lD (decide (x.cps.toList<y.cps.toList))
 | .tuple xs,.tuple ys=>Nu xs ys
 |_,_=>Ld
noncomputable def Nu:List Lg->List Lg->Option Bool
 |[],[]=>lD Lw
 |[],_::_=>lD Lk
 |_::_,[]=>lD Lw
 |x::xs,y::ys=>if Lg.eqv x y=Lk then Nu xs ys else Ot x y
end
section
variable {prog:LR} {w:Mg} {E:Lf->Lm->Prop}
theorem A3:∀(n:Nat) (x y:Lg) (u v:Lf) (as bs:List Lp) (A:L0) (s:Lm) (Q:Lf->Lm->Prop) (r:Bool),x.depth<=n->y.depth<=n->x.canLay0=Lk->y.canLay0=Lk->NJ s.heap u x as->NJ s.heap v y bs->A.units+n<cLine->Ot x y=lD r->Q (.bool r) s->wpAny (model prog w) A (richCompare .Lt u v) Q E s
 |n,.int i,.int j,_,_,_,_,A,s,Q,r,_,_,_,_,ru,rv,_,e,h=>by cases ru;cases rv;rw[Ot] at e;cases e;exact Rx (Ox s _ _) (Ox s _ _) F.slot_int_lt F.entry_int_lt (F.args_int_lt_2 _ _) (gives_int_lt _ _ _ _) (fun x=>nomatch x) h
 |n,.str i,.str j,_,_,_,_,A,s,Q,r,_,_,_,_,ru,rv,_,e,h=>by cases ru;cases rv;rw[Ot] at e;cases e;exact Rx (SU s _ _) (SU s _ _) F.slot_str_lt F.entry_str_lt (F.args_str_lt_2 _ _) (gives_str_lt _ _ _ _) (fun x=>nomatch x) h
 |0,.tuple xs,_,_,_,_,_,A,s,Q,r,hx,_,_,_,_,_,_,_,_=>by simp only[Lg.depth] at hx;omega
 |n+1,.tuple xs,.tuple ys,_,_,_,_,A,s,Q,r,hx,hy,lx,ly,ru,rv,hu,e,h=>by
  cases ru with
  | @tuple a oa va na _ _ a1 a2 a3 a4=>
  cases rv with
  | @tuple b ob vb nb _ _ b1 b2 b3 b4=>
   have X4:s.TypeIs (.ref a) "tuple":=⟨_,a1,a2⟩;have XZ:s.TypeIs (.ref b) "tuple":=⟨_,b1,b2⟩;rw[Ot] at e;simp only[Lg.depth] at hx hy;unfold Lg.canLay0 at lx ly;refine Pq X4 XZ F.slot_tuple_lt (MN F.slot_tuple_lt X4 F.entry_tuple_lt ?_ (F.args_tuple_lt_2 _ _)) (by omega);show wpAny _ _ (isInstance (.ref b) (.type "tuple")>>=_) _ _ s;refine Bn (NT XZ Qy ?_);simp only[MZ,Lr,if_false];refine Bn (OA a1 a3 ?_);refine Bn (OA b1 b3 ?_);refine Bn ?_;have la:va.size=xs.length:=by have:=SeqAt.ReadsAll.length _ _ _ a4;rw[L5] at this;exact this
   have lb:vb.size=ys.length:=by have:=SeqAt.ReadsAll.length _ _ _ b4;rw[L5] at this;exact this
   refine RQ _
    (fun rest q s'=>q.1=Ld/\s'=s/\∃x' y' UR TR cs ds,rest=aa5 UR TR/\NS s.heap UR x' cs/\NS s.heap TR y' ds/\Lg.depthAll x'<=n/\Lg.depthAll y'<=n/\Lg.canLayAll0 x'=Lk/\Lg.canLayAll0 y'=Lk/\Nu x' y'=Nu xs ys/\(x'.length<y'.length↔xs.length<ys.length))
    _ ?_ ?_ _ _ ⟨rfl,rfl,xs,ys,_,_,_,_,rfl,a4,b4,by omega,by omega,lx,ly,rfl,Iff.rfl⟩
   ·rintro⟨p,q⟩ rest r' s' ⟨hr,rfl,x',y',UR,TR,cs,ds,hz,Sm,U9,dx,dy,cx,cy,hl,hlen⟩
    cases Sm with
    |nil=>simp at hz
    | @cons p' ps k1 ZP c1 c2 h1 WU=>
     cases U9 with
     |nil=>simp at hz
     | @cons q' qs k2 Z5 d1 d2 h2 WX=>
      simp only[MP,QM,Prod.mk.injEq] at hz;obtain⟨⟨rfl,rfl⟩,rfl⟩:=hz;simp only[Lg.depthAll] at dx dy;unfold Lg.canLayAll0 at cx cy;rw[LU] at cx cy;refine Bn (SeqAt.eqAt_reads k1 k2 A.in1 s' p q _ _ h1 h2 cx.1 cy.1 (by rw[L0.in1_units];omega) prog w _ _ ?_);rw[Nu] at hl;cases z:Lg.eqv k1 k2 with
      |true=>rw[if_pos z] at hl;simp only[MZ,Lr,if_false];refine Li ⟨rfl,rfl,ZP,Z5,ps,qs,_,_,rfl,WU,WX,by omega,by omega,cx.2,cy.2,hl,?_⟩;rw[<-hlen,Lu,Lu];omega
      |false=>rw[if_neg (by rw[z];simp)] at hl;simp only[Qm,if_true];refine Bn (Qu (Bn (A3 n k1 k2 p q _ _ A.in1 s' _ r (by omega) (by omega) cx.1 cy.1 h1 h2 (by rw[L0.in1_units];omega) (hl.trans e) ?_)));exact Bn (Li (Li (Li ⟨_,rfl,(fun x=>nomatch x),h⟩)))
   ·rintro⟨r1,r2⟩ s' ⟨hr,rfl,x',y',UR,TR,cs,ds,hz,Sm,U9,dx,dy,cx,cy,hl,hlen⟩
    simp only at hr;subst hr;refine Li ⟨_,rfl,(fun x=>nomatch x),?_⟩;have er:r=decide (xs.length<ys.length):=by
     have:Nu x' y'=lD (decide (x'.length<y'.length)):=by
      cases Sm with
      |nil=>cases U9<;>simp[Nu]
      |cons _ _=>
       cases U9 with
       |nil=>simp[Nu]
       |cons _ _=>simp at hz
     rw[<-hl,this] at e;cases e;exact decide_eq_decide.mpr hlen
    rw[er] at h;rw[la,lb];exact h
 |_,.none,_,_,_,_,_,_,_,_,_,_,_,_,_,_,_,_,e,_|_,.bool _,_,_,_,_,_,_,_,_,_,_,_,_,_,_,_,_,e,_|_,.list _,_,_,_,_,_,_,_,_,_,_,_,_,_,_,_,_,e,_|_,.dict _,_,_,_,_,_,_,_,_,_,_,_,_,_,_,_,_,e,_=>by simp[Ot] at e
 |_,.int _,.none,_,_,_,_,_,_,_,_,_,_,_,_,_,_,_,e,_|_,.int _,.bool _,_,_,_,_,_,_,_,_,_,_,_,_,_,_,_,e,_|_,.int _,.str _,_,_,_,_,_,_,_,_,_,_,_,_,_,_,_,e,_|_,.int _,.list _,_,_,_,_,_,_,_,_,_,_,_,_,_,_,_,e,_|_,.int _,.tuple _,_,_,_,_,_,_,_,_,_,_,_,_,_,_,_,e,_|_,.int _,.dict _,_,_,_,_,_,_,_,_,_,_,_,_,_,_,_,e,_=>by simp[Ot] at e
 |_,.str _,.none,_,_,_,_,_,_,_,_,_,_,_,_,_,_,_,e,_|_,.str _,.bool _,_,_,_,_,_,_,_,_,_,_,_,_,_,_,_,e,_|_,.str _,.int _,_,_,_,_,_,_,_,_,_,_,_,_,_,_,_,e,_|_,.str _,.list _,_,_,_,_,_,_,_,_,_,_,_,_,_,_,_,e,_|_,.str _,.tuple _,_,_,_,_,_,_,_,_,_,_,_,_,_,_,_,e,_|_,.str _,.dict _,_,_,_,_,_,_,_,_,_,_,_,_,_,_,_,e,_=>by simp[Ot] at e
 |_,.tuple _,.none,_,_,_,_,_,_,_,_,_,_,_,_,_,_,_,e,_|_,.tuple _,.bool _,_,_,_,_,_,_,_,_,_,_,_,_,_,_,_,e,_|_,.tuple _,.int _,_,_,_,_,_,_,_,_,_,_,_,_,_,_,_,e,_|_,.tuple _,.str _,_,_,_,_,_,_,_,_,_,_,_,_,_,_,_,e,_|_,.tuple _,.list _,_,_,_,_,_,_,_,_,_,_,_,_,_,_,_,e,_|_,.tuple _,.dict _,_,_,_,_,_,_,_,_,_,_,_,_,_,_,_,e,_=>by simp[Ot] at e
end
end LD
namespace LD
open PySem PyProof.Rows
structure VE (es:List Na) (Mj:List (Unit×Lf)):Prop where
 vals:es.map (·.val)=Mj.map (·.2)
theorem VE.length {es:List Na} {Mj:List (Unit×Lf)} (h:VE es Mj):es.length=Mj.length:=by have:=congrArg NP h.vals;rw[Lh,Lh] at this;exact this
theorem VE.get? {es:List Na} {Mj:List (Unit×Lf)} (h:VE es Mj) {i:Nat} {e:Na} {k:Unit} {v:Lf} (he:es[i]? =lD e) (hx:Mj[i]? =lD (k,v)):True/\e.val=v:=by have:=congrArg (fun l=>l[i]?) h.vals;simp only[Ls,he,hx,Q5,Qk] at this;exact⟨trivial,this⟩
def QX (h:Heap) (d:Lp) (Mj:List (Unit×Lf)) (ep:Nat):Prop:=∃o es,h.get? d=lD o/\o.ExactDict/\o.data= .dict es ep/\True/\VE es.toList Mj/\True
theorem QX.at' {h h':Heap} {a:Lp} {Mj:List (Unit×Lf)} {ep:Nat} (x:QX h a Mj ep) (e:∀o,h.get? a=lD o->h'.get? a=lD o):QX h' a Mj ep:=let⟨o,es,ho,r⟩:=x;⟨o,es,e _ ho,r⟩
def Kp (h0 h:Heap):Prop:=∀b o,h0.get? b=lD o->h.get? b=lD o
theorem Kp.step {h0 h h':Heap} {wr:List Lp} (hw:∀b∈wr,h0.get? b=Ld) (k:Kp h0 h) (hk:∀b o,b∉wr->h.get? b=lD o->h'.get? b=lD o):Kp h0 h':=fun b o e=>hk b o (fun m=>by rw[hw b m] at e;cases e) (k b o e)
theorem Kp.upd {h0 h:Heap} {S:Lp} {f:Obj->Obj} (hS:h0.get? S=Ld) (k:Kp h0 h):Kp h0 (h.update S f):=fun b o e=>(Heap.get?_update_other _ _ (fun z:S=b=>by rw[z,e] at hS;cases hS)).trans (k b o e)
def zV (prog:LR) (w:Mg) (A:L0) (h0:Heap) (P:Nat->Lf->Prop) (bt:Nat->Nat->Bool):Prop:=
 ∀i j vi vj (s:Lm) (Q:Lf->Lm->Prop) (E:Lf->Lm->Prop),P i vi->P j vj->Kp h0 s.heap->Q (.bool (bt i j)) s->wpAny (model prog w) A (richCompare .Lt vi vj) Q E s
section
variable {prog:LR} {w:Mg} {A:L0} {E:Lf->Lm->Prop} {s:Lm}
theorem ko {v d:Lp} {Mj:List (Unit×Lf)} {ep:Nat} {Q:Lf->Lm->Prop} (hv:s.heap.IsValuesView v d) (hm:QX s.heap d Mj ep)
  (hQ:Q (.ref s.heap.objs.size) {s with heap:=s.heap.push {cls:= .type "dict_valueiterator",data:= .fields #[.ref d,.int 0 0,.int Mj.length 0,.int ep 0]}}):
  wpAny (model prog w) A (pyIter (.ref v)) Q E s:=by
 obtain⟨ov,hov,hcv,hdv⟩:=id hv;obtain⟨o,es,ho,hc,YI,hk,hp,hn⟩:=id hm;refine Xa hv.typeIs F.slot_dict_values_iter (MN F.slot_dict_values_iter hv.typeIs F.entry_dict_values_iter ?_ (F.args_dict_values_iter_1 _));unfold LJ.«dict_values.__iter__»;refine Bn (Li ?_);refine Bn ?_;unfold LJ.Dict_items.dictOf;refine Bn (OW hov hdv (x:= .ref d) rfl (Li ?_));refine Bn ?_;unfold LJ.Dict_items.newIterator;refine Bn (M0 ho YI ?_);refine Bn (N3 ho YI ?_);have hsz:es.size=Mj.length:=by rw[<-hp.length];simp
 have UW:LJ.Dict_items.ownsTuple "dict_valueiterator"=Lw:=by decide
 simp only[UW,Lr,if_false];refine Mb (Li ⟨_,rfl,"dict_valueiterator",_,⟨_,Heap.get?_push_size _ rfl,rfl⟩,F.slot_dict_valueiterator_next.lookup,?_⟩)
 simpa [rawInt,hsz] using hQ
theorem gP {it d:Lp} {i ep:Nat} {Mj:List (Unit×Lf)} {k:Unit} {v:Lf} {Q:Option Lf->Lm->Prop} (hit:s.heap.IsValIter it d i Mj.length ep)
  (hm:QX s.heap d Mj ep) (hx:Mj[i]? =lD (k,v))
  (hQ:∀h',h'.IsValIter it d (i+1) Mj.length ep->Heap.SameBut it s.heap h'->Q (lD v) {s with heap:=h'}):
  wpAny (model prog w) A (pyNext (.ref it)) Q E s:=by
 obtain⟨o,ho,hc,hd⟩:=id hit;obtain⟨od,es,Yc,Tf,Yl,hk,hp,hn⟩:=id hm;unfold pyNext;refine Bn (P8 (M9 (name:=Str.ofString "__next__") hit.typeIs F.slot_dict_valueiterator_next
  (MN F.slot_dict_valueiterator_next hit.typeIs F.entry_dict_valueiterator_next ?_ (F.args_dict_valueiterator_next_1 _))))
 refine Bn (Li ?_);refine Bn ?_;refine Bn ?_
 first|refine Bn (NV hit.typeIs (Li ?_))|refine Bn (Om hit.typeIs (Li ?_))
 refine Bn (QN ho hd ?_);have UW:LJ.Dict_items.ownsTuple "dict_valueiterator"=Lw:=by decide
 simp only[UW,Lr,if_false];show wpAny _ _ (if(Lf.ref d==Lf.none)=Lk then _ else _) _ _ s;rw[if_neg (show¬((Lf.ref d==Lf.none)=Lk) from LA)];refine Bn (Li ?_);refine Bn (M0 Yc Yl ?_);have hsz:es.size=Mj.length:=by rw[<-hp.length];simp
 rw[if_neg (by rw[hsz];simp)];refine Bn (Li ?_);refine Bn (N3 Yc Yl ?_);rw[if_neg (by simp)];refine Li ?_;have Pm:i<Mj.length:=by
  rcases Nat.lt_or_ge i Mj.length with h|h
  ·exact h
  ·simp[SW h] at hx
 have YL:i<es.size:=by rw[hsz];exact Pm
 have ZR:es[i].val=v:=(hp.get? (e:=es[i]) (by simp[YL]) hx).2;simp only[show¬((i:Int)<0) from by omega,if_false,MV,Array.getElem?_eq_getElem YL];refine Bn ?_
 first|refine Bn (NV hit.typeIs (Li ?_))|refine Bn (Om hit.typeIs (Li ?_))
 refine Bn (Qz hit.typeIs ?_);show wpAny _ _ (setField (.ref it) 1 (rawInt ((i:Int)+1))>>=_) _ _ s;refine Bn (QO ho hd (by simp) ?_)
 have UI:(s.heap.update it (Obj.mapFields (·.setIfInBounds 1 (rawInt ((i:Int)+1))))).IsValIter it d (i+1) Mj.length ep:=
  ⟨_,Heap.get?_update_self _ ho (Obj.isFreed_of_fields (Obj.data_mapFields hd _)),(Obj.cls_mapFields ..).trans hc,by rw[Obj.data_mapFields hd];simp[rawInt]⟩
 refine Bn (Nd ?_);refine Bn (Qz (s:={s with heap:=s.heap.update it (Obj.mapFields (·.setIfInBounds 1 (rawInt ((i:Int)+1))))}) UI.typeIs ?_);refine Bn (Qz (s:={s with heap:=s.heap.update it (Obj.mapFields (·.setIfInBounds 1 (rawInt ((i:Int)+1))))}) UI.typeIs ?_);show wpAny _ _ (pure es[i].val) _ _ _;exact Li (Li ⟨_,rfl,Li (ZR▸hQ _ UI (Heap.SameBut.update ..))⟩)
theorem ir {it d:Lp} {i ep:Nat} {Mj:List (Unit×Lf)} {Q:Option Lf->Lm->Prop} (hh:A.handled=Ld) (hit:s.heap.IsValIter it d i Mj.length ep)
  (hm:QX s.heap d Mj ep) (hx:Mj[i]? =Ld)
  (hQ:∀h',Heap.ExtBut it s.heap h'->Q Ld {s with heap:=h'}):wpAny (model prog w) A (pyNext (.ref it)) Q E s:=by
 obtain⟨o,ho,hc,hd⟩:=id hit;obtain⟨od,es,Yc,Tf,Yl,hk,hp,hn⟩:=id hm;unfold pyNext;refine Bn (P8 (M9 (name:=Str.ofString "__next__") hit.typeIs F.slot_dict_valueiterator_next
  (MN F.slot_dict_valueiterator_next hit.typeIs F.entry_dict_valueiterator_next ?_ (F.args_dict_valueiterator_next_1 _))))
 refine Bn (Li ?_);refine Bn ?_;refine Bn ?_
 first|refine Bn (NV hit.typeIs (Li ?_))|refine Bn (Om hit.typeIs (Li ?_))
 refine Bn (QN ho hd ?_);have UW:LJ.Dict_items.ownsTuple "dict_valueiterator"=Lw:=by decide
 simp only[UW,Lr,if_false];show wpAny _ _ (if(Lf.ref d==Lf.none)=Lk then _ else _) _ _ s;rw[if_neg (show¬((Lf.ref d==Lf.none)=Lk) from LA)];refine Bn (Li ?_);refine Bn (M0 Yc Yl ?_);have hsz:es.size=Mj.length:=by rw[<-hp.length];simp
 rw[if_neg (by rw[hsz];simp)];refine Bn (Li ?_);refine Bn (N3 Yc Yl ?_);rw[if_neg (by simp)];refine Li ?_;have hge:es.size<=i:=by rw[hsz];simpa using hx
 simp only[show¬((i:Int)<0) from by omega,if_false,MV,Sr hge];refine Bn ?_
 first|refine Bn (NV hit.typeIs (Li ?_))|refine Bn (Om hit.typeIs (Li ?_))
 show wpAny _ _ (setField (.ref it) 0 .none>>=_) _ _ s;refine Bn (QO ho hd (by simp) ?_);show wpAny _ _ (newExc (.type "StopIteration") []>>=_) _ _ _;refine Bn ?_;simp only[newExc,newTuple];refine Bn (Mb ?_ (by size_fits));refine Bn (m:=firstArgMember _ _) (P4 (a:=Lf.none) (by first|rfl|(simp only[firstArgMember];rfl)) ?_);refine Mb ?_ (by size_fits);simp only[raiseNew];refine Bn (aa6 ?_);rw[show A.in1.handled=Ld from hh];refine Bn (Li (wpAny_throw ?_));refine Bn (NT (T:= "StopIteration") (b:=Lk) ⟨_,Heap.get?_push_size _ rfl,rfl⟩ ZD ?_);exact Li (hQ _ (((Heap.SameBut.update ..).extBut.push _).push _))
theorem yn (hh:A.handled=Ld) (I d:Lp) (OK:d≠I) (Mj:List (Unit×Lf)) (ep:Nat):
  Walks prog w A I [I,d] [I] Mj.length (fun i v=>∃k,Mj[i]? =lD (k,v)) (fun i h=>h.IsValIter I d i Mj.length ep/\QX h d Mj ep) where
 sub:=fun b hb=>by simp at hb;simp[hb]
 frame:=fun _ _ _ st hk=>⟨st.1.at fun o e=>hk I (by simp) o e,st.2.at' fun o e=>hk d (by simp) o e⟩
 item:=fun i s Q E hi st hQ=>by obtain⟨⟨k,x⟩,hx⟩:∃p,Mj[i]? =lD p:=⟨Mj[i],by simp[hi]⟩;refine gP st.1 st.2 hx fun h' UI Xj=> ?_;exact hQ x h' s.toks ⟨k,hx⟩ ⟨UI,st.2.at' fun o e=>Xj.extBut d o OK e⟩ fun b o hb e=>Xj.extBut b o (fun h=>hb (by simp[h])) e
 done:=fun s Q E st hQ=>ir hh st.1 st.2 (by simp) fun h' he'=>hQ h' s.toks fun b o hb e=>he' b o (fun h=>hb (by simp[h])) e
 self:=fun _ _ _ _ st hQ=>wpAny_pyIter_valiter st.1 hQ
end
section
variable {prog:LR} {w:Mg} {A:L0} {R:Ws->Lm->Prop} {I:Lp} {fp wr:List Lp} {n:Nat} {P:Nat->Lf->Prop} {St:Nat->Heap->Prop}
theorem pJ (W:Walks prog w A.in1 I fp wr n P St) (bt:Nat->Nat->Bool) {h0:Heap} (S4:zV prog w A.in1 h0 P bt) (Tg:∀b∈wr,h0.get? b=Ld) (S:Lp) (Zl:h0.get? S=Ld) (Vv:S∉fp):
  ∀(k j:Nat) (s:Lm) (vb:Lf) (c:Nat),n - (j+1)=k->j+1<=n->St (j+1) s.heap->P (argBest bt j) vb->Kp h0 s.heap->
  s.heap.get? S=lD {cls:= .type "list",dict:=Ld,data:= .seq #[vb,vb] c,slots:= #[]}->
  (∀v h' tk,P (argBest bt (n - 1)) v->(∀b o,b∉wr->b≠S->s.heap.get? b=lD o->h'.get? b=lD o)->R (.ok (.ret v)) {s with heap:=h',toks:=tk})->
  codeAny (model prog w) A (.builtin "min.loop" ⟨[.ref I,.none,.ref S],[]⟩) R s:=by
 have YT:S∉wr:=fun h=>Vv (W.sub _ h);have QV:(toString "min"++toString ".loop":String)= "min.loop":=by decide
 intro k
 induction k with
 |zero=>
  intro j s vb c hk hj Se Zb Tr hS hR;have hin:j+1=n:=by omega
  refine Pd F.entry_min_loop ?_;rw[L0.under_plainId F.plain_min_loop _];show wpAny _ A.in1 (seqItems? (.ref S)>>=_) _ _ s;refine Bn (QJ hS rfl ?_);show wpAny _ A.in1 (tryCatch (pyNext (.ref I)) _>>=_) _ _ s;refine Bn (PD (W.done s _ _ (hin▸Se) fun h' tk S0=> ?_));have Wb:=S0 S _ YT hS;show wpAny _ A.in1 (updateSeq S (fun _=> #[])>>=_) _ _ _;refine Bn ?_;refine Ss Wb rfl (Bn (QL (Li ?_)));refine hR vb _ tk (by rw[<-hin];exact Zb) fun b o Tv VQ e=>(Heap.get?_update_other _ _ (Ne.symm VQ)).trans (S0 b o Tv e)
 |succ k ih=>
  intro j s vb c hk hj Se Zb Tr hS hR;have Pm:j+1<n:=by omega
  refine Pd F.entry_min_loop ?_;rw[L0.under_plainId F.plain_min_loop _];show wpAny _ A.in1 (seqItems? (.ref S)>>=_) _ _ s;refine Bn (QJ hS rfl ?_);show wpAny _ A.in1 (tryCatch (pyNext (.ref I)) _>>=_) _ _ s;refine Bn (PD (W.item (j+1) s _ _ Pm Se fun v h' tk hP VR S0=> ?_));have Wb:=S0 S _ YT hS;show wpAny _ A.in1 (tryCatch (holding [v,v] (richCompare .Lt v vb>>=_)) _>>=_) _ _ _;refine Bn (PD (Nd (Bn (S4 (j+1) (argBest bt j) v vb _ _ _ hP Zb (Kp.step Tg Tr S0) ?_))));refine Bn (Nd (Nt ?_));refine Bn (QL (Li ?_));cases hb:bt (j+1) (argBest bt j) with
  |true=>
   simp only[if_true];refine Bn ?_;refine Ss Wb rfl (Bn (QL ?_));rw[QV];refine Li ⟨Oo F.plain_min_loop _,ih (j+1) _ v _ (by omega) Pm (W.frame _ _ _ VR fun b hbf o e=> ?_) (by simp only[argBest,hb,if_true];exact hP) (Kp.upd Zl (Kp.step Tg Tr S0)) (Heap.get?_update_self _ Wb rfl)
    fun v' Yh UQ X7 U1=> ?_⟩
   ·exact(Heap.get?_update_other _ _ (fun h:S=b=>Vv (by rw[h];exact hbf))).trans e
   ·exact hR v' Yh UQ X7 fun b o Tv VQ e=>U1 b o Tv VQ ((Heap.get?_update_other _ _ (Ne.symm VQ)).trans (S0 b o Tv e))
  |false=>simp only[Lr,if_false];refine Bn (QL ?_);rw[QV];refine Li ⟨Oo F.plain_min_loop _,ih (j+1) _ vb c (by omega) Pm VR (by simp only[argBest,hb,Lr,if_false];exact Zb) (Kp.step Tg Tr S0) Wb fun v' Yh UQ X7 U1=> ?_⟩;exact hR v' Yh UQ X7 fun b o Tv VQ e=>U1 b o Tv VQ (S0 b o Tv e)
theorem fL (W:Walks prog w A.in1 I fp wr n P St) (bt:Nat->Nat->Bool) {h0:Heap} (S4:zV prog w A.in1 h0 P bt) (Tg:∀b∈wr,h0.get? b=Ld) (S:Lp) (Zl:h0.get? S=Ld) (Vv:S∉fp) (hn:0<n) {s:Lm} {c:Nat} (Se:St 0 s.heap) (Tr:Kp h0 s.heap)
  (hS:s.heap.get? S=lD {cls:= .type "list",dict:=Ld,data:= .seq #[] c,slots:= #[]})
  (hR:∀v h' tk,P (argBest bt (n - 1)) v->(∀b o,b∉wr->b≠S->s.heap.get? b=lD o->h'.get? b=lD o)->R (.ok (.ret v)) {s with heap:=h',toks:=tk}):
  codeAny (model prog w) A (.builtin "min.loop" ⟨[.ref I,.none,.ref S],[]⟩) R s:=by
 have YT:S∉wr:=fun h=>Vv (W.sub _ h);have QV:(toString "min"++toString ".loop":String)= "min.loop":=by decide
 refine Pd F.entry_min_loop ?_;rw[L0.under_plainId F.plain_min_loop _];show wpAny _ A.in1 (seqItems? (.ref S)>>=_) _ _ s;refine Bn (QJ hS rfl ?_);show wpAny _ A.in1 (tryCatch (pyNext (.ref I)) _>>=_) _ _ s;refine Bn (PD (W.item 0 s _ _ hn Se fun v h' tk hP VR S0=> ?_));have Wb:=S0 S _ YT hS;show wpAny _ A.in1 (updateSeq S (fun _=> #[v,v])>>=_) _ _ _;refine Bn ?_;refine Ss Wb rfl ?_;rw[QV];refine Li ⟨Oo F.plain_min_loop _,pJ W bt S4 Tg S Zl Vv _ 0 _ v _ rfl hn (W.frame _ _ _ VR fun b hbf o e=> ?_) hP (Kp.upd Zl (Kp.step Tg Tr S0)) (Heap.get?_update_self _ Wb rfl) fun v' Yh UQ X7 U1=> ?_⟩
 ·exact(Heap.get?_update_other _ _ (fun h:S=b=>Vv (by rw[h];exact hbf))).trans e
 ·exact hR v' Yh UQ X7 fun b o Tv VQ e=>U1 b o Tv VQ ((Heap.get?_update_other _ _ (Ne.symm VQ)).trans (S0 b o Tv e))
end
section
variable {prog:LR} {w:Mg} {A:L0} {E:Lf->Lm->Prop} {s:Lm}
theorem sU {h0 h:Heap} (k:Kp h0 h):h0.get? h.objs.size=Ld:=by
 cases q:h0.get? h.objs.size with
 |none=>rfl
 |some o=>exact absurd (Heap.lt_size (k _ _ q)) (MC _)
theorem rV {x:Lf} {Q:Lf->Lm->Prop}
  (h:wpAny (model prog w) A.in1 (pyIter x) (fun it s₂=>∃I fp wr n P St bt h0,it= .ref I/\Walks prog w A.in1 I fp wr n P St/\St 0 s₂.heap/\(∀b∈fp,b<s₂.heap.objs.size)/\0<n/\zV prog w A.in1 h0 P bt/\Kp h0 s₂.heap/\(∀b∈wr,h0.get? b=Ld)/\
   ∀v h' tk,P (argBest bt (n - 1)) v->(∀b o,b∉wr->s₂.heap.get? b=lD o->h'.get? b=lD o)->Q v {s₂ with heap:=h',toks:=tk}) E s):
  wpAny (model prog w) A (call (.builtin "min") [x]) Q E s:=by
 have QV:(toString "min"++toString ".loop":String)= "min.loop":=by decide
 refine Wv F.kind_min F.plain_min F.entry_min (F.args_min1 _) ?_;show wpAny _ A.in1 (LJ.Builtins.bindParams "min" ["key","default"] 0 ⟨[],[]⟩>>=_) _ _ s;refine Bn (P4 (show LJ.Builtins.bindParams "min" ["key","default"] 0 ⟨[],[]⟩=pure [Ld,Ld] from rfl) ?_);refine Bn (Li ?_);refine Bn (wpAny_mono h (fun it s₂ h₂=> ?_) fun _ _ e=>e);obtain⟨I,fp,wr,n,P,St,bt,h0,rfl,W,Se,hfp,hn,S4,Tr,Tg,hQ⟩:=h₂;refine Bn (Mb ?_);have Vv:s₂.heap.objs.size∉fp:=fun hm=>MC _ (hfp _ hm);rw[QV];refine Li ⟨Oo F.plain_min_loop _,fL W bt S4 Tg s₂.heap.objs.size (sU Tr) Vv hn (W.frame _ _ _ Se fun b _ o e=>Heap.get?_push_of_some _ e) (fun b o e=>Heap.get?_push_of_some _ (Tr b o e)) (Heap.get?_push_size _ rfl) fun v h' tk hP hk=> ?_⟩;exact hQ v h' tk hP fun b o Tv e=>hk b o Tv (Ml (Heap.lt_size e)) (Heap.get?_push_of_some _ e)
theorem sA {a b:Lf} {Q:Lf->Lm->Prop}
  (h:wpAny (model prog w) A.in1 (pyIter (.ref s.heap.objs.size)) (fun it s₂=>∃I fp wr n P St bt h0,it= .ref I/\Walks prog w A.in1 I fp wr n P St/\St 0 s₂.heap/\(∀b∈fp,b<s₂.heap.objs.size)/\0<n/\zV prog w A.in1 h0 P bt/\Kp h0 s₂.heap/\(∀b∈wr,h0.get? b=Ld)/\
   ∀v h' tk,P (argBest bt (n - 1)) v->(∀b o,b∉wr->s₂.heap.get? b=lD o->h'.get? b=lD o)->Q v {s₂ with heap:=h',toks:=tk}) E
   {s with heap:=s.heap.push {cls:= .type "tuple",data:= .seq #[a,b]}}):
  wpAny (model prog w) A (call (.builtin "min") [a,b]) Q E s:=by
 have QV:(toString "min"++toString ".loop":String)= "min.loop":=by decide
 refine Wv F.kind_min F.plain_min F.entry_min (F.args_min2 _ _) ?_;show wpAny _ A.in1 (LJ.Builtins.bindParams "min" ["key","default"] 0 ⟨[],[]⟩>>=_) _ _ s;refine Bn (P4 (show LJ.Builtins.bindParams "min" ["key","default"] 0 ⟨[],[]⟩=pure [Ld,Ld] from rfl) ?_);show wpAny _ A.in1 (newTuple [a,b]>>=_) _ _ s;refine Bn (Mb ?_);refine Bn (wpAny_mono h (fun it s₂ h₂=> ?_) fun _ _ e=>e);obtain⟨I,fp,wr,n,P,St,bt,h0,rfl,W,Se,hfp,hn,S4,Tr,Tg,hQ⟩:=h₂;refine Bn (Mb ?_);have Vv:s₂.heap.objs.size∉fp:=fun hm=>MC _ (hfp _ hm);rw[QV];refine Li ⟨Oo F.plain_min_loop _,fL W bt S4 Tg s₂.heap.objs.size (sU Tr) Vv hn (W.frame _ _ _ Se fun b _ o e=>Heap.get?_push_of_some _ e) (fun b o e=>Heap.get?_push_of_some _ (Tr b o e)) (Heap.get?_push_size _ rfl) fun v h' tk hP hk=> ?_⟩;exact hQ v h' tk hP fun b o Tv e=>hk b o Tv (Ml (Heap.lt_size e)) (Heap.get?_push_of_some _ e)
end
end LD
namespace LD
open PySem PyProof.Rows L2 L3 L10
noncomputable def RJ (ds:List D):Bool:=ds.all fun a=>a.canLay0&&decide (a.depth<=32)&&ds.all fun b=>(Ot a b).isSome
noncomputable def Sk (ds:List D) (i j:Nat):Bool:=(Ot (ds.getD i .none) (ds.getD j .none)).getD Lw
noncomputable def SD (ds:List D):Nat:=argBest (Sk ds) (ds.length - 1)
theorem j6 {ds:List D} (h:RJ ds=Lk) {i:Nat} {a:D} (e:ds[i]? =lD a):a.canLay0=Lk/\a.depth<=32:=by unfold RJ at h;rw[Mu] at h;have:=h a (LH e);rw[LU,LU] at this;exact⟨this.1.1,of_decide_eq_true this.1.2⟩
theorem pQ {ds:List D} (h:RJ ds=Lk) {i j:Nat} {a b:D} (ea:ds[i]? =lD a) (eb:ds[j]? =lD b):Ot a b=lD (Sk ds i j):=by unfold RJ at h;rw[Mu] at h;have:=h a (LH ea);rw[LU] at this;have h2:=this.2;rw[Mu] at h2;have h3:=h2 b (LH eb);unfold Sk;rw[N8,N8,ea,eb];obtain⟨r,hr⟩:=Ng.mp h3;show Ot a b=lD ((Ot a b).getD Lw);rw[hr];rfl
theorem sB {prog:LR} {w:Mg} {A:L0} {h0:Heap} {P:Nat->Lf->Prop} {ds:List D} (hu:A.units+32<cLine) (h:RJ ds=Lk) (hp:∀i v,P i v->∃d as,ds[i]? =lD d/\NJ h0 v d as):zV prog w A h0 P (Sk ds):=by intro i j vi vj s Q E hi hj k q;obtain⟨a,as,ea,ra⟩:=hp i vi hi;obtain⟨b,bs,eb,rb⟩:=hp j vj hj;exact A3 32 a b vi vj as bs A s Q _ (j6 h ea).2 (j6 h eb).2 (j6 h ea).1 (j6 h eb).1 (Reads.keeps k ra) (Reads.keeps k rb) hu (pQ h ea eb) q
def BN:V->List V->Hp->VK->Prop:=fun x vs H Q=>∃a xs,x= .ref a/\vs=[]/\H a=lD (DkO a xs)/\∀p,H p=Ld->Q (.ref p) (upd H p (Ih p a))
theorem rB {prog:LR} {w:Mg} (d:Lp) (hd:(d==NM)=Lw):MeetsIn prog w (LJ.«dict.values» ⟨[.ref d],[]⟩) (fun _ R s=>s.TypeIs (.ref d) "dict"/\R (.ok (.ret (.ref s.heap.objs.size))) {s with heap:=s.heap.push {cls:= .type "dict_values",data:= .fields #[.ref d]}}):=
 .of_wp fun A R s ⟨hT,h⟩=>by refine Bn ?_;unfold LJ.Dict.noArgs;refine Bn (Ob hT ?_);show wpAny _ _ (pure d) _ _ s;refine Li ?_;show wpAny _ _ (LJ.Dict.showsAll d>>=_) _ _ s;unfold LJ.Dict.showsAll;rw[if_neg (by rw[hd];exact LA)];exact Bn (Li (Bn (Mb (Li ⟨_,rfl,h⟩))))
theorem uG {X:Cx}:KJ X "dict.values" BN:=by intro pins s σ H x xs v us Q I rx rxs h;obtain⟨a,ys,rfl,rfl,e,q⟩:=h;cases rx;cases rxs;obtain⟨t1,_,hd⟩:=i7 I e;refine Uu Pe t1 PySem.F.entry_dict_values (PySem.F.args_dict_values_1 _) (rB a hd) ⟨t1,?_⟩;exact⟨.ref s.heap.objs.size,_,I.laid (t':=s.toks) (o:=Ih s.heap.objs.size a) (fun b o e=>Heap.get?_push_of_some _ e) (Ll _) (JB ⟨_,Heap.get?_push_size _ rfl,rfl,rfl⟩),rfl,q _ (I.NO.fresh (Ll _))⟩
def E1 (K:Lc):List V->Hp->VK->Prop:=fun xs H Q=>∃(p a:Lp) (ys:List (KD×Lp×V)) (ds:List D),xs=[.ref p]/\H p=lD (Ih p a)/\H a=lD (DkO a ys)/\L2.Nc K H (ys.map (·.2.2)) ds/\0<ds.length/\RJ ds=Lk/\∀(v:V) (d:D),(ys.map (·.2.2))[SD ds]? =lD v->ds[SD ds]? =lD d->L2.DV K H v d->Q v H
theorem vR {K:Lc} {H:Hp}:∀{vs:List V} {ds:List D} {i:Nat} {v:V},L2.Nc K H vs ds->vs[i]? =lD v->∃d,ds[i]? =lD d/\L2.DV K H v d
 |_,_,0,_,.cons h _,e=>by cases e;exact⟨_,rfl,h⟩
 |_,_,n+1,_,.cons _ t,e=>by obtain⟨d,h1,h2⟩:=vR (i:=n) t (by simpa using e);exact⟨d,by simpa using h1,h2⟩
theorem rG {K:Lc} {H:Hp}:∀{vs:List V} {ds:List D},L2.Nc K H vs ds->vs.length=ds.length
 |_,_,.nil=>rfl
 |_,_,.cons _ t=>by rw[Lu,Lu,rG t]
theorem v5 {vs:List V} {us:List Lf} {i:Nat} {u:Lf} (h:Vals vs us) (e:us[i]? =lD u):∃v,vs[i]? =lD v/\RelV v u:=by
 induction h generalizing i with
 |nil=>simp at e
 |cons r _ ih=>
  cases i with
  |zero=>simp at e;subst e;exact⟨_,rfl,r⟩
  |succ n=>obtain⟨v,h1,h2⟩:=ih (i:=n) (by simpa using e);exact⟨v,by simpa using h1,h2⟩
theorem xo:∀{xs:List (KD×Lp×V)} {ys:List (KD×Lp×Lf)},RX xs ys->Vals (xs.map (·.2.2)) (ys.map (·.2.2))
 |_,_,.nil=> .nil
 |_,_,.cons h t=> .cons h.2.2 (xo t)
theorem T9 {X:Cx} (hc:X.calm=Lk) (hu:X.A.units+64<cLine):im X (.builtin "min") (E1 X.K):=by
 intro pins s σ H xs us Q I r h;obtain⟨p,a,ys,ds,rfl,ep,e,dv,h0,ho,q⟩:=h;obtain⟨u,rfl,ru⟩:=ng r;cases ru;obtain⟨vw,_,_⟩:MY X.prog X.w H s.heap p (Ih p a):=I.NO p _ ep;obtain⟨⟨⟨z,hd,nd⟩,o,es,en,g1,g2,g3,g4⟩,_⟩:=(show MY X.prog X.w H s.heap a (DkO a ys) from I.NO a _ e);obtain⟨zs,k1,k2⟩:=zk (P:=X.prog) g4;have rel:=xo k1;have hlen:ds.length=zs.length:=by rw[<-rG dv,Lh,Paired.length k1]
 have raw:QX s.heap a (zs.map fun y=>((),y.2.2)) en:=⟨o,es,g1,g2,g3,trivial,⟨by rw[k2,Mq,Mq];rfl⟩,trivial⟩;refine rV (ko (A:=X.A.in1) vw raw ?_);have la:a<s.heap.objs.size:=Heap.lt_size g1;refine⟨_,_,_,_,_,_,_,s.heap,rfl,yn (A:=X.A.in1) (I.ok.hd hc) s.heap.objs.size a (Ml la) (zs.map fun y=>((),y.2.2)) en,⟨⟨_,Heap.get?_push_size _ rfl,rfl,rfl⟩,raw.at' fun o e=>Heap.get?_push_of_some _ e⟩,fun b hb=> ?_,by rw[Lh];omega,sB (ds:=ds) (by rw[L0.in1_units];omega) ho (fun i v hv=> ?_),fun b o e=>Heap.get?_push_of_some _ e,fun b hb=> ?_,fun v h' tk hP hk=> ?_⟩
 ·show b<(s.heap.push _).objs.size
  rw[Heap.size_push];rcases LN.mp hb with rfl|hb
  ·exact Ni _
  ·rcases LN.mp hb with rfl|hb
   ·exact Oy la
   ·cases hb
 ·obtain⟨k,hv⟩:=hv
  rw[Ls] at hv;have Yu:(zs.map (·.2.2))[i]? =lD v:=by
   rw[Ls];cases q:zs[i]? with
   |none=>rw[q] at hv;cases hv
   |some y=>rw[q] at hv;cases hv;rfl
  obtain⟨x,e1,rx⟩:=v5 rel Yu;obtain⟨d,e2,dx⟩:=vR dv e1;obtain⟨as,rd⟩:=L2.DV.reads I dx rx;exact⟨d,as,e2,rd⟩
 ·rcases LN.mp hb with rfl|hb
  ·cases q:s.heap.get? s.heap.objs.size with
   |none=>rfl
   |some o=>exact absurd (Heap.lt_size q) (MC _)
  ·cases hb
 ·obtain⟨k,hv⟩:=hP
  rw[Ls] at hv;have Yu:(zs.map (·.2.2))[SD ds]? =lD v:=by
   rw[Lh,<-hlen] at hv;rw[Ls];show Tc _ zs[argBest (Sk ds) (ds.length - 1)]? =lD v;cases q:zs[argBest (Sk ds) (ds.length - 1)]? with
   |none=>rw[q] at hv;cases hv
   |some y=>rw[q] at hv;cases hv;rfl
  obtain⟨x,e1,rx⟩:=v5 rel Yu;obtain⟨d,e2,dx⟩:=vR dv e1;refine⟨x,H,I.kept (fun b o e=>hk b o (fun hm=> ?_) (Heap.get?_push_of_some _ e)),rx,q x d e1 e2 dx⟩;rcases LN.mp hm with e1|hm
  ·exact absurd (e1▸Heap.lt_size e) (MC _)
  ·cases hm
def E8 (K:Lc):List V->Hp->VK->Prop:=fun xs H Q=>∃(x y:V) (d e:D),xs=[x,y]/\L2.DV K H x d/\L2.DV K H y e/\RJ [d,e]=Lk/\Q (if Ot e d=lD Lk then y else x) H
theorem RN {X:Cx} (hc:X.calm=Lk) (hu:X.A.units+64<cLine):im X (.builtin "min") (E8 X.K):=by
 intro pins s σ H xs us Q I r h;obtain⟨x,y,d,e,rfl,dx,dy,ho,q⟩:=h;obtain⟨u,v,rfl,ru,rv⟩:∃u v,us=[u,v]/\RelV x u/\RelV y v:=by
  cases r with
  |cons a b=>cases b with
   |cons b c=>cases c;exact⟨_,_,rfl,a,b⟩
 obtain⟨as,ra⟩:=L2.DV.reads I dx ru;obtain⟨bs,rb⟩:=L2.DV.reads I dy rv;have ht:(s.heap.push {cls:= .type "tuple",data:= .seq #[u,v]}).IsTuple s.heap.objs.size #[u,v]:=⟨_,Heap.get?_push_size _ rfl,rfl,_,rfl⟩;refine sA (TF ht ?_);have sz:(s.heap.push {cls:= .type "tuple",data:= .seq #[u,v]}).objs.size=s.heap.objs.size+1:=Heap.size_push ..;refine⟨_,_,_,_,_,_,_,s.heap,rfl,Walks.tuple (A:=X.A.in1) (I.ok.hd hc) _ s.heap.objs.size (by rw[sz];exact Ml (Ni _)) #[u,v],⟨⟨_,Heap.get?_push_size _ rfl,rfl,rfl⟩,ht.push _⟩,fun b hb=> ?_,(show 0<2 from by decide),sB (ds:=[d,e]) (by rw[L0.in1_units];omega) ho (fun i w hw=> ?_),fun b o e=>Heap.get?_push_of_some _ (Heap.get?_push_of_some _ e),fun b hb=> ?_,fun w h' tk hP hk=> ?_⟩
 ·show b<((s.heap.push _).push _).objs.size
  rw[Heap.size_push,sz];rcases LN.mp hb with rfl|hb
  ·rw[sz];exact Ni _
  ·rcases LN.mp hb with rfl|hb
   ·exact Oy (Ni _)
   ·cases hb
 ·match i,hw with
  |0,hw=>cases hw;exact⟨d,as,rfl,ra⟩
  |1,hw=>cases hw;exact⟨e,bs,rfl,rb⟩
  |n+2,hw=>cases hw
 ·rcases LN.mp hb with rfl|hb
  ·rw[sz]
   cases q:s.heap.get? (s.heap.objs.size+1) with
   |none=>rfl
   |some o=>exact absurd (Heap.lt_size q) (VI (Ni _))
  ·cases hb
 ·have kp:∀b o,s.heap.get? b=lD o->h'.get? b=lD o:=fun b o e=>by
   refine hk b o (fun hm=> ?_) (Heap.get?_push_of_some _ (Heap.get?_push_of_some _ e));have:=Heap.lt_size e;rcases LN.mp hm with e1|hm
   ·rw[sz] at e1;rw[e1] at this;exact absurd this (VI (Ni _))
   ·cases hm
  have eb:Sk [d,e] 1 0=(Ot e d).getD Lw:=rfl;have hP:(#[u,v]:Array Lf)[argBest (Sk [d,e]) 1]? =lD w:=hP;have ea:argBest (Sk [d,e]) 1=if Sk [d,e] 1 0=Lk then 1 else 0:=rfl
  have hl:=pQ ho (i:=1) (j:=0) (a:=e) (b:=d) rfl rfl;rw[ea] at hP;cases z:Sk [d,e] 1 0 with
  |true=>rw[z,if_pos rfl] at hP;cases hP;rw[hl,z,if_pos rfl] at q;exact⟨y,H,I.kept kp,rv,q⟩
  |false=>rw[z,if_neg (by simp)] at hP;cases hP;rw[hl,z,if_neg (by simp)] at q;exact⟨x,H,I.kept kp,ru,q⟩
def EZ (td:TE):TE:=fun σ H Q=>td σ H fun x H1=>∃a xs,x= .ref a/\H1 a=lD (DkO a xs)/\∀p,H1 p=Ld->Q (.bl (!xs.isEmpty)) (upd H1 p (DkO p []))
theorem HN {prog:LR} {w:Mg} {A:L0} {E:Lf->Lm->Prop} {s:Lm} {a b:Lp} {oa ob:Obj} {ea:Array Na} {na nb:Nat} {Q:Lf->Lm->Prop} (ha:(a==NM)=Lw) (hb:(b==NM)=Lw) (h1:s.heap.get? a=lD oa) (h2:oa.ExactDict) (h3:oa.data= .dict ea na) (g1:s.heap.get? b=lD ob) (g2:ob.ExactDict) (g3:ob.data= .dict #[] nb) (hu:A.units<cLine) (h:Q (.bool (!ea.isEmpty)) s):
  wpAny (model prog w) A (NG .NotEq (.ref a) (.ref b)) Q E s:=by
 have tA:s.TypeIs (.ref a) "dict":=⟨_,h1,h2.1⟩;have tB:s.TypeIs (.ref b) "dict":=⟨_,g1,g2.1⟩;refine Pq (op:= .NotEq) tA tB Su (MN Su tA PySem.F.entry_dict_ne ?_ (PySem.F.args_dict_ne_2 _ _)) hu;show wpAny _ _ (LJ.Dict.dictSlotArgs "__ne__" ⟨[.ref a,.ref b],[]⟩>>=_) _ _ s;refine Bn ?_;unfold LJ.Dict.dictSlotArgs;refine Bn (Ob tA ?_);show wpAny _ _ (pure (Lf.ref a,Lf.ref b)) _ _ s;refine Li ?_;refine Bn (NT (T:= "dict") tB PySem.F.sub_dict_dict ?_);simp only[MZ,Lr,if_false];refine Bn (Li (Bn (Li ?_)));unfold LJ.Dict.samePairs LJ.Dict.showsAll;rw[if_neg (by rw[ha];exact LA),if_neg (by rw[hb];exact LA)];refine Bn (Bn (Li (Bn (Li ?_))));refine Bn (M0 h1 h3 ?_);refine Bn (M0 g1 g3 ?_);cases q:ea.isEmpty with
 |true=>rw[QK] at q;subst q;show wpAny _ _ (dictEpoch a>>=_) _ _ s;refine Bn (N3 h1 h3 ?_);refine Bn (P4 (a:=(Ld,())) (by simp) ?_);exact Li (Li ⟨_,rfl,(fun x=>nomatch x),h⟩)
 |false=>
  rw[q] at h;have hz:ea.size≠0:=fun z=>by rw[Ry] at q;exact q (QY z)
  show wpAny _ _ (if(ea.size !=0)=Lk then _ else _) _ _ s;rw[if_pos (by simpa using hz)];exact Bn (Qu (Li (Li ⟨_,rfl,(fun x=>nomatch x),h⟩)))
theorem V4 {X:Cx} {o:Mv} {td:TE} {pos:Pos} (hu:X.A.units+64<cLine) (ho:PE X o td):PC X .NotEq o (.Dict [] [] pos) (EZ td):=by
 intro pins s σ H Q I h;refine ce (ho pins s σ H _ I h) fun u s1 ⟨x,H1,I1,rx,a,xs,ex,e,q1⟩=> ?_;subst ex;obtain rfl:u=Lf.ref a:=rx;refine ce (Rh (pos:=pos) pins s1 σ H1 (fun y H2=>∃p,H1 p=Ld/\y= .ref p/\H2=upd H1 p (DkO p [])) I1 (fun p hp=>⟨p,hp,rfl,rfl⟩)) fun v s2 ⟨y,H2,I2,ry,p,hp,ey,eH⟩=> ?_;subst ey eH;obtain rfl:v=Lf.ref p:=ry;have e2:(upd H1 p (DkO p [])) a=lD (DkO a xs):=by rw[az (bX e hp)];exact e
 obtain⟨⟨⟨z,hd,nd⟩,o1,es,en,g1,g2,g3,g4⟩,_⟩:=(show MY X.prog X.w _ s2.heap a (DkO a xs) from I2.NO a _ e2);obtain⟨⟨⟨z',U7,nd'⟩,o1',Wj,en',g1',g2',g3',g4'⟩,_⟩:=(show MY X.prog X.w _ s2.heap p (DkO p []) from I2.NO p _ aB);have e0:Wj= #[]:=by generalize hq:Wj.toList=l at g4';cases g4';exact Array.toList_eq_nil_iff.mp hq
 subst e0;refine HN hd U7 g1 g2 g3 g1' g2' g3' (by omega) ⟨.bl _,_,I2,rfl,?_⟩;have:es.isEmpty=xs.isEmpty:=by
  have:=Paired.length g4;cases xs with
  |nil=>show es.isEmpty=Lk;rw[QK];exact QY (by simpa using this.symm)
  |cons x r=>show es.isEmpty=Lw;rw[Ry];intro z;subst z;simp at this
 rw[this];exact q1 p hp
def v3 (td:TE):TE:=fun σ H Q=>td σ H fun x H1=>BN x [] H1 Q
theorem T7 {X:Cx} {o:Mv} {td:TE} {apos OJ:Pos} (ho:PE X o td) (UN:attributeBase o "values" X.env (eval o X.env)=eval o X.env) (UY:(apos.endLine==OJ.line)=Lk):PE X (.Call (.Attribute o "values" apos) [] [] OJ) (v3 td):=by intro pins s σ H Q I h;refine wpAny_Call_method0_late UN UY (ce (ho pins s σ H _ I h) fun v s1 ⟨x,H1,I1,r1,q1⟩=> ?_);have q1':=q1;obtain⟨a,xs,rfl,_,e,_⟩:=q1';obtain rfl:v=Lf.ref a:=r1;obtain⟨h1,h2,_⟩:=i7 I1 e;exact⟨"dict","dict.values",Og,Pe,Rz,h1,h2,Calls.callWith_builtin rfl (PySem.evalArgs_none (uG pins s1 σ H1 (.ref a) [] _ [] Q I1 rfl .nil q1))⟩
end LD
namespace L10
open PySem PyProof.Rows L2 L3 LD
noncomputable def fX:SV->Option D
 | .fz d=>if keyD d=Lk then lD d else Ld
 |_=>Ld
noncomputable def DQ:SV->Option D
 | .fz d=>lD d
 |_=>Ld
noncomputable def gB (ω:aX):SV->Option (Nat×List (D×D))
 | .rf i=>match ω[i]? with
  |some (.dd Mj)=>lD (i,Mj)
  |_=>Ld
 |_=>Ld
noncomputable def bw (Mj:List (D×D)) (k:D):Option D:=(Mj.find? fun kv=>Lg.eqv kv.1 k).map (·.2)
noncomputable def fS (Mj:List (D×D)) (k v:D):List (D×D):=if(Mj.find? fun kv=>Lg.eqv kv.1 k).isSome=Lk then Mj.map (fun kv=>if Lg.eqv kv.1 k=Lk then(kv.1,v) else kv) else Mj++[(k,v)]
noncomputable def jF (Mj:List (D×D)) (k:D):List (D×D):=Mj.filter fun kv=> !Lg.eqv kv.1 k
section
variable {B O O':bu} {K:Lc} {E:XK} {H H' H1 H2:Hp} {α α' α1 α2:List Lp} {ω ω' ω1 ω2:aX} {σ:L2.St} {ρ:aQ} {v:V} {k:KD}
theorem iM (e:fX x=lD d) (h:OT O K H α v x):∃(k:KD) (b:Lp),k.1=d/\v= .ref b/\L3.DV O K H (.ref b) d:=by
 cases x with
 |fz z=>
  have e:(if keyD z=Lk then lD z else Ld)=lD d:=e;by_cases hk:keyD z=Lk
  ·rw[if_pos hk] at e
   cases e;have h:=h;cases d with
   |tuple xs=>cases h with
    |tup h1 h2=>exact⟨⟨_,hk⟩,_,rfl,rfl,.tup h1 h2⟩
   |_=>simp[keyD] at hk
  ·rw[if_neg hk] at e;cases e
 |rf i=>cases e
 |tp l=>cases e
theorem jp (s:StoOk B K H α ω) (hv:OT (ow B α ω) K H α v x) (h:gB ω x=lD (i,Mj)):ω[i]? =lD (.dd Mj)/\∃a xs,α[i]? =lD a/\v= .ref a/\H a=lD (DkO a xs)/\PrD (ow B α ω) K H xs Mj:=by
 cases x with
 |fz d=>cases h
 |tp l=>cases h
 |rf j=>
  obtain⟨a,ha,rfl⟩:=hv;unfold gB at h;dsimp only at h;cases q:ω[j]? with
  |none=>rw[q] at h;cases h
  |some c=>
   rw[q] at h;cases c with
   |dd ys=>have e:=LZ h;cases e;obtain⟨ws,h1,h2⟩:=s.RL i a _ ha q;exact⟨q,a,ws,ha,rfl,h1,h2⟩
   |_=>cases h
theorem mC:∀{xs:List (KD×Lp×V)} {Mj:List (D×D)},PrD O K H xs Mj->jU K H xs
 |_,_,.nil=>fun _ h=>nomatch h
 |x::xs,kv::Mj,.cons h t=>fun y hy=>by
  rcases LN.mp hy with e|hy
  ·subst e;rw[h.1];exact h.2.1.plain
  ·exact mC t y hy
theorem lK {x:KD×Lp×V} {kv:D×D} (h:x.1.1=kv.1):decide (x.1=k)=Lg.eqv kv.1 k.1:=by
 rw[<-h]
 haveI:Decidable (x.1.1=k.1):=Classical.propDecidable _
 rw[AY (cY x.1.2).1 (cY k.2).1];by_cases e:x.1=k
 ·rw[decide_eq_true e,decide_eq_true (congrArg Subtype.val e)]
 ·rw[decide_eq_false e,decide_eq_false fun z=>e (Subtype.ext z)]
theorem gG:∀{xs:List (KD×Lp×V)} {Mj:List (D×D)},PrD O K H xs Mj->(∀d,bw Mj k.1=lD d->∃v,iY xs k=lD v/\L3.DV O K H v d)/\(bw Mj k.1=Ld->iY xs k=Ld)
 |_,_,.nil=>⟨fun x e=>(by cases e),fun _=>rfl⟩
 |x::xs,kv::Mj,.cons h t=>by
  unfold bw iY;rw[Mw,Mw,lK h.1];cases Lg.eqv kv.1 k.1 with
  |true=>exact⟨fun d e=>⟨x.2.2,rfl,by cases e;exact h.2.2⟩,fun e=>by cases e⟩
  |false=>exact gG t
theorem vM (h:PrD O K H xs Mj):(iY xs k).isSome=(bw Mj k.1).isSome:=by
 obtain⟨h1,h2⟩:=gG h;cases q:bw Mj k.1 with
 |none=>rw[h2 q];rfl
 |some x=>obtain⟨u,e,_⟩:=h1 x q;rw[e];rfl
theorem B6:∀{xs:List (KD×Lp×V)} {Mj:List (D×D)},PrD O K H xs Mj->(xs.find? fun x=>decide (x.1=k)).isSome=(Mj.find? fun kv=>Lg.eqv kv.1 k.1).isSome
 |_,_,.nil=>rfl
 |x::xs,kv::Mj,.cons h t=>by
  rw[Mw,Mw,lK h.1];cases Lg.eqv kv.1 k.1 with
  |true=>rfl
  |false=>exact B6 t
theorem Fs (hv:L3.DV O K H v d):∀{xs:List (KD×Lp×V)} {Mj:List (D×D)},PrD O K H xs Mj->PrD O K H (xs.map fun x=>if x.1=k then(x.1,x.2.1,v) else x) (Mj.map fun kv=>if Lg.eqv kv.1 k.1=Lk then(kv.1,d) else kv)
 |_,_,.nil=> .nil
 |x::xs,kv::Mj,.cons h t=>by
  rw[Lo,Lo];refine .cons ?_ (Fs hv t);have e:=lK (k:=k) h.1;by_cases z:x.1=k
  ·rw[if_pos z,if_pos (by rw[<-e];exact decide_eq_true z)];exact⟨h.1,h.2.1,hv⟩
  ·rw[if_neg z,if_neg (by rw[<-e,decide_eq_false z];simp)];exact h
theorem sH (r:x.1.1=kv.1/\L3.DV O K H (.ref x.2.1) kv.1/\L3.DV O K H x.2.2 kv.2):∀{xs:List (KD×Lp×V)} {Mj:List (D×D)},PrD O K H xs Mj->PrD O K H (xs++[x]) (Mj++[kv])
 |_,_,.nil=> .cons r .nil
 |_,_,.cons g t=> .cons g (sH r t)
theorem tW (hb:L3.DV O K H (.ref b) k.1) (hv:L3.DV O K H v d) (h:PrD O K H xs Mj):PrD O K H (j0 xs k b v) (fS Mj k.1 d):=by
 unfold j0 fS;rw[B6 h];split
 ·exact Fs hv h
 ·exact sH ⟨rfl,hb,hv⟩ h
theorem kP:∀{xs:List (KD×Lp×V)} {Mj:List (D×D)},PrD O K H xs Mj->PrD O K H (lj xs k) (jF Mj k.1)
 |_,_,.nil=> .nil
 |x::xs,kv::Mj,.cons h t=>by
  unfold lj jF;rw[MR,MR];have e:=lK (k:=k) h.1;by_cases z:x.1=k
  ·rw[decide_eq_true z] at e;rw[if_neg (by simpa using z),if_neg (by rw[<-e];simp)];exact kP t
  ·rw[decide_eq_false z] at e;rw[if_pos (by simpa using z),if_pos (by rw[<-e];rfl)];exact .cons h (kP t)
theorem vg (e:Ev O H O' H') (h:PrD O K H xs Mj):PrD O' K H' xs Mj:=Paired.Ph h fun _ _ q=>⟨q.1,q.2.1.ev e,q.2.2.ev e⟩
theorem tE:∀{xs:List (KD×Lp×V)} {Mj:List (D×D)},PrD O K H xs Mj->L3.Nc O K H (xs.map (·.2.2)) (Mj.map (·.2))
 |_,_,.nil=> .nil
 |_,_,.cons h t=> .cons h.2.2 (tE t)
noncomputable def lg (neg:Bool) (fk fd:c7):c7:=fun ρ ω=>(fk ρ ω).bind fun x ω1=>(fd ρ ω1).bind fun o ω2=>(RS.ME ω2 (fX x)).bind fun k ω2=>(RS.ME ω2 (gB ω2 o)).bind fun p ω2=> .ok (.fz (.bool ((bw p.2 k).isSome !=neg))) ω2
theorem mz (hk:d5 K E tk fk) (hd:d5 K E td fd):d5 K E (AL K neg tk td) (lg neg fk fd):=by intro B σ H α ω ρ Q s sl w;refine hk B σ H α ω ρ _ s sl (w.bind.imp fun x α1 ω1 H1 e1 s1 w1 v hv=> ?_);refine hd B σ H1 α1 ω1 ρ _ s1 (sl.OC e1) (w1.bind.imp fun o α2 ω2 H2 e2 s2 w2 u hu=> ?_);obtain⟨d,q1,w2⟩:=WS.ME w2;obtain⟨⟨i,Mj⟩,q2,w2⟩:=WS.ME w2;obtain⟨_,a,xs,ha,rfl,g1,g2⟩:=jp s2 hu q2;obtain⟨k,b,rfl,rfl,hb⟩:=iM q1 (hv.OC e2);refine⟨a,b,xs,k,rfl,rfl,g1,mC g2,hb.plain,?_⟩;rw[vM g2];exact WS.now s2 w2 _ (.bl _)
noncomputable def qR (fd fk:c7):c7:=fun ρ ω=>(fd ρ ω).bind fun o ω1=>(fk ρ ω1).bind fun x ω2=>(RS.ME ω2 (fX x)).bind fun k ω2=>(RS.ME ω2 (gB ω2 o)).bind fun p ω2=>(RS.ME ω2 (bw p.2 k)).bind fun d ω2=> .ok (.fz d) ω2
theorem yF (hd:d5 K E td fd) (hk:d5 K E tk fk):d5 K E (zG K td tk) (qR fd fk):=by intro B σ H α ω ρ Q s sl w;refine hd B σ H α ω ρ _ s sl (w.bind.imp fun o α1 ω1 H1 e1 s1 w1 u hu=> ?_);refine hk B σ H1 α1 ω1 ρ _ s1 (sl.OC e1) (w1.bind.imp fun x α2 ω2 H2 e2 s2 w2 v hv=> ?_);obtain⟨d,q1,w2⟩:=WS.ME w2;obtain⟨⟨i,Mj⟩,q2,w2⟩:=WS.ME w2;obtain⟨_,a,xs,ha,rfl,g1,g2⟩:=jp s2 (hu.OC e2) q2;obtain⟨k,b,rfl,rfl,hb⟩:=iM q1 hv;obtain⟨y,q3,w2⟩:=WS.ME w2;obtain⟨z,hz,vz⟩:=(gG g2).1 y q3;exact⟨a,b,xs,k,z,rfl,rfl,g1,mC g2,hb.plain,hz,WS.now s2 w2 z vz⟩
noncomputable def ny (fd fk fv:c7):gM:=fun ρ ω=>(fv ρ ω).bind fun y ω1=>(fd ρ ω1).bind fun o ω2=>(fk ρ ω2).bind fun x ω3=>(RS.ME ω3 (fX x)).bind fun k ω3=>(RS.ME ω3 (gB ω3 o)).bind fun p ω3=>(RS.ME ω3 (DQ y)).bind fun d ω3=>if p.2.length<1000000 then .ok (.nx ρ) (ω3.set p.1 (.dd (fS p.2 k d))) else .bad
theorem BT (e:DQ x=lD d) (h:OT O K H α v x):L3.DV O K H v d:=by
 cases x with
 |fz z=>cases e;exact h
 |rf i=>cases e
 |tp l=>cases e
theorem oN (hd:d5 K E td fd) (hk:d5 K E tk fk) (hv:d5 K E tv fv):nG K E (BV K td tk tv) (ny fd fk fv):=by
 intro B σ H α ω ρ D s sl w;refine hv B σ H α ω ρ _ s sl (WS.imp (WS.bind w) fun y α1 ω1 H1 e1 s1 w1 vy hvy=> ?_);refine hd B σ H1 α1 ω1 ρ _ s1 (sl.OC e1) (WS.imp (WS.bind w1) fun o α2 ω2 H2 e2 s2 w2 u hu=> ?_);refine hk B σ H2 α2 ω2 ρ _ s2 (sl.OC (e1.trans e2)) (WS.imp (WS.bind w2) fun x α3 ω3 H3 e3 s3 w3 z hz=> ?_);obtain⟨kd,q1,w3⟩:=WS.ME w3;obtain⟨⟨i,Mj⟩,q2,w3⟩:=WS.ME w3;obtain⟨d,q3,w3⟩:=WS.ME w3;obtain⟨qi,a,xs,ha,rfl,g1,g2⟩:=jp s3 (hu.OC e3) q2;obtain⟨k,b,rfl,rfl,hb⟩:=iM q1 hz;have hy:=BT q3 (hvy.OC (e2.trans e3));dsimp only at w3;by_cases hn:Mj.length<1000000
 ·rw[if_pos hn] at w3;have ev:Ev (ow B α3 ω3) H3 (ow B α3 ω3) (upd H3 a (DkO a (j0 xs k b vy))):=vE ha qi (by intro z;cases z);have e4:Nq α3 ω3 H3 α3 (ω3.set i (.dd (fS Mj k.1 d))) (upd H3 a (DkO a (j0 xs k b vy))):=Nq.put ha qi (by intro z;cases z) (by intro z;cases z);have hl:=Paired.length g2;refine⟨a,b,xs,k,rfl,rfl,g1,mC g2,hb.plain,um (by omega),?_⟩;exact w3 α3 _ e4 (s3.put ha qi (by intro z;cases z) (by intro z;cases z) ⟨_,aB,tW (hb.ev ev) (hy.ev ev) (vg ev g2)⟩) σ ((sl.OC (e1.trans (e2.trans e3))).OC e4)
 ·rw[if_neg hn] at w3;exact w3.elim
noncomputable def lW (fd fk fx:c7):c7:=fun ρ ω=>(fd ρ ω).bind fun o ω1=>(RS.ME ω1 (gB ω1 o)).bind fun _ ω1=>(fk ρ ω1).bind fun x ω2=>(fx ρ ω2).bind fun z ω3=>(RS.ME ω3 (fX x)).bind fun k ω3=>(RS.ME ω3 (gB ω3 o)).bind fun p ω3=> .ok (match bw p.2 k with|some d=> .fz d|none=>z) ω3
theorem uE (hd:d5 K E td fd) (hk:d5 K E tk fk) (hx:d5 K E tx fx):d5 K E (xJ K td tk tx) (lW fd fk fx):=by
 intro B σ H α ω ρ Q s sl w;refine hd B σ H α ω ρ _ s sl (w.bind.imp fun o α1 ω1 H1 e1 s1 w1 u hu=> ?_);obtain⟨⟨i0,U0⟩,q0,w1⟩:=WS.ME w1;obtain⟨_,a,Vy,_,rfl,g0,_⟩:=jp s1 hu q0;refine⟨a,Vy,rfl,g0,?_⟩;refine hk B σ H1 α1 ω1 ρ _ s1 (sl.OC e1) (w1.bind.imp fun x α2 ω2 H2 e2 s2 w2 v hv=> ?_);refine hx B σ H2 α2 ω2 ρ _ s2 (sl.OC (e1.trans e2)) (w2.bind.imp fun z α3 ω3 H3 e3 s3 w3 vz hz=> ?_);obtain⟨d,q1,w3⟩:=WS.ME w3;obtain⟨⟨i,Mj⟩,q2,w3⟩:=WS.ME w3;obtain⟨_,a',xs,ha,ea,g1,g2⟩:=jp s3 (hu.OC (e2.trans e3)) q2;cases ea;obtain⟨k,b,rfl,rfl,hb⟩:=iM q1 (hv.OC e3);refine⟨b,xs,k,rfl,g1,mC g2,hb.plain,WS.now s3 w3 _ ?_⟩;obtain⟨h1,h2⟩:=gG g2;dsimp only;cases q:bw Mj k.1 with
 |none=>rw[h2 q];exact hz
 |some y=>obtain⟨u,e,h⟩:=h1 y q;rw[e];exact h
noncomputable def qA (fd fk:c7):c7:=fun ρ ω=>(fd ρ ω).bind fun o ω1=>(RS.ME ω1 (gB ω1 o)).bind fun _ ω1=>(fk ρ ω1).bind fun x ω2=>(RS.ME ω2 (fX x)).bind fun k ω2=>(RS.ME ω2 (gB ω2 o)).bind fun p ω2=>(RS.ME ω2 (bw p.2 k)).bind fun d ω2=> .ok (.fz d) (ω2.set p.1 (.dd (jF p.2 k)))
theorem yP (hd:d5 K E td fd) (hk:d5 K E tk fk):d5 K E (A9 K td tk) (qA fd fk):=by intro B σ H α ω ρ Q s sl w;refine hd B σ H α ω ρ _ s sl (w.bind.imp fun o α1 ω1 H1 e1 s1 w1 u hu=> ?_);obtain⟨⟨i0,U0⟩,q0,w1⟩:=WS.ME w1;obtain⟨_,a,Vy,_,rfl,g0,_⟩:=jp s1 hu q0;refine⟨a,Vy,rfl,g0,?_⟩;refine hk B σ H1 α1 ω1 ρ _ s1 (sl.OC e1) (w1.bind.imp fun x α2 ω2 H2 e2 s2 w2 v hv=> ?_);obtain⟨d,q1,w2⟩:=WS.ME w2;obtain⟨⟨i,Mj⟩,q2,w2⟩:=WS.ME w2;obtain⟨qi,a',xs,ha,ea,g1,g2⟩:=jp s2 (hu.OC e2) q2;cases ea;obtain⟨k,b,rfl,rfl,hb⟩:=iM q1 hv;obtain⟨y,q3,w2⟩:=WS.ME w2;obtain⟨z,hz,vz⟩:=(gG g2).1 y q3;have ev:Ev (ow B α2 ω2) H2 (ow B α2 ω2) (upd H2 a (DkO a (lj xs k))):=vE ha qi (by intro z;cases z);have e4:Nq α2 ω2 H2 α2 (ω2.set i (.dd (jF Mj k.1))) (upd H2 a (DkO a (lj xs k))):=Nq.put ha qi (by intro z;cases z) (by intro z;cases z);refine⟨b,xs,k,z,rfl,g1,mC g2,hb.plain,hz,?_⟩;exact w2 α2 _ e4 (s2.put ha qi (by intro z;cases z) (by intro z;cases z) ⟨_,aB,kP (vg ev g2)⟩) z (OT.OC e4 vz)
noncomputable def ri:c7:=fun _ ω=> .ok (.rf ω.length) (ω++[.dd []])
theorem oJ:d5 K E CH ri:=by intro B σ H α ω ρ Q s sl w;exact fun p hp=>tt s hp w fun _=>⟨[],aB,.nil⟩
noncomputable def xF (fd:c7):c7:=fun ρ ω=>(fd ρ ω).bind fun o ω1=>(RS.ME ω1 (gB ω1 o)).bind fun p ω1=> .ok (.fz (.bool (!p.2.isEmpty))) ω1
theorem zo (hd:d5 K E td fd):d5 K E (EZ td) (xF fd):=by
 intro B σ H α ω ρ Q s sl w;refine hd B σ H α ω ρ _ s sl (w.bind.imp fun o α1 ω1 H1 e1 s1 w1 u hu=> ?_);obtain⟨⟨i,Mj⟩,q2,w1⟩:=WS.ME w1;obtain⟨_,a,xs,ha,rfl,g1,g2⟩:=jp s1 hu q2;refine⟨a,xs,rfl,g1,fun p hp=> ?_⟩;have sm:Nk H1 (upd H1 p (DkO p [])):=cc hp _;have ex:xs.isEmpty=Mj.isEmpty:=by cases g2<;>rfl
 rw[ex];exact w1 α1 _ (Nq.same sm) (s1.grow sm) _ (.bl _)
noncomputable def pK (fd:c7):c7:=fun ρ ω=>(fd ρ ω).bind fun o ω1=>(RS.ME ω1 (gB ω1 o)).bind fun p ω1=>if RJ (p.2.map (·.2))=Lk then(RS.ME ω1 (p.2.map (·.2))[SD (p.2.map (·.2))]?).bind fun d ω1=> .ok (.fz d) ω1 else .bad
theorem yB (hd:d5 K E td fd):d5 K E (E9 (E1 K) (gI (v3 td) nV)) (pK fd):=by
 intro B σ H α ω ρ Q s sl w;refine hd B σ H α ω ρ _ s sl (w.bind.imp fun o α1 ω1 H1 e1 s1 w1 u hu=> ?_);obtain⟨⟨i,Mj⟩,q2,w1⟩:=WS.ME w1;obtain⟨_,a,xs,ha,rfl,g1,g2⟩:=jp s1 hu q2;refine⟨a,xs,rfl,rfl,g1,fun p hp=> ?_⟩;have sm:Nk H1 (upd H1 p (Ih p a)):=cc hp _;have s2:=s1.grow sm;dsimp only at w1;by_cases ho:RJ (Mj.map (·.2))=Lk
 ·rw[if_pos ho] at w1
  obtain⟨d,q3,w1⟩:=WS.ME w1;have g3:=(tE g2).ev (Ev.grow sm);have hl:0<(Mj.map (·.2)).length:=by
   cases Mj with
   |nil=>cases q3
   |cons x r=>rw[Lo,Lu];omega
  refine⟨p,a,xs,Mj.map (·.2),rfl,aB,sm _ _ g1,g3.plain,hl,ho,fun v d' ev ed _=> ?_⟩;obtain⟨v',h1,h2⟩:=g3.get ed;rw[ev] at h1;cases h1;rw[q3] at ed;cases ed;exact w1 α1 _ (Nq.same sm) s2 _ h2
 ·rw[if_neg ho] at w1;exact w1.elim
end
end L10
namespace PySem
open Sem (wp)
namespace F
theorem R9:typeLookup (.type "list") "keys"=pure Ld:=by rw[YO,Vk];kernel_rfl
theorem RY:typeLookup (.type "list") "__getattr__"=pure Ld:=by rw[YO,Vk];kernel_rfl
end F
section
variable {prog:LR} {w:Mg} {A:L0} {E:Lf->Lm->Prop} {h:Heap} {g:Array Rr} {d:W4} {t:Nat} {os:W7} {a:Lp} {o:Obj}
theorem lC {tk:Tok} {Q:Fin->Lm->Prop} {E:Lf->Lm->Prop} {MD:Array Lf} {n:Nat} {sl:Array (Option Lf)} (hx:h.get? a=lD ⟨.type "list",Ld,.seq MD n,sl⟩) (hh:A.handled=Ld) (hq:∀e h' t',(∀b o,h.get? b=lD o->h'.get? b=lD o)->(⟨h',g,d,t',os⟩:Lm).TypeIs e "AttributeError"->E e ⟨h',g,d,t',os⟩):
  wpAny (model prog w) A (LJ.«object.__getattribute__» ⟨[.ref a,.str "keys" tk],[]⟩) Q E ⟨h,g,d,t,os⟩:=by
 have hT:(⟨h,g,d,t,os⟩:Lm).TypeIs (.ref a) "list":=⟨_,hx,rfl⟩;have f4:=F.R9
 repeat (any_goals (first|assumption|wp_step))
 exact ve (by decide+kernel) hh hq
theorem rN {tk:Tok} {Q:Lf->Lm->Prop} {E:Lf->Lm->Prop} {MD:Array Lf} {n:Nat} {sl:Array (Option Lf)} (hx:h.get? a=lD ⟨.type "list",Ld,.seq MD n,sl⟩) (hh:A.handled=Ld) (hq:∀e h' t',(∀b o,h.get? b=lD o->h'.get? b=lD o)->(⟨h',g,d,t',os⟩:Lm).TypeIs e "AttributeError"->E e ⟨h',g,d,t',os⟩):
  wpAny (model prog w) A (getAttrBy (.ref a) (.str "keys" tk) Lw) Q E ⟨h,g,d,t,os⟩:=by
 have hT:(⟨h,g,d,t,os⟩:Lm).TypeIs (.ref a) "list":=⟨_,hx,rfl⟩;have f2:=F.slot_list_getattribute.lookup;have f3:=F.slot_list_getattribute.bind (.ref a);have f4:=F.RY
 repeat (any_goals (first|assumption|wp_step))
 refine codeAny_call_builtin F.slot_list_getattribute.plain F.entry_list_ga (F.slot_list_getattribute.check _ _ _ _ _ _ _ _ hT (F.args_list_getattribute_2 _ _) (lC hx hh fun e h' t' hk he=> ?_));have fs:=F.sub_ae;show wpAny (model prog w) A (getattributeRaised (Lf.ref a) (Lf.str (Str.ofString "keys") tk) (Lf.type "list") e Ld Lw Lw) Q E _;unfold getattributeRaised;refine Bn (NT he fs ?_)
 repeat (any_goals (first|assumption|wp_step))
 exact hq e h' t' hk he
theorem mR {Q:Option Lf->Lm->Prop} {MD:Array Lf} {n:Nat} {sl:Array (Option Lf)} (hx:h.get? a=lD ⟨.type "list",Ld,.seq MD n,sl⟩) (hh:A.handled=Ld) (hq:∀h' t',(∀b o,h.get? b=lD o->h'.get? b=lD o)->Q Ld ⟨h',g,d,t',os⟩):
  wpAny (model prog w) A (getAttr? (.ref a) "keys") Q E ⟨h,g,d,t,os⟩:=by
 unfold getAttr? getAttrBy?;have fs:=F.sub_ae;refine Bn ?_
 repeat (any_goals (first|assumption|(with_reducible refine rN hx hh fun e h' t' hk he=> ?_)|wp_step))
 exact hq h' t' hk
end
end PySem
namespace PySem
open Sem (wp)
open PyProof.Rows
end PySem
namespace L10
open PySem PySem.Spec PyProof.Rows L2 L3
end L10
namespace PySem
open Sem (wp)
open PyProof.Rows
end PySem
namespace L10
open PySem PySem.Spec PyProof.Rows L2 L3 LD
noncomputable def wu:List D->Option RV
 |[d,e]=>if RJ [d,e]=Lk then lD (.fz (if Ot e d=lD Lk then e else d)) else Ld
 |_=>Ld
theorem BU {a b:D} {l:List D} (h:a= .list l\/b= .list l):Ot a b=Ld:=by rcases h with h|h<;>subst h<;>cases ‹D›<;>simp[Ot]
theorem ES {O:bu} {K:Lc} {H:Hp} {v:V} {d:D} (h:DX O K H v d) (n:∀l,d≠ .list l):L3.DV O K H v d:=by
 cases d with
 |list l=>exact absurd rfl (n l)
 |_=>exact h
theorem Cd {K:Lc}:Ff K (E8 K) wu:=by
 intro O H xs ds rv Q n hp e q;unfold wu at e;split at e
 ·rename_i d e1
  split at e
  ·rename_i ho
   cases e;have l1:=pQ ho (i:=0) (j:=0) rfl rfl;have l2:=pQ ho (i:=1) (j:=1) rfl rfl;have nl:∀z:D,(∃r,Ot z z=lD r)->∀l,z≠ .list l:=fun z ⟨r,hr⟩ l e=>by rw[BU (.inl e)] at hr;cases hr
   cases hp with
   |cons h1 h2=>cases h2 with
    |cons h2 h3=>
     cases h3;have p1:=ES h1 (nl _ ⟨_,l1⟩);have p2:=ES h2 (nl _ ⟨_,l2⟩);refine⟨_,_,d,e1,rfl,p1.plain,p2.plain,ho,?_⟩;split
     ·rename_i z;rw[if_pos z] at q;exact q.at p2
     ·rename_i z;rw[if_neg z] at q;exact q.at p1
  ·cases e
 ·cases e
end L10
namespace L10
open PySem PyProof.Rows L2 L3 LD
section
variable {B O O':bu} {K:Lc} {E:XK} {H H' H1 H2:Hp} {α α' α1 α2:List Lp} {ω ω' ω1 ω2:aX} {σ:L2.St} {ρ:aQ} {v:V}
theorem wP:∀{vs:List V} {xs:List SV} {ds:List D},N6 O K H α vs xs->aw DQ xs=lD ds->L3.Nc O K H vs ds
 |_,_,_,.nil,e=>by cases e;exact .nil
 |_,_,_,.cons (a:=v) (b:=x) (l₂:=xs) h t,e=>by
  unfold aw at e;cases q:DQ x with
  |none=>rw[q] at e;cases e
  |some d=>
   rw[q] at e;dsimp only at e;cases q2:aw DQ xs with
   |none=>rw[q2] at e;cases e
   |some ds=>rw[q2] at e;cases e;exact .cons (BT q h) (wP t q2)
end
end L10
namespace L10
open PySem PyProof.Rows L2 L3
end L10
namespace L3
open PySem PyProof.Rows L2
structure aan (K:Lc) (x qual:Str) (st:NZ) (f:Lp) (fd:M8) (T:Lp) (MD:Array Lf):Prop where
 ex:∃(oc:Lf) (od:Option Lp) (kV doc pm:Lf) (an:Option Lp) (Ny ct:Lf) (UK:Array (Option Lf)),
  fd=N2 x qual (jm st) (bZ st) (aF st) (.ref T) kV doc pm an Ny ct/\K.lookup f=lD ⟨oc,od,.func fd,UK⟩/\P5 K Ny qual=Lk
 kp:NF K (.ref f)=Lk
 tp:∃o n,K.lookup T=lD o/\o.data= .seq MD n
end L3
namespace L10
open PySem PyProof.Rows L2 L3
end L10
namespace L4
open PySem PyProof.Rows L2 L3
end L4
namespace L2
open PySem PySem.Spec PyProof.Rows
end L2
namespace L4
open PySem PyProof.Rows L2 L3
end L4
namespace L2
open PySem PySem.Spec PyProof.Rows
end L2
namespace L10
open PySem PyProof.Rows L2 L3
end L10
namespace L3
open PySem L2
end L3
namespace L10
open PySem PySem.Spec PyProof.Rows L2 L3
end L10
namespace L10
open PySem L2 L3
end L10
namespace LD
open PySem PySem.Spec PyProof.Rows L2
end LD
namespace L10
open PySem PyProof.Rows L2 L3 LD
end L10
namespace L3
open PySem L2
end L3
namespace L10
open PySem PyProof.Rows L2 L3
end L10
namespace L4
open PySem PySem.Spec PySem.W PyProof.Rows L2 L3
end L4
namespace L10
open PySem L2 L3
def Kx (T:A->aX->Prop) (X:Xc->Prop):RS A->Prop
 | .ok a ω=>T a ω
 | .er x _=>X x
 | .bad=>False
structure Out {A:Type} (r:RS A) (T:A->aX->Prop) (X:Xc->Prop):Prop where
 out:Kx T X r
end L10
namespace L3
open PySem PyProof.Rows L2
section
variable {P:LR} {w:Mg} {K:Lc} {mg:Str->Option Lf} {base h:Heap} {f T:Lp} {n:Str} {t:NZ} {ps:List Str} {lv:Nat} {sp:Sp} {CX:vA} {MD:Array Lf}
structure DI (K:Lc) (f T:Lp) (n:Str) (t:NZ) (MD:Array Lf):Prop where
 a:MF K Ma n=lD (lD (.ref f))
 F:∃fd,aan K n n t f fd T MD
end
structure Tp (P:LR) (w:Mg) (K:Lc) (mg:Str->Option Lf) (base h:Heap):Prop where
 X:K.In h
 G:h.Ns Ma mg
end L3
namespace LD
open PySem PySem.Spec PyProof.Rows L2 L3
end LD
namespace L10
open PySem PyProof.Rows L2 L3 LD
end L10
namespace LD
open PySem PySem.Spec PyProof.Rows L2 L3
end LD
namespace L10
open PySem PyProof.Rows L2 L3 LD
end L10
namespace L4
open PySem PySem.Spec PyProof.Rows L2 L3
end L4
namespace LD
open PySem PyProof.Rows L2 L3 L10
section
variable {prog:LR} {w:Mg} {A:L0} {E:Lf->Lm->Prop} {s:Lm}
theorem Ec {d:Lp} {o:Obj} {es:Array Na} {ep:Nat} {Q:Lf->Lm->Prop} (nd:(d==NM)=Lw) (g:s.heap.get? d=lD o) (c:o.ExactDict) (e:o.data= .dict es ep)
  (q:Q (.ref s.heap.objs.size) {s with heap:=s.heap.push {cls:= .type "dict_keyiterator",data:= .fields #[.ref d,.int 0 0,.int es.size 0,.int ep 0]}}):wpAny (model prog w) A (pyIter (.ref d)) Q E s:=by
 have ty:s.TypeIs (.ref d) "dict":=⟨o,g,c.1⟩;refine Xa ty F.slot_dict_iter (MN F.slot_dict_iter ty F.entry_dict_iter ?_ (F.args_dict_iter_1 _));unfold LJ.«dict.__iter__» LJ.Dict.dictSlotNone;refine Bn (Bn (Ob ty (Li ?_)));show wpAny _ _ (LJ.Dict.showsAll d>>=_) _ _ s;unfold LJ.Dict.showsAll;rw[if_neg (by rw[nd];exact LA)];refine Bn (Li (Bn (M0 g e (Bn (N3 g e ?_)))));refine Bn (Mb (Li ⟨_,rfl,"dict_keyiterator",_,⟨_,Heap.get?_push_size _ rfl,rfl⟩,F.slot_dict_keyiterator_next.lookup,?_⟩))
 simpa [rawInt] using q
theorem DS {it d:Lp} {o:Obj} {es:Array Na} {i ep:Nat} {x:Na} {Q:Option Lf->Lm->Prop} (ki:s.heap.IsKeyIter it d i es.size ep) (g:s.heap.get? d=lD o) (e:o.data= .dict es ep) (hx:es[i]? =lD x)
  (q:∀h',h'.IsKeyIter it d (i+1) es.size ep->Heap.SameBut it s.heap h'->Q (lD x.key) {s with heap:=h'}):wpAny (model prog w) A (pyNext (.ref it)) Q E s:=by
 obtain⟨t,h1,h2,h3⟩:=id ki;unfold pyNext;refine Bn (P8 (M9 (name:=Str.ofString "__next__") ki.typeIs F.slot_dict_keyiterator_next (MN F.slot_dict_keyiterator_next ki.typeIs F.entry_dict_keyiterator_next ?_ (F.args_dict_keyiterator_next_1 _))));refine Bn (Li (Bn (Bn ?_)));refine Bn (NW ki.typeIs (Li (Bn (QN h1 h3 ?_))));have ot:LJ.Dict_items.ownsTuple "dict_keyiterator"=Lw:=by decide
 simp only[ot,Lr,if_false];show wpAny _ _ (if(Lf.ref d==Lf.none)=Lk then _ else _) _ _ s;rw[if_neg (show¬((Lf.ref d==Lf.none)=Lk) from LA)];refine Bn (Li (Bn (M0 g e ?_)));rw[if_neg (by simp)];refine Bn (Li (Bn (N3 g e ?_)));rw[if_neg (by simp)];refine Li ?_;simp only[show¬((i:Int)<0) from by omega,if_false,MV,hx];refine Bn (Bn (NW ki.typeIs (Li ?_)));refine Bn (Vl ki.typeIs ?_);show wpAny _ _ (setField (.ref it) 1 (rawInt ((i:Int)+1))>>=_) _ _ s;refine Bn (QO h1 h3 (by simp) ?_)
 have k2:(s.heap.update it (Obj.mapFields (·.setIfInBounds 1 (rawInt ((i:Int)+1))))).IsKeyIter it d (i+1) es.size ep:=
  ⟨_,Heap.get?_update_self _ h1 (Obj.isFreed_of_fields (Obj.data_mapFields h3 _)),(Obj.cls_mapFields ..).trans h2,by rw[Obj.data_mapFields h3];simp[rawInt]⟩
 refine Bn (Nd (Bn (Vl (s:={s with heap:=s.heap.update it (Obj.mapFields (·.setIfInBounds 1 (rawInt ((i:Int)+1))))}) k2.typeIs ?_)));show wpAny _ _ (pure x.key) _ _ _;exact Li (Li ⟨_,rfl,Li (q _ k2 (Heap.SameBut.update ..))⟩)
theorem GS {it d:Lp} {o:Obj} {es:Array Na} {i ep:Nat} {Q:Option Lf->Lm->Prop} (hh:A.handled=Ld) (ki:s.heap.IsKeyIter it d i es.size ep) (g:s.heap.get? d=lD o) (e:o.data= .dict es ep) (hx:es.size<=i)
  (q:∀h',Heap.ExtBut it s.heap h'->Q Ld {s with heap:=h'}):wpAny (model prog w) A (pyNext (.ref it)) Q E s:=by
 obtain⟨t,h1,h2,h3⟩:=id ki;unfold pyNext;refine Bn (P8 (M9 (name:=Str.ofString "__next__") ki.typeIs F.slot_dict_keyiterator_next (MN F.slot_dict_keyiterator_next ki.typeIs F.entry_dict_keyiterator_next ?_ (F.args_dict_keyiterator_next_1 _))));refine Bn (Li (Bn (Bn ?_)));refine Bn (NW ki.typeIs (Li (Bn (QN h1 h3 ?_))));have ot:LJ.Dict_items.ownsTuple "dict_keyiterator"=Lw:=by decide
 simp only[ot,Lr,if_false];show wpAny _ _ (if(Lf.ref d==Lf.none)=Lk then _ else _) _ _ s;rw[if_neg (show¬((Lf.ref d==Lf.none)=Lk) from LA)];refine Bn (Li (Bn (M0 g e ?_)));rw[if_neg (by simp)];refine Bn (Li (Bn (N3 g e ?_)));rw[if_neg (by simp)];refine Li ?_;simp only[show¬((i:Int)<0) from by omega,if_false,MV,Sr hx];refine Bn (Bn (NW ki.typeIs (Li ?_)));show wpAny _ _ (setField (.ref it) 0 .none>>=_) _ _ s;refine Bn (QO h1 h3 (by simp) ?_);show wpAny _ _ (newExc (.type "StopIteration") []>>=_) _ _ _;simp only[newExc,newTuple];refine Bn (Bn (Mb ?_ (by size_fits)));refine Bn (m:=firstArgMember _ _) (P4 (a:=Lf.none) (by first|rfl|(simp only[firstArgMember];rfl)) ?_);refine Mb ?_ (by size_fits);simp only[raiseNew];refine Bn (aa6 ?_);rw[show A.in1.handled=Ld from hh];refine Bn (Li (wpAny_throw ?_));refine Bn (NT (T:= "StopIteration") (b:=Lk) ⟨_,Heap.get?_push_size _ rfl,rfl⟩ ZD ?_);exact Li (q _ (((Heap.SameBut.update ..).extBut.push _).push _))
end
noncomputable def xX (ob:Obj) (a:Lp) (xs:List (KD×Lp×V)):HO:= .Xs fun w h=>KO a xs w h/\h.get? a=lD ob
theorem Jb {P:LR} {w:Mg} {H H':Hp} {h:Heap} {a:Lp} {ob:Obj} {xs:List (KD×Lp×V)} (g:h.get? a=lD ob) (o:MY P w H' h a (DkO a xs)):MY P w H h a (xX ob a xs):=by obtain⟨p,_,_⟩:=o;refine⟨⟨p,g⟩,⟨ob,g⟩,?_⟩;rintro g1 g2 ⟨⟨q,o,es,ep,e1,e2⟩,e3⟩ st;exact⟨⟨q,o,es,ep,st o e1,e2⟩,st _ e3⟩
theorem FK {P:LR} {w:Mg} {H H':Hp} {h:Heap} {a:Lp} {ob:Obj} {xs:List (KD×Lp×V)} (o:MY P w H h a (xX ob a xs)):MY P w H' h a (DkO a xs):=by obtain⟨⟨p,g⟩,_,_⟩:=o;refine⟨p,⟨ob,g⟩,?_⟩;rintro g1 g2 ⟨q,o,es,ep,e1,e2⟩ st;exact⟨q,o,es,ep,st o e1,e2⟩
theorem xS {P:LR} {w:Mg} {H:Hp} {h:Heap} {a:Lp} {ob:Obj} {xs:List (KD×Lp×V)} (o:MY P w H h a (xX ob a xs)):(a==NM)=Lw/\ob.ExactDict/\h.get? a=lD ob/\∃es ep,ob.data= .dict es ep/\Paired (fun(x:KD×Lp×V) (e:Na)=>e.hash=k7 w x.1.1/\e.key= .ref x.2.1/\RelV x.2.2 e.val) xs es.toList:=by obtain⟨⟨⟨⟨_,n,_⟩,o,es,ep,e1,e2,e3,e4⟩,g⟩,_,_⟩:=o;rw[g] at e1;cases e1;exact⟨n,e2,g,es,ep,e3,e4⟩
theorem fH {α β:Type} {R:α->β->Prop}:∀{xs:List α} {ys:List β} {i:Nat} {x:α},Paired R xs ys->xs[i]? =lD x->∃y,ys[i]? =lD y/\R x y
 |_,_,_,_,.nil,e=>by simp at e
 |_,_,0,_,.cons h _,e=>by simp at e;subst e;exact⟨_,rfl,h⟩
 |_,_,i+1,_,.cons _ t,e=>by obtain⟨y,h1,h2⟩:=fH (i:=i) t (by simpa using e);exact⟨y,by simpa using h1,h2⟩
noncomputable def KA (ob:Obj) (a:Lp) (xs:List (KD×Lp×V)):It:=
 ⟨fun i H=>H a=lD (xX ob a xs)/\i<xs.length,fun i H x H'=>H'=H/\∃k b v,xs[i]? =lD (k,b,v)/\x= .ref b,fun i H=>H a=lD (xX ob a xs)/\xs.length<=i⟩
theorem yJ {P:LR} {w:Mg} {K:Lc} {tg:Mv} (a it:Lp) (ob:Obj) (es:Array Na) (ep:Nat) (Y3:ob.data= .dict es ep) (xs:List (KD×Lp×V)) (hl:es.size=xs.length):Turn P w K tg (KA ob a xs) [it] it (fun i h=>h.IsKeyIter it a i es.size ep) where
 mem:=by simp
 obj:=fun i h st b hb=>by
  have e:b=it:=by simpa using hb
  subst e;obtain⟨o,e,c,d⟩:=st;exact⟨o,e,fun v z=>by rw[d] at z;cases z⟩
 keep:=fun i h h' st k=>st.at fun o e=>k it (by simp) o e
 item:=by intro X hP hw hK hc i pins s σ H E I hf st hg;subst hP hw hK;obtain⟨hd,hi⟩:=hg;obtain⟨_,_,g,Wj,Yp,e,pr⟩:=xS (show MY X.prog X.w H s.heap a (xX ob a xs) from I.NO a _ hd);rw[Y3] at e;cases e;obtain⟨⟨k,b,v⟩,hx⟩:∃p,xs[i]? =lD p:=⟨xs[i],LB hi⟩;obtain⟨y,hy,_,ky,_⟩:=fH pr hx;obtain⟨f0,f1,f2,f3,f4,f5⟩:=hf it (by simp);refine DS st g Y3 (by rw[<-MG];exact hy) fun h' Sf sb=> ?_;have I1:Inv X pins σ H {s with heap:=h'}:=I.turned (t':=s.toks) (fun b o hb e=>(sb.2 b hb).trans e) f0 f1 f3 f4 f5;obtain⟨o',e',c',d'⟩:=id Sf;exact⟨_,rfl,sQ (s:={s with heap:=h'}) e' c' d' (by decide) ⟨.ref b,H,I1,ky,⟨rfl,k,b,v,hx,rfl⟩,Sf,fun b hb=>(hf b hb).1⟩⟩
 done:=by intro X hP hw hK hc i pins s σ H E I hf st hg;subst hP hw hK;obtain⟨hd,hi⟩:=hg;obtain⟨_,_,g,Wj,Yp,e,pr⟩:=xS (show MY X.prog X.w H s.heap a (xX ob a xs) from I.NO a _ hd);rw[Y3] at e;cases e;obtain⟨f0,f1,f2,f3,f4,f5⟩:=hf it (by simp);exact GS (I.ok.hd hc) st g Y3 (by omega) fun h' eb=>⟨rfl,I.turned (t':=s.toks) (fun b o hb e=>eb b o hb e) f0 f1 f3 f4 f5⟩
 self:=fun _ _ _ _ _ st h=>wpAny_pyIter_keyiter st h
def Bq (tv:TE):TI:=fun σ H R=>tv σ H fun x H1=>∃a xs,x= .ref a/\H1 a=lD (DkO a xs)/\∀ob,R (KA ob a xs) (upd H1 a (xX ob a xs))
def Fy (t:TE):TE:=fun σ H Q=>t σ H fun x H1=>∃a ob xs,H1 a=lD (xX ob a xs)/\Q x (upd H1 a (DkO a xs))
def Ah (K:Lc) (td ty:TE):TE:=fun σ H Q=>td σ H fun x H1=>ty σ H1 fun y H2=>∃a b ob xs k v,x= .ref a/\y= .ref b/\H2 a=lD (xX ob a xs)/\jU K (upd H2 a (DkO a xs)) xs/\L2.DV K (upd H2 a (DkO a xs)) (.ref b) k.1/\iY xs k=lD v/\Q v H2
section
variable {X:Cx} {tg:Mv}
theorem UO {l:Mv} {tl:TE} (hl:PE X l tl):PI X tg l (Bq tl):=by
 intro pins s σ H R I h;refine ce (hl pins s σ H _ I h) fun v s1 ⟨x,H1,I1,r1,q1⟩=> ?_;obtain⟨a,xs,e,hd,q⟩:=q1;subst e;cases r1;have od:MY X.prog X.w H1 s1.heap a (DkO a xs):=I1.NO a _ hd;obtain⟨⟨⟨z,y,nd⟩,ob,es,ep,e,c1,c2,c3⟩,_⟩:=id od;have hsz:es.size=xs.length:=by rw[Paired.length c3,L5]
 refine Ec y e c1 c2 ?_;have k:∀b o,s1.heap.get? b=lD o->(s1.heap.push {cls:= .type "dict_keyiterator",data:= .fields #[.ref a,.int 0 0,.int es.size 0,.int ep 0]}).get? b=lD o:=fun b o e=>Heap.get?_push_of_some _ e;have I2:=I1.kept (t':=s1.toks) k;have I3:=I2.write (x:=a) (e:=a) (o:=xX ob a xs) (t':=s1.toks) (h':=s1.heap.push {cls:= .type "dict_keyiterator",data:= .fields #[.ref a,.int 0 0,.int es.size 0,.int ep 0]}) (by rw[hd];trivial) (.inl rfl) (fun b u _ e=>e) ⟨ob,k _ _ e⟩ (Jb (k _ _ e) (show MY X.prog X.w H1 _ a (DkO a xs) from I2.NO a _ hd));refine⟨s1.heap.objs.size,[s1.heap.objs.size],_,_,_,rfl,I3,yJ a _ ob es ep c2 xs hsz,⟨_,Heap.get?_push_size _ rfl,rfl,rfl⟩,fun b hb=> ?_,q ob⟩;have e:b=s1.heap.objs.size:=by simpa using hb
 subst e;have hn:=I1.NO.fresh (Ll s1.heap.objs.size);refine I1.TQ (Ll _) ?_;rw[az (fun z=>by rw[z,hd] at hn;cases hn)];exact hn
theorem VO {l:Mv} {tl:TE} (hl:PE X l tl):PE X l (Fy tl):=by intro pins s σ H Q I h;refine ce (hl pins s σ H _ I h) fun v s1 ⟨x,H1,I1,r1,a,ob,xs,hd,q⟩=> ?_;have o:=(show MY X.prog X.w H1 s1.heap a (xX ob a xs) from I1.NO a _ hd);exact⟨x,_,I1.write (x:=a) (e:=a) (o:=DkO a xs) (t':=s1.toks) (h':=s1.heap) (by rw[hd];trivial) (.inl rfl) (fun b u _ e=>e) ⟨ob,(xS o).2.2.1⟩ (FK o),r1,q⟩
theorem U6 {o i:Mv} {pos:Pos} {td ty:TE} (hu:X.A.units+64<cLine) (ho:PE X o td) (hi:PE X i ty) (hs:GM i):PE X (.Subscript o i pos) (Ah X.K td ty):=by intro pins s σ H Q I h;refine xg Rn.lookup hs (ce (ho pins s σ H _ I h) fun u s1 ⟨x,H1,I1,rx,q1⟩=>ce (hi pins s1 σ H1 _ I1 q1) fun iv s2 ⟨y,H2,I2,ry,a,b,ob,xs,k,v,ex,ey,e,ks,kb,g,q2⟩=> ?_);subst ex ey;obtain rfl:u=Lf.ref a:=rx;obtain rfl:iv=Lf.ref b:=ry;have oo:=(show MY X.prog X.w H2 s2.heap a (xX ob a xs) from I2.NO a _ e);have I3:=I2.write (x:=a) (e:=a) (o:=DkO a xs) (t':=s2.toks) (h':=s2.heap) (by rw[e];trivial) (.inl rfl) (fun b u _ e=>e) ⟨ob,(xS oo).2.2.1⟩ (FK oo);refine⟨(i7 I3 aB).1,?_⟩;obtain⟨z,hd,ys,rel,dd⟩:=mU I3 aB ks;obtain⟨w',hw,S7⟩:=Q0.some_of (v:=v) (o:=(atKey ys k).map (·.2)) (by rw[<-g];exact jH rel);obtain⟨p,hp,YC⟩:=Mo.mp hw;refine Wt (gU hu) (iw I3 kb) dd hp ?_;rw[YC];exact⟨v,H2,I2.tok _,S7,q2⟩
end
noncomputable def restOf (Mj:List (D×D)) (k:D):Option D:=match bw Mj k with
 |some (.tuple (x::_))=>lD (.tuple [k,x])
 |_=>Ld
noncomputable def Rg (Mj:List (D×D)):Option (List D):=if Mj.length<1000000 then aw (restOf Mj) (Mj.map (·.1)) else Ld
noncomputable def RM (j:Nat):c7:=fun ρ ω=>(bV j ρ ω).bind fun o ω1=>(RS.ME ω1 (gB ω1 o)).bind fun p ω1=>(RS.ME ω1 (Rg p.2)).bind fun ds ω1=> .ok (.rf ω1.length) (ω1++[.lst (ds.map SV.fz)])
theorem mK {α β:Type} {f:α->Option β}:∀{l:List α} {m:List β} {i:Nat} {x:α},aw f l=lD m->l[i]? =lD x->∃y,m[i]? =lD y/\f x=lD y
 |[],_,_,_,_,e=>by simp at e
 |a::l,m,i,x,h,e=>by
  unfold aw at h;cases q:f a with
  |none=>rw[q] at h;cases h
  |some y=>
   rw[q] at h;dsimp only at h;cases q2:aw f l with
   |none=>rw[q2] at h;cases h
   |some ys=>
    rw[q2] at h;cases h;cases i with
    |zero=>simp at e;subst e;exact⟨y,rfl,q⟩
    |succ i=>obtain⟨z,h1,h2⟩:=mK q2 (by simpa using e);exact⟨z,by simpa using h1,h2⟩
theorem mh {α β:Type} {f:α->Option β}:∀{l:List α} {m:List β},aw f l=lD m->m.length=l.length
 |[],_,h=>by cases h;rfl
 |a::l,m,h=>by
  unfold aw at h;cases q:f a with
  |none=>rw[q] at h;cases h
  |some y=>
   rw[q] at h;dsimp only at h;cases q2:aw f l with
   |none=>rw[q2] at h;cases h
   |some ys=>rw[q2] at h;cases h;rw[Lu,Lu,mh q2]
theorem ut {O:bu} {K:Lc} {H:Hp} {v:V} {d:D} (h:L3.DV O K H v d):∀{vs:List V} {ds:List D},L3.Nc O K H vs ds->L3.Nc O K H (vs++[v]) (ds++[d])
 |_,_,.nil=> .cons h .nil
 |_,_,.cons a t=> .cons a (ut h t)
theorem vK {O:bu} {K:Lc} {H:Hp} {α:List Lp}:∀{vs:List V} {ds:List D},L3.Nc O K H vs ds->N6 O K H α vs (ds.map SV.fz)
 |_,_,.nil=> .nil
 |_,_,.cons a t=> .cons a (vK t)
section
variable {K:Lc} {E:XK}
theorem TL {x y:Str} {j:Nat}:d5 K E (Fy (oG [x] [(y,j)] (Bq (oi j)) (o0 0) tw (Hr (gI (oi 0) (gI (F4 (G8 K) (Ah K (oi 1) (oi 0)) (tC (.int 0))) nV))))) (RM j):=by
 intro B σ H α ω ρ Q s sl w;unfold RM bV at w;cases q:ρ[j]? with
 |none=>rw[q] at w;exact w.elim
 |some o=>
  cases o with
  |none=>rw[q] at w;exact w.elim
  |some z=>
   rw[q] at w;obtain⟨v,h1,h2⟩:=sl.2 j z q;obtain⟨⟨i0,Mj⟩,q2,w⟩:=WS.ME w;obtain⟨ds,q3,w⟩:=WS.ME w;obtain⟨qi,a,xs,ha,rfl,g1,g2⟩:=jp s h2 q2;unfold Rg at q3;dsimp only at q3;by_cases hm:Mj.length<1000000
   case neg=>rw[if_neg hm] at q3;cases q3
   rw[if_pos hm] at q3;have hl:xs.length=Mj.length:=Paired.length g2;have hdl:ds.length=xs.length:=by rw[mh q3,Lh,hl]
   have oa:ow B α ω a:= .inr ⟨i0,_,ha,qi,by intro z;cases z⟩;refine⟨_,h1,a,xs,rfl,g1,fun ob D hD=> ?_⟩;have Da:D≠a:=fun e=>by rw[e,aB] at hD;cases hD
   have XS:H D=Ld:=by rw[az Da] at hD;exact hD
   have big:(1000000:Nat)<=LL:=by decide
   have ev:∀{H':Hp},(∀b o,b≠a->H b=lD o->H' b=lD o)->Ev (ow B α ω) H (ow (bC B D) α ω) H':=fun k b o h n=>
    ⟨k b o (fun e=>n (by rw[e];exact oa)) h,fun z=>by
     rcases z with(z|z)|z
     ·exact n (.inl z)
     ·rw[z,XS] at h;cases h
     ·exact n (.inr z)⟩
   have fresh:∀{H':Hp} {p:Lp},(∀b o,b≠a->H b=lD o->H' b=lD o)->H' a≠Ld->H' D≠Ld->H' p=Ld->¬ow (bC B D) α ω p:=fun{H' p} k ka kD hp z=>by
    have np:p≠a:=fun e=>ka (by rw[<-e];exact hp);have hn:∀{b:Lp},H b≠Ld->b≠a->H' b≠Ld:=fun{b} h n e=>by
     cases q:H b with
     |none=>exact h q
     |some o=>rw[k b o n q] at e;cases e
    rcases z with(z|z)|⟨i,c,z,_⟩
    ·exact hn (s.bn p z) np hp
    ·exact kD (by rw[<-z];exact hp)
    ·exact hn (s.al i p z) np hp
   refine EF xs.length (fun n σ' H'=>(∃u,σ'=[u,lD (.ref a)])/\H' a=lD (xX ob a xs)/\(∀b o,b≠a->H b=lD o->H' b=lD o)/\∃ys,H' D=lD (.lst ys)/\ys.length=n/\L3.Nc (ow (bC B D) α ω) K H' ys (ds.take n)) ?_ ?_ ?_ ?_ ?_
   ·refine⟨⟨Ld,?_⟩,by rw[az Da.symm,aB],fun b o nb h=> ?_,[],aB,rfl,.nil⟩
    ·show dY [x] [(y,j)] σ=_;unfold dY;simp[h1]
    ·rw[az (fun e=>by rw[e,XS] at h;cases h),az nb];exact h
   ·rintro i σ' H' hi ⟨_,h,_⟩;exact⟨h,hi⟩
   ·rintro σ' H' ⟨_,h,_⟩;exact⟨h,Ll _⟩
   ·rintro i σ' H' x' H3 hi ⟨⟨u,rfl⟩,e1,e2,ys,e3,e4,e5⟩ ⟨rfl,k,b,v,hx,rfl⟩
    unfold o0 tw;dsimp only;rw[if_pos rfl];obtain⟨⟨kd,vd⟩,hkv,p1,p2,p3⟩:=fH g2 hx;dsimp only at p1 p2 p3;obtain⟨r,hr,rr⟩:=mK q3 (by rw[Ls,hkv];rfl);dsimp only at rr;have prd:PrD (ow (bC B D) α ω) K (upd H3 a (DkO a xs)) xs Mj:=Paired.Ph g2 fun _ _ t=>⟨t.1,t.2.1.ev (ev fun b o nb h=>by rw[az nb];exact e2 b o nb h),t.2.2.ev (ev fun b o nb h=>by rw[az nb];exact e2 b o nb h)⟩;unfold restOf at rr;rw[<-p1] at rr;cases gd:bw Mj k.1 with
    |none=>rw[gd] at rr;cases rr
    |some d=>
     rw[gd] at rr;obtain⟨vv,gx,dv⟩:=(gG (k:=k) g2).1 d gd;cases d with
     |tuple l=>
      cases l with
      |nil=>cases rr
      |cons x0 l=>
       cases rr;have dv:=dv.ev (ev e2);cases dv with
       | @tup p us _ sq hs=>
        cases hs with
        | @cons u0 _ We _ d0 ht=>
         have db:L3.DV (ow (bC B D) α ω) K H3 (.ref b) k.1:=by rw[p1];exact p2.ev (ev e2)
         refine⟨.ref b,rfl,.ref a,rfl,.ref b,rfl,a,b,ob,xs,k,_,rfl,rfl,e1,mC prd,?_,gx,p,_,0,u0,rfl,rfl,sq.1,A2 (YQ 0) rfl,?_⟩
         ·have:=(p2.ev (ev (H':=upd H3 a (DkO a xs)) fun b o nb h=>by rw[az nb];exact e2 b o nb h)).plain;rw[<-p1] at this;exact this
         ·refine⟨by show 2<=_;omega,fun t VA=> ?_⟩
          have ta:t≠a:=fun e=>by rw[e,e1] at VA;cases VA
          have tD:t≠D:=fun e=>by rw[e,e3] at VA;cases VA
          have nt:=fresh e2 (by rw[e1];simp) (by rw[e3];simp) VA;refine⟨ys,by rw[az tD.symm];exact e3,by omega,⟨_,rfl⟩,by rw[az Da.symm,az ta.symm];exact e1,fun c o nc h=> ?_,ys++[.ref t],aB,by simp[e4],?_⟩
          ·have:=e2 c o nc h;rw[az (fun e=>by rw[e,XS] at h;cases h),az (fun e=>by rw[e,VA] at this;cases this)];exact this
          ·have ev5:Ev (ow (bC B D) α ω) H3 (ow (bC B D) α ω) (upd (upd H3 t (.tup [.ref b,u0])) D (.lst (ys++[.ref t]))):=fun c o h n=>
            ⟨by rw[az (fun e=>n (.inl (.inr e))),az (fun e=>by rw[e,VA] at h;cases h)];exact h,n⟩
           have et:ds.take (i+1)=ds.take i++[.tuple [k.1,x0]]:=by rw[QQ,hr];rfl
           rw[et];refine ut (.tup ⟨.inl (.inl ?_),fun z=>absurd z nt⟩ (.cons (db.ev ev5) (.cons (d0.ev ev5) .nil))) (e5.ev ev5);rw[az tD,aB]
     |_=>cases rr
   ·rintro σ' H' ⟨_,e1,e2,ys,e3,e4,e5⟩
    refine⟨a,ob,xs,e1,?_⟩;have sm:Nk H (upd H' a (DkO a xs)):=fun b o h=>by
     by_cases nb:b=a
     ·subst nb;rw[aB];rw[g1] at h;exact h
     ·rw[az nb];exact e2 b o nb h
    have eD:(upd H' a (DkO a xs)) D=lD (.lst ys):=by rw[az Da];exact e3
    have eo:ow (bC B D) α ω=ow B (α++[D]) (ω++[.lst (ds.map SV.fz)]):=sZ s.len (by intro z;cases z);have dv:L3.Nc (ow B (α++[D]) (ω++[.lst (ds.map SV.fz)])) K (upd H' a (DkO a xs)) ys ds:=by rw[<-eo];have t:ds.take xs.length=ds:=MX (by omega);rw[t] at e5;exact e5.ev fun b o h n=>⟨by rw[az (fun e=>n (by rw[e];rcases oa with z|z;exact .inl (.inl z);exact .inr z))];exact h,n⟩
    exact w (α++[D]) _ (Nq.RE s.len sm XS) (s.RE sm XS (by rw[eD];simp) ⟨ys,eD,vK dv⟩) (.ref D) ⟨D,by rw[<-s.len];exact aU,rfl⟩
end
end LD
namespace TS
open PySem PyProof.Rows
set_option autoImplicit true
def fR (M:Zw) (A:L0) (E:Lf->Lm->Prop) (J:Lm->Prop) {σ α:Type} (m:StateT σ Sem α) (Q:α->σ->Prop) (st:σ):Prop:=
 ∀s,J s->wpAny M A (m.run st) (fun r z=>J z/\Q r.1 r.2) E s
section
variable {M:Zw} {A:L0} {E:Lf->Lm->Prop} {J:Lm->Prop} {σ:Type}
theorem aj {α:Type} {a:α} {Q:α->σ->Prop} {st:σ} (h:Q a st):fR M A E J (pure a:StateT σ Sem α) Q st:=by intro s j;rw[StateT.run_pure];exact Li ⟨j,h⟩
theorem ag {α β:Type} {m:StateT σ Sem α} {f:α->StateT σ Sem β} {Q:β->σ->Prop} {st:σ}
  (h:fR M A E J m (fun a Sf=>fR M A E J (f a) Q Sf) st):fR M A E J (m>>=f) Q st:=by
 intro s j;rw[StateT.run_bind];exact Bn (wpAny_mono (h s j) (fun r z q=>q.2 z q.1) fun _ _ e=>e)
theorem bz {α:Type} {m:StateT σ Sem α} {Q R:α->σ->Prop} {st:σ} (h:fR M A E J m Q st) (q:∀a Sf,Q a Sf->R a Sf):fR M A E J m R st:=
 fun s j=>wpAny_mono (h s j) (fun r _ z=>⟨z.1,q _ _ z.2⟩) fun _ _ e=>e
theorem eW {Q:σ->σ->Prop} {st:σ} (h:Q st st):fR M A E J (get:StateT σ Sem σ) Q st:=by intro s j;rw[StateT.run_get];exact Li ⟨j,h⟩
theorem FQ {Q:PUnit->σ->Prop} {st x:σ} (h:Q ⟨⟩ x):fR M A E J (set x:StateT σ Sem PUnit) Q st:=by intro s j;rw[StateT.run_set];exact Li ⟨j,h⟩
theorem gj {f:σ->σ} {Q:PUnit->σ->Prop} {st:σ} (h:Q ⟨⟩ (f st)):fR M A E J (modify f:StateT σ Sem PUnit) Q st:=by intro s j;rw[StateT.run_modify];exact Li ⟨j,h⟩
theorem ja {n:String} {Q:PUnit->σ->Prop} {st:σ} (h:Q ⟨⟩ st):fR M A E J (liftM (rule n):StateT σ Sem PUnit) Q st:=by intro s j;show wpAny M A ((StateT.lift (rule n):StateT σ Sem PUnit).run st) _ E s;rw[StateT.run_lift];exact Bn (Qu (Li ⟨j,h⟩))
theorem cK {β:Type} {a b:Nat} {f:Nat->β->StateT σ Sem (ForInStep β)} (I:Nat->β->σ->Prop) {Q:β->σ->Prop}
  (hs:∀i c st,a<=i->i<b->I i c st->fR M A E J (f i c) (fun r z=>match r with| .done d=>Q d z| .yield d=>I (i+1) d z) st)
  (he:∀c st,I (max a b) c st->Q c st) {c:β} {st:σ} (h:I a c st):fR M A E J (forIn [a:b] c f) Q st:=by
 rw[Std.Legacy.Range.forIn_eq_forIn_range'];have sz:([a:b]:Std.Legacy.Range).size=b - a:=by simp[Std.Legacy.Range.size]
 show fR M A E J (forIn (XJ a ([a:b]:Std.Legacy.Range).size 1) c f) Q st;rw[sz];have go:∀(n i:Nat) (c:β) (st:σ),a<=i->i+n=max a b->I i c st->fR M A E J (forIn (XJ i n 1) c f) Q st:=by
  intro n
  induction n with
  |zero=>intro i c st _ e h;rw[List.range'_zero,V8];exact aj (he _ _ (by rw[<-e];exact h))
  |succ n ih=>
   intro i c st ai e h;rw[List.range'_succ,Rm];refine ag (bz (hs i c st ai (by omega) h) fun r z q=> ?_);cases r with
   |done d=>exact aj q
   |yield d=>exact ih (i+1) d z (by omega) (by omega) q
 exact go _ a c st (Ll _) (by omega) h
end
structure Ask (prog:LR) (w:Mg) (A:L0) (E:Lf->Lm->Prop) (J:Lm->Prop) (κ:SortKind) (S:Keyed->Prop) (f:Keyed->Nat):Prop where
 ask:∀x y s,S x->S y->J s->wpAny (model prog w) A (keyLt' κ x.1 y.1) (fun b z=>b=decide (f x<f y)/\J z) (fun _ _=>False) s
noncomputable def R (f:Keyed->Nat) (xs:Array Keyed) (i:Nat):Nat:=match xs[i]? with
 |some p=>f p
 |none=>0
theorem cT {f:Keyed->Nat} {xs ys:Array Keyed} {i j:Nat} (h:xs[i]? =ys[j]?):R f xs i=R f ys j:=by unfold R;rw[h]
theorem RD {f:Keyed->Nat} {xs:Array Keyed} {i:Nat} (h:i<xs.size):R f xs i=f xs[i]:=by unfold R;rw[getElem?_pos xs i h]
structure Gd (κ:SortKind) (a₀:Array Keyed) (st:SortSt):Prop where
 kind:kindOf st=κ
 failed:failedOf st=Ld
 perm:(arrOf st).Perm a₀
theorem Gd.size {κ:SortKind} {a₀:Array Keyed} {st:SortSt} (g:Gd κ a₀ st):(arrOf st).size=a₀.size:=g.perm.size_eq
theorem Gd.mem {κ:SortKind} {a₀:Array Keyed} {st:SortSt} (g:Gd κ a₀ st) {i:Nat} (h:i<(arrOf st).size):(arrOf st)[i]∈a₀.toList:=
 (N4.mp g.perm).mem_iff.mp (by simp)
theorem Gd.arr {κ:SortKind} {a₀:Array Keyed} {st:SortSt} (g:Gd κ a₀ st) {xs:Array Keyed} (h:xs.Perm (arrOf st)):Gd κ a₀ (setArr st xs):=
 ⟨g.kind,g.failed,h.trans g.perm⟩
def So (f:Keyed->Nat) (xs:Array Keyed) (a b:Nat):Prop:=∀i j,a<=i->i<=j->j<b->R f xs i<=R f xs j
section
variable {prog:LR} {w:Mg} {A:L0} {E:Lf->Lm->Prop} {J:Lm->Prop} {κ:SortKind} {a₀:Array Keyed} {f:Keyed->Nat}
theorem sF (C:Ask prog w A E J κ (·∈a₀.toList) f) {x y:Keyed} (hx:x∈a₀.toList) (hy:y∈a₀.toList) {st:SortSt} (k:kindOf st=κ) {Q:Option Bool->SortSt->Prop}
  (h:Q (lD (decide (f x<f y))) st):fR (model prog w) A E J (lt' x y) Q st:=by
 rw[lt'_eq];refine ag (eW (ag ?_));intro s j;rw[k];show wpAny _ A ((StateT.lift ((keyLt' κ x.1 y.1).attempt):StateT SortSt Sem _).run st) _ E s;rw[StateT.run_lift];refine Bn (P8 (wpAny_mono (C.ask x y s hx hy j) ?_ fun _ _ e=>e.elim));rintro b z ⟨rfl,j'⟩;exact Li ⟨j',aj h⟩
theorem bi {xs:Array Keyed} {i:Nat} {x:Keyed} (e:xs[i]? =lD x) {st:SortSt} {Q:Keyed->SortSt->Prop} (h:Q x st):fR (model prog w) A E J (elem' xs i) Q st:=by rw[elem'_eq,e];exact aj h
theorem ke (C:Ask prog w A E J κ (·∈a₀.toList) f) {st:SortSt} (g:Gd κ a₀ st) {i j:Nat} (hi:i<a₀.size) (hj:j<a₀.size) {Q:Option Bool->SortSt->Prop}
  (h:Q (lD (decide (R f (arrOf st) i<R f (arrOf st) j))) st):fR (model prog w) A E J (ltAt' i j) Q st:=by
 rw[ltAt'_eq];rw[<-g.size] at hi hj;rw[RD hi,RD hj] at h;refine ag (eW ?_);dsimp only;refine ag (bi (getElem?_pos (arrOf st) i hi) (ag (bi (getElem?_pos (arrOf st) j hj) ?_)));exact sF C (g.mem hi) (g.mem hj) g.kind h
theorem qU {st:SortSt} {i j:Nat} {Q:Unit->SortSt->Prop} (h:Q () (setArr st (mirror (arrOf st) i j ((j - i)/2)))):
  fR (model prog w) A E J (reverseSlice' i j) Q st:=by
 rw[reverseSlice'_eq];exact gj h
theorem nA {xs:Array Keyed} {i j:Nat} (hj:j<=xs.size) (k:Nat):
  R f (mirror xs i j ((j - i)/2)) k=if i<=k/\k<j then R f xs (i+j - 1 - k) else R f xs k:=by
 have e:=getElem?_mirror_all (i:=i) hj k;split<;>rename_i h<;>simp only[h,if_true,if_false,not_false_eq_true] at e<;>exact cT (by simpa [h] using e)
theorem ug {xs:Array Keyed} {src d:Nat} (hs:src<xs.size) (hd:d<=src) (k:Nat):
  R f (bubble xs src d) k=if k=src - d then R f xs src else if src - d<k/\k<=src then R f xs (k - 1) else R f xs k:=by
 have e:=getElem?_bubble hs d hd k;split
 ·rw[if_pos (by assumption)] at e;exact cT e
 ·rw[if_neg (by assumption)] at e
  split
  ·rw[if_pos (by assumption)] at e;exact cT e
  ·rw[if_neg (by assumption)] at e;exact cT e
end
end TS
namespace TS
open PySem PyProof.Rows
set_option autoImplicit true
section
variable {prog:LR} {w:Mg} {A:L0} {E:Lf->Lm->Prop} {J:Lm->Prop} {κ:SortKind} {a₀:Array Keyed} {f:Keyed->Nat}
structure Up (κ:SortKind) (a₀:Array Keyed) (f:Keyed->Nat) (lo:Nat) (st z:SortSt):Prop where
 gd:Gd κ a₀ z
 pend:pendingOf z=pendingOf st
 low:∀k,k<lo->(arrOf z)[k]? =(arrOf st)[k]?
theorem Up.rfl {lo:Nat} {st:SortSt} (g:Gd κ a₀ st):Up κ a₀ f lo st st:=⟨g,Eq.refl _,fun _ _=>Eq.refl _⟩
theorem Up.Zr {lo i j:Nat} {st z:SortSt} (u:Up κ a₀ f lo st z) (hi:lo<=i) (hj:j<=a₀.size):Up κ a₀ f lo st (setArr z (mirror (arrOf z) i j ((j - i)/2))):=
 ⟨u.gd.arr (mirror_perm _ _ _ _),u.pend,fun k hk=>by show(mirror (arrOf z) i j ((j - i)/2))[k]? =_;rw[getElem?_mirror_all (by rw[u.gd.size];exact hj),if_neg (by omega)];exact u.low k hk⟩
theorem El (C:Ask prog w A E J κ (·∈a₀.toList) f) {st:SortSt} {lo n ok:Nat} {Q:Bool->SortSt->Prop} (hn:lo+n<=a₀.size) (NO:ok<=n) (g:Gd κ a₀ st) (hs:So f (arrOf st) lo (lo+ok))
  (h:∀z,Up κ a₀ f lo st z->So f (arrOf z) lo (lo+n)->Q Lk z):fR (model prog w) A E J (binarySort' lo n ok) Q st:=by
 rw[binarySort'_eq];refine ag (bz (cK (I:=fun k c z=>c=(Ld,())/\Up κ a₀ f lo st z/\So f (arrOf z) lo (lo+min k n))
  (Q:=fun c z=>c=(Ld,())/\Up κ a₀ f lo st z/\So f (arrOf z) lo (lo+n)) ?step ?fin ?init) ?post)
 case post=>rintro c z ⟨rfl,u,k⟩;exact aj (h z u k)
 case init=>
  refine⟨rfl,.rfl g,fun i j h1 h2 h3=> ?_⟩;by_cases o:ok=0
  ·have:i=j:=by omega
   subst this;exact Ll _
  ·exact hs i j h1 h2 (by omega)
 case fin=>
  rintro c z ⟨hc,u,k⟩;refine⟨hc,u,?_⟩;rwa [show min (max (max ok 1) n) n=n by omega] at k
 case step=>
  rintro k c z ak kn ⟨rfl,u,q⟩;rw[show min k n=k by omega] at q;have k1:k<n:=by omega
  clear ak kn;refine ag (bz (cK (I:=fun x c y=>y=z/\∃l r,c=(Ld,l,r)/\l<=r/\r<=k/\r - l<=k - x/\
    (∀i,i<l->R f (arrOf z) (lo+i)<=R f (arrOf z) (lo+k))/\(∀i,r<=i->i<k->R f (arrOf z) (lo+k)<R f (arrOf z) (lo+i)))
   (Q:=fun c y=>y=z/\∃l r,c=(Ld,l,r)/\l<=k/\
    (∀i,i<l->R f (arrOf z) (lo+i)<=R f (arrOf z) (lo+k))/\(∀i,l<=i->i<k->R f (arrOf z) (lo+k)<R f (arrOf z) (lo+i))) ?is ?ifn ?ii) ?ip)
  case ii=>exact⟨rfl,0,k,rfl,by omega,by omega,by omega,fun i hi=>by omega,fun i h1 h2=>by omega⟩
  case ifn=>
   rintro c y ⟨rfl,l,r,rfl,lr,rk,m,p1,p2⟩;have:l=r:=by omega
   subst this;exact⟨rfl,l,l,rfl,rk,p1,p2⟩
  case is=>
   rintro x c y _ xk ⟨rfl,l,r,rfl,lr,rk,m,p1,p2⟩;dsimp only;by_cases ge:l≥r
   ·rw[if_pos ge]
    have:l=r:=by omega
    subst this;exact aj ⟨rfl,l,l,rfl,rk,p1,p2⟩
   ·rw[if_neg ge]
    refine ag (ke C u.gd (by omega) (by omega) ?_);by_cases less:R f (arrOf y) (lo+k)<R f (arrOf y) (lo+(l+r)/2)
    ·simp only[less,decide_true,if_true];refine aj ⟨rfl,l,(l+r)/2,rfl,by omega,by omega,by omega,p1,fun i h1 h2=> ?_⟩;exact LQ less (q _ _ (by omega) (by omega) (by omega))
    ·simp only[less,decide_false,Lr,if_false];refine aj ⟨rfl,(l+r)/2+1,r,rfl,by omega,by omega,by omega,fun i h1=> ?_,p2⟩;exact LF (q (lo+i) (lo+(l+r)/2) (by omega) (by omega) (by omega)) (NN less)
  case ip=>
   rintro c y ⟨rfl,l,r,rfl,lk,p1,p2⟩;show fR _ _ _ _ (do moveDown' (lo+k) (lo+l);pure (ForInStep.yield (Ld,()))) _ _;rw[moveDown'_eq];have ks:lo+k<(arrOf y).size:=by rw[u.gd.size];omega
   refine ag (gj (aj ⟨rfl,⟨u.gd.arr (bubble_perm _ _ _),u.pend,fun i hi=> ?_⟩,?_⟩))
   ·show(bubble (arrOf y) (lo+k) (lo+k - (lo+l)))[i]? =_;rw[getElem?_bubble ks _ (by omega),if_neg (by omega),if_neg (by omega)];exact u.low i hi
   rw[show min (k+1) n=k+1 by omega];intro i j a1 a2 a3;show R f (bubble (arrOf y) (lo+k) (lo+k - (lo+l))) i<=R f (bubble (arrOf y) (lo+k) (lo+k - (lo+l))) j;rw[ug ks (by omega),ug ks (by omega),show lo+k - (lo+k - (lo+l))=lo+l by omega];have P1:∀i,lo<=i->i<lo+l->R f (arrOf y) i<=R f (arrOf y) (lo+k):=fun i h1 h2=>by have:=p1 (i - lo) (by omega);rwa [show lo+(i - lo)=i by omega] at this
   have P2:∀i,lo+l<=i->i<lo+k->R f (arrOf y) (lo+k)<=R f (arrOf y) i:=fun i h1 h2=>by have:=p2 (i - lo) (by omega) (by omega);rw[show lo+(i - lo)=i by omega] at this;omega
   repeat' split
   all_goals first
    |(exfalso;omega)
    |exact Ll _
    |exact P1 _ (by omega) (by omega)
    |exact P2 _ (by omega) (by omega)
    |exact q _ _ (by omega) (by omega) (by omega)
end
end TS
namespace TS
open PySem PyProof.Rows
set_option autoImplicit true
noncomputable def Fc:Bool->Keyed->Array Keyed->Nat->Nat->Nat->StateT SortSt Sem (Option Nat):=sortPriv% PySem.Builtin.gallop
noncomputable def J8 (left:Bool) (key:Keyed) (arr:Array Keyed) (base i:Nat):StateT SortSt Sem (Option Bool):=do
 let x<-elem' arr (base+i)
 if left then lt' x key else return(<-lt' key x).map (!·)
section
variable {prog:LR} {w:Mg} {A:L0} {E:Lf->Lm->Prop} {J:Lm->Prop} {κ:SortKind} {a₀:Array Keyed} {f:Keyed->Nat}
noncomputable def Bt (f:Keyed->Nat) (left:Bool) (key:Keyed) (x:Keyed):Bool:=if left then decide (f x<f key) else decide (f x<=f key)
theorem HK (C:Ask prog w A E J κ (·∈a₀.toList) f) {left:Bool} {key x:Keyed} {arr:Array Keyed} {base i:Nat} {st:SortSt} (k:kindOf st=κ) (hk:key∈a₀.toList) (hx:x∈a₀.toList) (e:arr[base+i]? =lD x) {Q:Option Bool->SortSt->Prop}
  (h:Q (lD (Bt f left key x)) st):fR (model prog w) A E J (J8 left key arr base i) Q st:=by
 unfold J8;refine ag (bi e ?_);cases left with
 |true=>simp only[if_true];exact sF C hx hk k h
 |false=>
  simp only[Lr,if_false];refine ag (sF C hk hx k (aj ?_));have:Tc (fun x=> !x) (lD (decide (f key<f x)))=lD (Bt f Lw key x):=by
   unfold Bt;simp only[Lr,if_false,Tc];congr 1;by_cases q:f key<f x
   ·rw[decide_eq_true q,decide_eq_false (by omega)];rfl
   ·rw[decide_eq_false q,decide_eq_true (by omega)];rfl
  rw[this];exact h
theorem kJ (C:Ask prog w A E J κ (·∈a₀.toList) f) {left:Bool} {key:Keyed} {arr:Array Keyed} {base n hint:Nat} {st:SortSt} (k:kindOf st=κ) (hk:key∈a₀.toList)
  (B:Nat->Bool) (hb:∀i,i<n->∃x,x∈a₀.toList/\arr[base+i]? =lD x/\B i=Bt f left key x) (hm:∀i j,i<=j->j<n->B j=Lk->B i=Lk) (hh:hint<n)
  {Q:Option Nat->SortSt->Prop} (h:∀m,m<=n->(∀i,i<m->B i=Lk)->(∀i,m<=i->i<n->B i=Lw)->Q (lD m) st):
  fR (model prog w) A E J (Fc left key arr base n hint) Q st:=by
 have be:∀{i:Nat} {Q:Option Bool->SortSt->Prop},i<n->Q (lD (B i)) st->fR (model prog w) A E J (J8 left key arr base i) Q st:=by intro i Q hi q;obtain⟨x,x1,x2,x3⟩:=hb i hi;rw[x3] at q;exact HK C k hk x1 x2 q
 have hf:∀i j,i<=j->j<n->B i=Lw->B j=Lw:=fun i j h1 h2 h3=>by
  cases q:B j with
  |false=>rfl
  |true=>rw[hm i j h1 h2 q] at h3;cases h3
 show fR _ _ _ _ (bind _ _:StateT SortSt Sem (Option Nat)) _ _;refine ag (be hh ?_);cases q:B hint with
 |true=>
  dsimp only;simp only[if_true];refine ag (bz (cK (I:=fun x c z=>z=st/\∃la o,c=(Ld,la,o)/\la<o/\x+1<=o/\hint+la<n/\B (hint+la)=Lk)
   (Q:=fun c z=>z=st/\∃la o,c=(Ld,la,o)/\la<o/\hint+la<n/\B (hint+la)=Lk/\(hint+o<n->B (hint+o)=Lw)) ?s2 ?f2 ⟨rfl,0,1,rfl,by omega,by omega,by omega,q⟩) ?p2)
  case p2=>
   rintro c z ⟨rfl,la,o,rfl,a1,a2,a3,a4⟩;dsimp only;have lh:(hint+la+1)<=(hint+min o (n - hint)):=by omega
   have hn:(hint+min o (n - hint))<=n:=by omega
   have p1:∀i,i<(hint+la+1)->B i=Lk:=fun i hi=>by exact hm i _ (by omega) a2 a3
   have p2:∀i,(hint+min o (n - hint))<=i->i<n->B i=Lw:=fun i h1 h2=>by exact hf (hint+o) i (by omega) h2 (a4 (by omega))
   refine ag (bz (cK (I:=fun x c y=>y=z/\∃lo hi,c=(Ld,lo,hi)/\lo<=hi/\hi<=n/\hi - lo<=n - x/\(∀i,i<lo->B i=Lk)/\(∀i,hi<=i->i<n->B i=Lw))
    (Q:=fun c y=>y=z/\∃m,c=(Ld,m,m)/\m<=n/\(∀i,i<m->B i=Lk)/\(∀i,m<=i->i<n->B i=Lw)) ?s11 ?f11 ⟨rfl,(hint+la+1),(hint+min o (n - hint)),rfl,lh,hn,by omega,p1,p2⟩) ?p11)
   case p11=>
    rintro c z ⟨rfl,m,rfl,a1,a2,a3⟩;exact aj (h m a1 a2 a3)
   case f11=>
    rintro c z ⟨rfl,lo,hi,rfl,a0,a1,a2,a3,a4⟩;have:lo=hi:=by omega
    subst this;exact⟨rfl,lo,rfl,a1,a3,a4⟩
   case s11=>
    rintro x c z _ xn ⟨rfl,lo,hi,rfl,a0,a1,a2,a3,a4⟩;dsimp only;by_cases ge:lo≥hi
    ·rw[if_pos ge]
     have:lo=hi:=by omega
     subst this;exact aj ⟨rfl,lo,rfl,a1,a3,a4⟩
    ·rw[if_neg ge]
     refine ag (be (by omega) ?_);cases q:B (lo+(hi - lo)/2) with
     |true=>simp only[if_true];refine aj ⟨rfl,_,_,rfl,by omega,by omega,by omega,fun i hi=> ?_,a4⟩;exact hm i _ (by omega) (by omega) q
     |false=>simp only[Lr,if_false];refine aj ⟨rfl,_,_,rfl,by omega,by omega,by omega,a3,fun i h1 h2=> ?_⟩;exact hf _ i h1 h2 q
  case f2=>
   rintro c z ⟨rfl,la,o,rfl,a1,a2,a3,a4⟩;exact⟨rfl,la,o,rfl,a1,a3,a4,fun h=>by omega⟩
  case s2=>
   rintro x c z _ xn ⟨rfl,la,o,rfl,a1,a2,a3,a4⟩;dsimp only;by_cases ge:o≥n - hint
   ·rw[if_pos ge];exact aj ⟨rfl,la,o,rfl,a1,a3,a4,fun h=>by omega⟩
   ·rw[if_neg ge]
    refine ag (be (by omega) ?_);cases q2:B (hint+o) with
    |true=>simp only[MZ,Lr,if_false];exact aj ⟨rfl,_,_,rfl,by omega,by omega,by omega,q2⟩
    |false=>simp only[Qm,if_true];exact aj ⟨rfl,la,o,rfl,a1,a3,a4,fun _=>q2⟩
 |false=>
  dsimp only;simp only[Lr,if_false];refine ag (bz (cK (I:=fun x c z=>z=st/\∃la o,c=(Ld,la,o)/\la<o/\x+1<=o/\la<=hint/\B (hint - la)=Lw)
   (Q:=fun c z=>z=st/\∃la o,c=(Ld,la,o)/\la<o/\la<=hint/\B (hint - la)=Lw/\(o<hint+1->B (hint - o)=Lk)) ?s3 ?f3 ⟨rfl,0,1,rfl,by omega,by omega,by omega,q⟩) ?p3)
  case p3=>
   rintro c z ⟨rfl,la,o,rfl,a1,a2,a3,a4⟩;dsimp only;have lh:(hint+1 - min o (hint+1))<=(hint - la):=by omega
   have hn:(hint - la)<=n:=by omega
   have p1:∀i,i<(hint+1 - min o (hint+1))->B i=Lk:=fun i hi=>by
    have o1:o<hint+1:=by omega
    exact hm i (hint - o) (by omega) (by omega) (a4 o1)
   have p2:∀i,(hint - la)<=i->i<n->B i=Lw:=fun i h1 h2=>by exact hf (hint - la) i (by omega) h2 a3
   refine ag (bz (cK (I:=fun x c y=>y=z/\∃lo hi,c=(Ld,lo,hi)/\lo<=hi/\hi<=n/\hi - lo<=n - x/\(∀i,i<lo->B i=Lk)/\(∀i,hi<=i->i<n->B i=Lw))
    (Q:=fun c y=>y=z/\∃m,c=(Ld,m,m)/\m<=n/\(∀i,i<m->B i=Lk)/\(∀i,m<=i->i<n->B i=Lw)) ?s12 ?f12 ⟨rfl,(hint+1 - min o (hint+1)),(hint - la),rfl,lh,hn,by omega,p1,p2⟩) ?p12)
   case p12=>
    rintro c z ⟨rfl,m,rfl,a1,a2,a3⟩;exact aj (h m a1 a2 a3)
   case f12=>
    rintro c z ⟨rfl,lo,hi,rfl,a0,a1,a2,a3,a4⟩;have:lo=hi:=by omega
    subst this;exact⟨rfl,lo,rfl,a1,a3,a4⟩
   case s12=>
    rintro x c z _ xn ⟨rfl,lo,hi,rfl,a0,a1,a2,a3,a4⟩;dsimp only;by_cases ge:lo≥hi
    ·rw[if_pos ge]
     have:lo=hi:=by omega
     subst this;exact aj ⟨rfl,lo,rfl,a1,a3,a4⟩
    ·rw[if_neg ge]
     refine ag (be (by omega) ?_);cases q:B (lo+(hi - lo)/2) with
     |true=>simp only[if_true];refine aj ⟨rfl,_,_,rfl,by omega,by omega,by omega,fun i hi=> ?_,a4⟩;exact hm i _ (by omega) (by omega) q
     |false=>simp only[Lr,if_false];refine aj ⟨rfl,_,_,rfl,by omega,by omega,by omega,a3,fun i h1 h2=> ?_⟩;exact hf _ i h1 h2 q
  case f3=>
   rintro c z ⟨rfl,la,o,rfl,a1,a2,a3,a4⟩;exact⟨rfl,la,o,rfl,a1,a3,a4,fun h=>by omega⟩
  case s3=>
   rintro x c z _ xn ⟨rfl,la,o,rfl,a1,a2,a3,a4⟩;dsimp only;by_cases ge:o≥hint+1
   ·rw[if_pos ge];exact aj ⟨rfl,la,o,rfl,a1,a3,a4,fun h=>by omega⟩
   ·rw[if_neg ge]
    refine ag (be (by omega) ?_);cases q2:B (hint - o) with
    |true=>simp only[if_true];exact aj ⟨rfl,la,o,rfl,a1,a3,a4,fun _=>q2⟩
    |false=>simp only[Lr,if_false];exact aj ⟨rfl,_,_,rfl,by omega,by omega,by omega,q2⟩
end
end TS
namespace TS
open PySem PyProof.Rows
set_option autoImplicit true
abbrev KL:=Array Keyed
abbrev SM:=StateT SortSt Sem
noncomputable def J1:KL->KL->SM KL:=sortPriv% PySem.Builtin.mergeLo
noncomputable def yu (g:Nat):SM Unit:=(sortPriv% PySem.Builtin.setMinGallop) g
abbrev LS:=Option KL×KL×Nat×Nat×Nat
abbrev JU:=Option KL×KL×Nat×Nat×Nat×Nat
abbrev F7:=Option KL×KL×Nat×Nat×Nat×Nat×Nat
noncomputable def dn (a b out:KL) (ia ib:Nat):KL:=out++a.extract ia a.size++b.extract ib b.size
noncomputable def la (a b out:KL) (ia ib:Nat):KL:=out++b.extract ib b.size++a.extract ia a.size
noncomputable def JI (a b out:KL) (ia ib g ac bc:Nat):SM (ForInStep F7):=do
 let x<-elem' a ia
 if ia+1+1==a.size then pure (.done (lD (la a b (out.push x) (ia+1) ib),out.push x,ia+1,ib,g,ac,bc))
 else if ac<7&&bc<7 then pure (.done (Ld,out.push x,ia+1,ib,g,ac,bc)) else pure (.yield (Ld,out.push x,ia+1,ib,g,ac,bc))
noncomputable def C6 (a b out:KL) (ia ib g ac bc:Nat):SM (ForInStep F7):=do
 let y<-elem' b ib
 if ib+1==b.size then pure (.done (lD (dn a b (out.push y) ia (ib+1)),out.push y,ia,ib+1,g,ac,bc))
 else do
  let x<-elem' a ia
  match<-Fc Lk x b (ib+1) (b.size - (ib+1)) 0 with
  |some k=>
   if k>0 then
    if ib+1+k==b.size then pure (.done (lD (dn a b (out.push y++b.extract (ib+1) (ib+1+k)) ia (ib+1+k)),out.push y++b.extract (ib+1) (ib+1+k),ia,ib+1+k,g,ac,k))
    else JI a b (out.push y++b.extract (ib+1) (ib+1+k)) ia (ib+1+k) g ac k
   else JI a b (out.push y) ia (ib+1) g ac k
  |none=>pure (.done (lD (dn a b (out.push y) ia (ib+1)),out.push y,ia,ib+1,g,ac,bc))
noncomputable def IL (a b out:KL) (ia ib g ac bc:Nat):SM (ForInStep F7):=do
 yu g
 let y<-elem' b ib
 match<-Fc Lw y a ia (a.size - ia) 0 with
 |some k=>
  if k>0 then
   if ia+k+1==a.size then pure (.done (lD (la a b (out++a.extract ia (ia+k)) (ia+k) ib),out++a.extract ia (ia+k),ia+k,ib,g,k,bc))
   else if ia+k==a.size then pure (.done (lD (dn a b (out++a.extract ia (ia+k)) (ia+k) ib),out++a.extract ia (ia+k),ia+k,ib,g,k,bc))
   else C6 a b (out++a.extract ia (ia+k)) (ia+k) ib g k bc
  else C6 a b out ia ib g k bc
 |none=>pure (.done (lD (dn a b out ia ib),out,ia,ib,g,ac,bc))
noncomputable def l1 (a b:KL) (g:Nat) (c:JU):SM (ForInStep JU):=do
 let y<-elem' b c.2.2.2.1
 let x<-elem' a c.2.2.1
 match<-lt' y x with
 |some w=>
  if w=Lk then do
   let y<-elem' b c.2.2.2.1
   if c.2.2.2.1+1==b.size then pure (.done (lD (dn a b (c.2.1.push y) c.2.2.1 (c.2.2.2.1+1)),c.2.1.push y,c.2.2.1,c.2.2.2.1+1,0,c.2.2.2.2.2+1))
   else if c.2.2.2.2.2+1≥g then pure (.done (Ld,c.2.1.push y,c.2.2.1,c.2.2.2.1+1,0,c.2.2.2.2.2+1)) else pure (.yield (Ld,c.2.1.push y,c.2.2.1,c.2.2.2.1+1,0,c.2.2.2.2.2+1))
  else do
   let x<-elem' a c.2.2.1
   if c.2.2.1+1+1==a.size then pure (.done (lD (la a b (c.2.1.push x) (c.2.2.1+1) c.2.2.2.1),c.2.1.push x,c.2.2.1+1,c.2.2.2.1,c.2.2.2.2.1+1,0))
   else if c.2.2.2.2.1+1≥g then pure (.done (Ld,c.2.1.push x,c.2.2.1+1,c.2.2.2.1,c.2.2.2.2.1+1,0)) else pure (.yield (Ld,c.2.1.push x,c.2.2.1+1,c.2.2.2.1,c.2.2.2.2.1+1,0))
 |none=>pure (.done (lD (dn a b c.2.1 c.2.2.1 c.2.2.2.1),c.2.1,c.2.2.1,c.2.2.2.1,c.2.2.2.2.1,c.2.2.2.2.2))
noncomputable def l0 (a b:KL) (s:LS):SM (ForInStep LS):=do
 let c<-forIn [0:a.size+b.size] ((Ld,s.2.1,s.2.2.1,s.2.2.2.1,0,0):JU) fun _ c=>l1 a b s.2.2.2.2 c
 match c.1 with
 |some r=>pure (.done (lD r,c.2.1,c.2.2.1,c.2.2.2.1,s.2.2.2.2))
 |none=>do
  rule "list.sort.gallop"
  let d<-forIn [0:a.size+b.size] ((Ld,c.2.1,c.2.2.1,c.2.2.2.1,s.2.2.2.2+1,c.2.2.2.2.1,c.2.2.2.2.2):F7) fun _ d=>
   if d.2.2.2.2.1>1 then IL a b d.2.1 d.2.2.1 d.2.2.2.1 (d.2.2.2.2.1 - 1) d.2.2.2.2.2.1 d.2.2.2.2.2.2 else IL a b d.2.1 d.2.2.1 d.2.2.2.1 d.2.2.2.2.1 d.2.2.2.2.2.1 d.2.2.2.2.2.2
  match d.1 with
  |some r=>pure (.done (lD r,d.2.1,d.2.2.1,d.2.2.2.1,d.2.2.2.2.1))
  |none=>do
   yu (d.2.2.2.2.1+1)
   pure (.yield (Ld,d.2.1,d.2.2.1,d.2.2.2.1,d.2.2.2.2.1+1))
theorem HI (a b:KL):J1 a b=(do
 rule "list.sort.merge-lo"
 let y<-elem' b 0
 if(1==b.size)=Lk then pure (dn a b #[y] 0 1)
 else if(0+1==a.size)=Lk then pure (la a b #[y] 0 1)
 else do
  let g<-get
  let s<-forIn [0:a.size+b.size] ((Ld,#[y],0,1,gallopOf g):LS) fun _ s=>l0 a b s
  match s.1 with
  |some r=>pure r
  |none=>unsupported "internal:list.sort.merge-bound"):=by
 show(bind _ _:SM KL)=bind _ _;dsimp only;congr 1;funext _u;congr 1;funext y;refine ite_congr rfl (fun _=>rfl) fun _=> ?_;refine ite_congr rfl (fun _=>rfl) fun _=> ?_;congr 1;funext g;congr 1
 ·congr 1;funext _x s
  unfold l0;congr 1
  ·congr 1;funext _x c
   unfold l1;congr 1;funext y;congr 1;funext x;congr 1;funext v;cases v with
   |none=>rfl
   |some v=>rfl
  ·funext c
   obtain⟨r,c⟩:=c;cases r with
   |some r=>rfl
   |none=>
    dsimp only;congr 1;funext _v;congr 1
    ·congr 1;funext _x d
     have key:∀g',(do
       yu g'
       let y<-elem' b d.2.2.2.1
       match<-Fc Lw y a d.2.2.1 (a.size - d.2.2.1) 0 with
       |some k=>
        if k>0 then
         if d.2.2.1+k+1==a.size then pure (.done (lD (la a b (d.2.1++a.extract d.2.2.1 (d.2.2.1+k)) (d.2.2.1+k) d.2.2.2.1),d.2.1++a.extract d.2.2.1 (d.2.2.1+k),d.2.2.1+k,d.2.2.2.1,g',k,d.2.2.2.2.2.2))
         else if d.2.2.1+k==a.size then pure (.done (lD (dn a b (d.2.1++a.extract d.2.2.1 (d.2.2.1+k)) (d.2.2.1+k) d.2.2.2.1),d.2.1++a.extract d.2.2.1 (d.2.2.1+k),d.2.2.1+k,d.2.2.2.1,g',k,d.2.2.2.2.2.2))
         else C6 a b (d.2.1++a.extract d.2.2.1 (d.2.2.1+k)) (d.2.2.1+k) d.2.2.2.1 g' k d.2.2.2.2.2.2
        else C6 a b d.2.1 d.2.2.1 d.2.2.2.1 g' k d.2.2.2.2.2.2
       |none=>pure (.done (lD (dn a b d.2.1 d.2.2.1 d.2.2.2.1),d.2.1,d.2.2.1,d.2.2.2.1,g',d.2.2.2.2.2.1,d.2.2.2.2.2.2)):SM (ForInStep F7))=IL a b d.2.1 d.2.2.1 d.2.2.2.1 g' d.2.2.2.2.2.1 d.2.2.2.2.2.2:=fun _=>rfl
     refine ite_congr rfl (fun _=> ?_) fun _=> ?_
     ·rw[<-key]
      congr 1;funext _z;congr 1;funext y;congr 1;funext k;cases k with
      |none=>rfl
      |some k=>
       dsimp only;refine ite_congr rfl (fun _=> ?_) fun _=> ?_
       ·refine ite_congr rfl (fun _=>rfl) fun _=> ?_
        refine ite_congr rfl (fun _=>rfl) fun _=> ?_;unfold C6;congr 1;funext y;refine ite_congr rfl (fun _=>rfl) fun _=> ?_;congr 1;funext x;congr 1;funext k1;cases k1 with
        |none=>rfl
        |some k1=>rfl
       ·unfold C6;congr 1;funext y
        refine ite_congr rfl (fun _=>rfl) fun _=> ?_;congr 1;funext x;congr 1;funext k1;cases k1 with
        |none=>rfl
        |some k1=>rfl
     ·rw[<-key]
      congr 1;funext _z;congr 1;funext y;congr 1;funext k;cases k with
      |none=>rfl
      |some k=>
       dsimp only;refine ite_congr rfl (fun _=> ?_) fun _=> ?_
       ·refine ite_congr rfl (fun _=>rfl) fun _=> ?_
        refine ite_congr rfl (fun _=>rfl) fun _=> ?_;unfold C6;congr 1;funext y;refine ite_congr rfl (fun _=>rfl) fun _=> ?_;congr 1;funext x;congr 1;funext k1;cases k1 with
        |none=>rfl
        |some k1=>rfl
       ·unfold C6;congr 1;funext y
        refine ite_congr rfl (fun _=>rfl) fun _=> ?_;congr 1;funext x;congr 1;funext k1;cases k1 with
        |none=>rfl
        |some k1=>rfl
    ·funext d
     obtain⟨r,d⟩:=d;cases r with
     |some r=>rfl
     |none=>rfl
 ·funext s
  obtain⟨r,s⟩:=s;cases r with
  |some r=>rfl
  |none=>rfl
end TS
namespace TS
open PySem PyProof.Rows
set_option autoImplicit true
noncomputable abbrev Le (f:Keyed->Nat) (x y:Keyed):Prop:=f x<=f y
structure Ok (f:Keyed->Nat) (T o:List Keyed):Prop where
 perm:o.Perm T
 so:o.Pairwise (Le f)
structure Mi (f:Keyed->Nat) (T o X Y:List Keyed):Prop where
 perm:(o++(X++Y)).Perm T
 so:o.Pairwise (Le f)
 bd:∀p∈o,∀z,z∈X\/z∈Y->f p<=f z
 sx:X.Pairwise (Le f)
 sy:Y.Pairwise (Le f)
section
variable {f:Keyed->Nat} {T o X Y P:List Keyed}
theorem Mi.x (m:Mi f T o (P++X) Y) (h:∀p∈P,∀y∈Y,f p<=f y):Mi f T (o++P) X Y where
 perm:=by have:=m.perm;rwa [LP] at this⊢
 so:=Mn.mpr ⟨m.so,(Mn.mp m.sx).1,fun p hp z hz=>m.bd p hp z (.inl (Mm _ hz))⟩
 bd:=fun p hp z hz=>by
  rcases LM.mp hp with q|q
  ·exact m.bd p q z (hz.imp (LO _) id)
  ·rcases hz with hz|hz
   ·exact(Mn.mp m.sx).2.2 p q z hz
   ·exact h p q z hz
 sx:=(Mn.mp m.sx).2.1
 sy:=m.sy
theorem Mi.swap (m:Mi f T o X Y):Mi f T o Y X where
 perm:=(acb o Qi).trans m.perm
 so:=m.so
 bd:=fun p hp z hz=>m.bd p hp z hz.symm
 sx:=m.sy
 sy:=m.sx
theorem Mi.y (m:Mi f T o X (P++Y)) (h:∀p∈P,∀x∈X,f p<=f x):Mi f T (o++P) X Y:=(m.swap.x h).swap
theorem Mi.dn (m:Mi f T o X Y) (h:∀x∈X,∀y∈Y,f x<=f y):Ok f T (o++X++Y) where
 perm:=by rw[LP];exact m.perm
 so:=by rw[LP];refine Mn.mpr ⟨m.so,Mn.mpr ⟨m.sx,m.sy,h⟩,fun p hp z hz=>m.bd p hp z (LM.mp hz)⟩
theorem Mi.la (m:Mi f T o X Y) (h:∀y∈Y,∀x∈X,f y<=f x):Ok f T (o++Y++X):=m.swap.dn h
end
section
variable {prog:LR} {w:Mg} {A:L0} {E:Lf->Lm->Prop} {J:Lm->Prop} {κ:SortKind} {a₀:Array Keyed} {f:Keyed->Nat}
structure Ge (st z:SortSt):Prop where
 kind:kindOf z=kindOf st
 failed:failedOf z=failedOf st
 arr:arrOf z=arrOf st
 pend:pendingOf z=pendingOf st
theorem Ge.rfl {st:SortSt}:Ge st st:=⟨Eq.refl _,Eq.refl _,Eq.refl _,Eq.refl _⟩
theorem lX {st z:SortSt} (e:Ge st z) {g:Nat} {Q:Unit->SortSt->Prop} (h:∀y,Ge st y->Q () y):fR (model prog w) A E J (yu g) Q z:=
 gj (h _ ⟨e.kind,e.failed,e.arr,e.pend⟩)
variable {a b:KL}
theorem n5 (i j:Nat):(a.extract i j).toList=(a.toList.drop i).take (j - i):=by rw[Array.toList_extract]
theorem D2 (i:Nat):(a.extract i a.size).toList=a.toList.drop i:=by rw[n5,MX];simp
theorem Kt (out:KL) (ia ib:Nat):(dn a b out ia ib).toList=out.toList++a.toList.drop ia++b.toList.drop ib:=by unfold dn;rw[My,My,D2,D2]
theorem Kk (out:KL) (ia ib:Nat):(la a b out ia ib).toList=out.toList++b.toList.drop ib++a.toList.drop ia:=by unfold la;rw[My,My,D2,D2]
theorem BF {i:Nat} (h:i<a.size):a.toList.drop i=[a[i]]++a.toList.drop (i+1):=by rw[MO (by simpa using h)];simp
theorem zO (i k:Nat):a.toList.drop i=(a.toList.drop i).take k++a.toList.drop (i+k):=by rw[<-List.drop_drop];exact(OE k _).symm
structure RB (f:Keyed->Nat) (a₀:Array Keyed) (a b:KL):Prop where
 sa:a.toList.Pairwise (Le f)
 sb:b.toList.Pairwise (Le f)
 ma:∀x∈a.toList,x∈a₀.toList
 mb:∀x∈b.toList,x∈a₀.toList
 na:0<a.size
 nb:0<b.size
 last:∀y∈b.toList,f y<=f a[a.size - 1]
 first:∀x∈a.toList,f b[0]<=f x
theorem RB.xs (t:RB f a₀ a b) {i j:Nat} (h:i<=j) (hj:j<a.size):f a[i]<=f a[j]:=by
 by_cases e:i=j
 ·subst e;exact Ll _
 ·have:=Nf.mp t.sa i j (by simp;omega) (by simp;omega) (by omega)
  simpa using this
theorem RB.ys (t:RB f a₀ a b) {i j:Nat} (h:i<=j) (hj:j<b.size):f b[i]<=f b[j]:=by
 by_cases e:i=j
 ·subst e;exact Ll _
 ·have:=Nf.mp t.sb i j (by simp;omega) (by simp;omega) (by omega)
  simpa using this
theorem gR {i:Nat} {x:Keyed} (h:x∈a.toList.drop i):∃j,∃hj:j<a.size,i<=j/\x=a[j]:=by obtain⟨j,hj,e⟩:=NK h;rw[Uv] at e;exact⟨i+j,by simp at hj;omega,by omega,by simpa using e.symm⟩
theorem ig {i:Nat} {x:Keyed} (h:x∈a.toList.take i):∃j,∃hj:j<a.size,j<i/\x=a[j]:=by obtain⟨j,hj,e⟩:=NK h;rw[Uw] at e;simp at hj;exact⟨j,by omega,by omega,by simpa using e.symm⟩
theorem oI {i k:Nat} {x:Keyed} (h:x∈(a.toList.drop i).take k):∃j,∃hj:j<a.size,i<=j/\j<i+k/\x=a[j]:=by obtain⟨j,hj,e⟩:=NK h;rw[Uw,Uv] at e;simp at hj;exact⟨i+j,by omega,by omega,by omega,by simpa using e.symm⟩
structure Hd (f:Keyed->Nat) (a b out:KL) (ia ib:Nat):Prop where
 mi:Mi f (a.toList++b.toList) out.toList (a.toList.drop ia) (b.toList.drop ib)
 ia:ia<a.size
 ib:ib<b.size
theorem Mi.px {out:KL} {ia ib:Nat} (m:Mi f (a.toList++b.toList) out.toList (a.toList.drop ia) (b.toList.drop ib)) (h:ia<a.size) (q:∀j (hj:j<b.size),ib<=j->f a[ia]<=f b[j]):
  Mi f (a.toList++b.toList) (out.push a[ia]).toList (a.toList.drop (ia+1)) (b.toList.drop ib):=by
 rw[BF h] at m;rw[Oq];refine m.x fun p hp y hy=> ?_;rw[Lx.mp hp];obtain⟨j,hj,h1,rfl⟩:=gR hy;exact q j hj h1
theorem Mi.py {out:KL} {ia ib:Nat} (m:Mi f (a.toList++b.toList) out.toList (a.toList.drop ia) (b.toList.drop ib)) (h:ib<b.size) (q:∀j (hj:j<a.size),ia<=j->f b[ib]<=f a[j]):
  Mi f (a.toList++b.toList) (out.push b[ib]).toList (a.toList.drop ia) (b.toList.drop (ib+1)):=by
 rw[BF h] at m;rw[Oq];refine m.y fun p hp y hy=> ?_;rw[Lx.mp hp];obtain⟨j,hj,h1,rfl⟩:=gR hy;exact q j hj h1
theorem Mi.kx {out:KL} {ia ib k:Nat} (m:Mi f (a.toList++b.toList) out.toList (a.toList.drop ia) (b.toList.drop ib)) (q:∀i (hi:i<a.size),ia<=i->i<ia+k->∀j (hj:j<b.size),ib<=j->f a[i]<=f b[j]):
  Mi f (a.toList++b.toList) (out++a.extract ia (ia+k)).toList (a.toList.drop (ia+k)) (b.toList.drop ib):=by
 rw[zO ia k] at m;rw[My,n5,PX];refine m.x fun p hp y hy=> ?_;obtain⟨i,hi,h1,h2,rfl⟩:=oI hp;obtain⟨j,hj,h3,rfl⟩:=gR hy;exact q i hi h1 h2 j hj h3
theorem Mi.ky {out:KL} {ia ib k:Nat} (m:Mi f (a.toList++b.toList) out.toList (a.toList.drop ia) (b.toList.drop ib)) (q:∀i (hi:i<b.size),ib<=i->i<ib+k->∀j (hj:j<a.size),ia<=j->f b[i]<=f a[j]):
  Mi f (a.toList++b.toList) (out++b.extract ib (ib+k)).toList (a.toList.drop ia) (b.toList.drop (ib+k)):=by
 rw[zO ib k] at m;rw[My,n5,PX];refine m.y fun p hp y hy=> ?_;obtain⟨i,hi,h1,h2,rfl⟩:=oI hp;obtain⟨j,hj,h3,rfl⟩:=gR hy;exact q i hi h1 h2 j hj h3
theorem Mi.nb {out:KL} {ia ib:Nat} (m:Mi f (a.toList++b.toList) out.toList (a.toList.drop ia) (b.toList.drop ib)) (h:b.size<=ib\/a.size<=ia):Ok f (a.toList++b.toList) (TS.dn a b out ia ib).toList:=by rw[Kt];refine m.dn fun x hx y hy=> ?_;obtain⟨j,hj,h1,rfl⟩:=gR hx;obtain⟨j,hj,h1,rfl⟩:=gR hy;omega
theorem Mi.l1 (t:RB f a₀ a b) {out:KL} {ia ib:Nat} (m:Mi f (a.toList++b.toList) out.toList (a.toList.drop ia) (b.toList.drop ib)) (h:ia+1=a.size):Ok f (a.toList++b.toList) (TS.la a b out ia ib).toList:=by
 rw[Kk];refine m.la fun y hy x hx=> ?_;obtain⟨j,hj,h1,rfl⟩:=gR hx;have:j=a.size - 1:=by omega
 subst this;exact t.last y (Qn hy)
end
end TS
namespace TS
open PySem PyProof.Rows
set_option autoImplicit true
section
variable {prog:LR} {w:Mg} {A:L0} {E:Lf->Lm->Prop} {J:Lm->Prop} {κ:SortKind} {a₀:Array Keyed} {f:Keyed->Nat} {a b:KL}
theorem RB.Xn (t:RB f a₀ a b) {i:Nat} (h:i<a.size):a[i]∈a₀.toList:=t.ma _ (by simp)
theorem RB.Xi (t:RB f a₀ a b) {i:Nat} (h:i<b.size):b[i]∈a₀.toList:=t.mb _ (by simp)
def T2 (f:Keyed->Nat) (a b:KL) (st:SortSt) (n:Nat) (d:F7) (z:SortSt):Prop:=Ge st z/\((∃r,d.1=lD r/\Ok f (a.toList++b.toList) r.toList)\/(d.1=Ld/\Hd f a b d.2.1 d.2.2.1 d.2.2.2.1/\d.2.2.1+1<a.size/\n<=d.2.2.1+d.2.2.2.1))
noncomputable abbrev F2 (f:Keyed->Nat) (a b:KL) (st:SortSt) (n:Nat) (r:ForInStep F7) (z:SortSt):Prop:=match r with
 | .done d=>T2 f a b st n d z
 | .yield d=>d.1=Ld/\T2 f a b st n d z
theorem BZ (t:RB f a₀ a b) {out:KL} {ia ib g ac bc n:Nat} {st z:SortSt} (e:Ge st z) (m:Mi f (a.toList++b.toList) out.toList (a.toList.drop ia) (b.toList.drop ib)) (h1:ia+1<a.size) (h2:ib<b.size) (hn:n<=ia+ib)
  (q:∀j (hj:j<b.size),ib<=j->f a[ia]<=f b[j]):fR (model prog w) A E J (JI a b out ia ib g ac bc) (F2 f a b st n) z:=by
 unfold JI;refine ag (bi (getElem?_pos a ia (by omega)) ?_);have m:=m.px (by omega) q;by_cases c:ia+1+1=a.size
 ·rw[if_pos (by simpa using c)];exact aj ⟨e,.inl ⟨_,rfl,m.l1 t c⟩⟩
 ·rw[if_neg (by simpa using c)]
  by_cases d:(decide (ac<7)&&decide (bc<7))=Lk
  ·rw[if_pos d];exact aj ⟨e,.inr ⟨rfl,⟨m,by omega,h2⟩,by show ia+1+1<_;omega,by show n<=ia+1+ib;omega⟩⟩
  ·rw[if_neg d];exact aj ⟨rfl,e,.inr ⟨rfl,⟨m,by omega,h2⟩,by show ia+1+1<_;omega,by show n<=ia+1+ib;omega⟩⟩
theorem Ay (C:Ask prog w A E J κ (·∈a₀.toList) f) (t:RB f a₀ a b) {out:KL} {ia ib g ac bc n:Nat} {st z:SortSt} (k:kindOf st=κ) (e:Ge st z) (m:Mi f (a.toList++b.toList) out.toList (a.toList.drop ia) (b.toList.drop ib)) (h1:ia+1<a.size) (h2:ib<b.size) (hn:n<=ia+ib)
  (q:∀j (hj:j<a.size),ia<=j->f b[ib]<=f a[j]):fR (model prog w) A E J (C6 a b out ia ib g ac bc) (F2 f a b st n) z:=by
 unfold C6;refine ag (bi (getElem?_pos b ib h2) ?_);have m:=m.py h2 q;by_cases c:ib+1=b.size
 ·rw[if_pos (by simpa using c)];exact aj ⟨e,.inl ⟨_,rfl,m.nb (.inl (by omega))⟩⟩
 ·rw[if_neg (by simpa using c)]
  refine ag (bi (getElem?_pos a ia (by omega)) ?_);refine ag (kJ C (e.kind.trans k) (t.Xn (by omega)) (fun i=>decide (if h:ib+1+i<b.size then f b[ib+1+i]<f a[ia] else False)) (fun i hi=>⟨b[ib+1+i],t.Xi _,getElem?_pos b _ (by omega),?_⟩) (fun i j ij hj q=> ?_) (by omega) fun k1 k2 k3 k4=> ?_)
  ·unfold Bt;simp only[if_true];exact decide_eq_decide.mpr (by rw[dif_pos (by omega)])
  ·have q:=of_decide_eq_true q;rw[dif_pos (by omega)] at q;refine decide_eq_true ?_;rw[dif_pos (by omega)];exact Pc (t.ys (by omega) (by omega)) q
  have K3:∀i (hi:i<b.size),ib+1<=i->i<ib+1+k1->f b[i]<f a[ia]:=fun i hi h3 h4=>by
   have:=of_decide_eq_true (k3 (i - (ib+1)) (by omega));rw[dif_pos (by omega)] at this;have e:ib+1+(i - (ib+1))=i:=by omega
   simp only[e] at this;exact this
  have K4:∀i (hi:i<b.size),ib+1+k1<=i->f a[ia]<=f b[i]:=fun i hi h3=>by
   have:=of_decide_eq_false (k4 (i - (ib+1)) (by omega) (by omega));rw[dif_pos (by omega)] at this;have e:ib+1+(i - (ib+1))=i:=by omega
   simp only[e] at this;exact NN this
  dsimp only;by_cases k0:k1>0
  ·rw[if_pos k0]
   have m:=m.ky (k:=k1) fun i hi h3 h4 j hj h5=>LF (MU (K3 i hi h3 h4)) (t.xs h5 hj);by_cases c2:ib+1+k1=b.size
   ·rw[if_pos (by simpa using c2)];exact aj ⟨e,.inl ⟨_,rfl,m.nb (.inl (by omega))⟩⟩
   ·rw[if_neg (by simpa using c2)];exact BZ t e m h1 (by omega) (by omega) K4
  ·rw[if_neg k0]
   have:k1=0:=by omega
   subst this;exact BZ t e m h1 (by omega) (by omega) K4
theorem F5 (C:Ask prog w A E J κ (·∈a₀.toList) f) (t:RB f a₀ a b) {out:KL} {ia ib g ac bc n:Nat} {st z:SortSt} (k:kindOf st=κ) (e:Ge st z) (m:Mi f (a.toList++b.toList) out.toList (a.toList.drop ia) (b.toList.drop ib)) (h1:ia+1<a.size) (h2:ib<b.size) (hn:n<=ia+ib):
  fR (model prog w) A E J (IL a b out ia ib g ac bc) (F2 f a b st n) z:=by
 unfold IL;refine ag (lX e fun y e=> ?_);refine ag (bi (getElem?_pos b ib h2) ?_);refine ag (kJ C (e.kind.trans k) (t.Xi h2) (fun i=>decide (if h:ia+i<a.size then f a[ia+i]<=f b[ib] else False)) (fun i hi=>⟨a[ia+i],t.Xn _,getElem?_pos a _ (by omega),?_⟩) (fun i j ij hj q=> ?_) (by omega) fun k1 k2 k3 k4=> ?_)
 ·unfold Bt;simp only[Lr,if_false];exact decide_eq_decide.mpr (by rw[dif_pos (by omega)])
 ·have q:=of_decide_eq_true q;rw[dif_pos (by omega)] at q;refine decide_eq_true ?_;rw[dif_pos (by omega)];exact LF (t.xs (by omega) (by omega)) q
 have K3:∀i (hi:i<a.size),ia<=i->i<ia+k1->f a[i]<=f b[ib]:=fun i hi h3 h4=>by
  have:=of_decide_eq_true (k3 (i - ia) (by omega));rw[dif_pos (by omega)] at this;have e:ia+(i - ia)=i:=by omega
  simp only[e] at this;exact this
 have K4:∀i (hi:i<a.size),ia+k1<=i->f b[ib]<=f a[i]:=fun i hi h3=>by
  have:=of_decide_eq_false (k4 (i - ia) (by omega) (by omega));rw[dif_pos (by omega)] at this;have e:ia+(i - ia)=i:=by omega
  simp only[e] at this;omega
 dsimp only;by_cases k0:k1>0
 ·rw[if_pos k0]
  have m:=m.kx (k:=k1) fun i hi h3 h4 j hj h5=>LF (K3 i hi h3 h4) (t.ys h5 hj);by_cases c:ia+k1+1=a.size
  ·rw[if_pos (by simpa using c)];exact aj ⟨e,.inl ⟨_,rfl,m.l1 t c⟩⟩
  ·rw[if_neg (by simpa using c)]
   by_cases c2:ia+k1=a.size
   ·rw[if_pos (by simpa using c2)];exact aj ⟨e,.inl ⟨_,rfl,m.nb (.inr (by omega))⟩⟩
   ·rw[if_neg (by simpa using c2)];exact Ay C t k e m (by omega) h2 (by omega) K4
 ·rw[if_neg k0]
  have:k1=0:=by omega
  subst this;exact Ay C t k e m h1 h2 hn K4
theorem IS (C:Ask prog w A E J κ (·∈a₀.toList) f) (t:RB f a₀ a b) {out:KL} {ia ib g ac bc:Nat} {st z:SortSt} (k:kindOf st=κ) (e:Ge st z) (m:Mi f (a.toList++b.toList) out.toList (a.toList.drop ia) (b.toList.drop ib)) (h1:ia+1<a.size) (h2:ib<b.size)
  {Q:ForInStep JU->SortSt->Prop} (q1:∀r c,Ok f (a.toList++b.toList) r.toList->Q (.done (lD r,c)) z)
  (q2:∀o i j x y,Hd f a b o i j->i+1<a.size->i+j=ia+ib+1->Q (.done (Ld,o,i,j,x,y)) z/\Q (.yield (Ld,o,i,j,x,y)) z):
  fR (model prog w) A E J (l1 a b g (Ld,out,ia,ib,ac,bc)) Q z:=by
 unfold l1;dsimp only;have Vr:ia<a.size:=by omega
 refine ag (bi (getElem?_pos b ib h2) ?_);refine ag (bi (getElem?_pos a ia Vr) ?_);refine ag (sF C (t.Xi h2) (t.Xn Vr) (e.kind.trans k) ?_);dsimp only;by_cases l:f b[ib]<f a[ia]
 ·rw[if_pos (decide_eq_true l)]
  refine ag (bi (getElem?_pos b ib h2) ?_);have m:=m.py h2 fun j hj h3=>LF (MU l) (t.xs h3 hj);by_cases c:ib+1=b.size
  ·rw[if_pos (by simpa using c)];exact aj (q1 _ _ (m.nb (.inl (by omega))))
  ·rw[if_neg (by simpa using c)]
   have q2:=fun x y=>q2 _ _ _ x y ⟨m,Vr,by omega⟩ h1 (by omega);split
   ·exact aj (q2 _ _).1
   ·exact aj (q2 _ _).2
 ·rw[if_neg (by simpa using l)]
  refine ag (bi (getElem?_pos a ia Vr) ?_);have m:=m.px Vr fun j hj h3=>LF (NN l) (t.ys h3 hj);by_cases c:ia+1+1=a.size
  ·rw[if_pos (by simpa using c)];exact aj (q1 _ _ (m.l1 t c))
  ·rw[if_neg (by simpa using c)]
   have q2:=fun x y=>q2 _ _ _ x y ⟨m,by omega,h2⟩ (by omega) (by omega);split
   ·exact aj (q2 _ _).1
   ·exact aj (q2 _ _).2
theorem FV (C:Ask prog w A E J κ (·∈a₀.toList) f) (t:RB f a₀ a b) {st:SortSt} (k:kindOf st=κ) {Q:KL->SortSt->Prop} (h:∀r z,Ge st z->Ok f (a.toList++b.toList) r.toList->Q r z):
  fR (model prog w) A E J (J1 a b) Q st:=by
 rw[HI];refine ag (ja ?_);refine ag (bi (getElem?_pos b 0 t.nb) ?_);have m0:Mi f (a.toList++b.toList) (#[]:KL).toList (a.toList.drop 0) (b.toList.drop 0):=⟨by simp,.nil,fun p hp=>by simp at hp,t.sa,t.sb⟩;have m:=m0.py t.nb fun j hj _=>t.first _ (by simp);have nb:=t.nb;have e1:(#[]:KL).push (b[0])= #[b[0]]:=rfl;rw[e1] at m;by_cases c:1=b.size
 ·rw[if_pos (by simpa using c)];exact aj (h _ _ .rfl (m.nb (.inl (by omega))))
 rw[if_neg (by simpa using c)];by_cases c:0+1=a.size
 ·rw[if_pos (by simpa using c)];exact aj (h _ _ .rfl (m.l1 t c))
 rw[if_neg (by simpa using c)];have nb:=t.nb;have na:=t.na;refine ag (eW (ag (bz (cK (I:=fun x c z=>Ge st z/\c.1=Ld/\Hd f a b c.2.1 c.2.2.1 c.2.2.2.1/\c.2.2.1+1<a.size/\x+1<=c.2.2.1+c.2.2.2.1)
  (Q:=fun c z=>Ge st z/\∃r,c.1=lD r/\Ok f (a.toList++b.toList) r.toList) ?zs ?zf ⟨.rfl,rfl,⟨m,by show 0<_;omega,by show 1<_;omega⟩,by show 0+1<_;omega,Ll _⟩) ?zp)))
 case zp=>
  rintro⟨_,c⟩ z ⟨e,r,rfl,o⟩;exact aj (h r z e o)
 case zf=>
  rintro c z ⟨e,_,hd,h1,h2⟩;have:=hd.ib;omega
 case zs=>
  rintro x ⟨_,out,ia,ib,g⟩ z _ xn ⟨e,rfl,hd,h1,h2⟩;dsimp only at hd h1 h2⊢;unfold l0;dsimp only;refine ag (bz (cK (I:=fun y c z=>Ge st z/\c.1=Ld/\Hd f a b c.2.1 c.2.2.1 c.2.2.2.1/\c.2.2.1+1<a.size/\y+(x+1)<=c.2.2.1+c.2.2.2.1)
   (Q:=fun c z=>Ge st z/\((∃r,c.1=lD r/\Ok f (a.toList++b.toList) r.toList)\/(c.1=Ld/\Hd f a b c.2.1 c.2.2.1 c.2.2.2.1/\c.2.2.1+1<a.size/\x+1+1<=c.2.2.1+c.2.2.2.1))) ?s1 ?f1 ⟨e,rfl,hd,h1,by show 0+(x+1)<=ia+ib;omega⟩) ?p1)
  case f1=>
   rintro c z ⟨e,_,hd,h1,h2⟩;have:=hd.ib;omega
  case s1=>
   rintro y ⟨_,out,ia,ib,ac,bc⟩ z _ xn ⟨e,rfl,hd,h1,h2⟩;dsimp only at hd h1 h2;exact IS C t k e hd.mi h1 hd.ib (fun r c o=>⟨e,.inl ⟨r,rfl,o⟩⟩) fun o i j x y hd h3 h4=>⟨⟨e,.inr ⟨rfl,hd,h3,by dsimp only;omega⟩⟩,⟨e,rfl,hd,h3,by dsimp only;omega⟩⟩
  case p1=>
   rintro⟨_,out,ia,ib,ac,bc⟩ z ⟨e,⟨r,rfl,o⟩|⟨rfl,hd,h1,h2⟩⟩
   ·exact aj ⟨e,r,rfl,o⟩
   dsimp only at hd h1 h2⊢;refine ag (ja ?_);refine ag (bz (cK (I:=fun y c z=>c.1=Ld/\T2 f a b st (x+1+1) c z) (Q:=fun c z=>T2 f a b st (x+1+1) c z) ?s2 (fun c z q=>q.2) ⟨rfl,e,.inr ⟨rfl,hd,h1,h2⟩⟩) ?p2)
   case s2=>
    rintro y ⟨_,out,ia,ib,g,ac,bc⟩ z _ xn ⟨rfl,e,⟨r,c,_⟩|⟨_,hd,h1,h2⟩⟩
    ·cases c
    dsimp only at hd h1 h2⊢;have L:=fun g=>F5 C t (g:=g) (ac:=ac) (bc:=bc) k e hd.mi h1 hd.ib h2;split
    ·refine bz (L _) fun r z q=> ?_;cases r<;>exact q
    ·refine bz (L _) fun r z q=> ?_;cases r<;>exact q
   case p2=>
    rintro⟨_,out,ia,ib,g,ac,bc⟩ z ⟨e,⟨r,rfl,o⟩|⟨rfl,hd,h1,h2⟩⟩
    ·exact aj ⟨e,r,rfl,o⟩
    refine ag (lX e fun y e=>aj ⟨e,rfl,hd,h1,h2⟩)
end
end TS
namespace TS
open PySem PyProof.Rows
set_option autoImplicit true
noncomputable def Ku:KL->KL->SM KL:=sortPriv% PySem.Builtin.mergeHi
abbrev HS:=Option KL×Nat×Nat×KL×Nat
abbrev JO:=Option KL×Nat×Nat×KL×Nat×Nat
abbrev Im:=Option KL×Nat×Nat×KL×Nat×Nat×Nat
noncomputable def dh (a b out:KL) (na nb:Nat):KL:=a.extract 0 na++b.extract 0 nb++out.reverse
noncomputable def fb (a b out:KL) (na nb:Nat):KL:=b.extract 0 nb++a.extract 0 na++out.reverse
noncomputable def JF (a b out:KL) (na nb g ac bc:Nat):SM (ForInStep Im):=do
 let x<-elem' a (na - 1)
 if na - 1==0 then pure (.done (lD (dh a b (out.push x) (na - 1) nb),na - 1,nb,out.push x,g,ac,bc))
 else if ac<7&&bc<7 then pure (.done (Ld,na - 1,nb,out.push x,g,ac,bc)) else pure (.yield (Ld,na - 1,nb,out.push x,g,ac,bc))
noncomputable def Ig (a b out:KL) (na nb g ac bc:Nat):SM (ForInStep Im):=do
 let y<-elem' b (nb - 1)
 if nb - 1==1 then pure (.done (lD (fb a b (out.push y) na (nb - 1)),na,nb - 1,out.push y,g,ac,bc))
 else do
  let x<-elem' a (na - 1)
  match<-Fc Lk x b 0 (nb - 1) (nb - 1 - 1) with
  |some k=>
   if nb - 1 - k>0 then
    if k==1 then pure (.done (lD (fb a b (out.push y++(b.extract k (nb - 1)).reverse) na k),na,k,out.push y++(b.extract k (nb - 1)).reverse,g,ac,nb - 1 - k))
    else if k==0 then pure (.done (lD (dh a b (out.push y++(b.extract k (nb - 1)).reverse) na k),na,k,out.push y++(b.extract k (nb - 1)).reverse,g,ac,nb - 1 - k))
    else JF a b (out.push y++(b.extract k (nb - 1)).reverse) na k g ac (nb - 1 - k)
   else JF a b (out.push y) na (nb - 1) g ac (nb - 1 - k)
  |none=>pure (.done (lD (dh a b (out.push y) na (nb - 1)),na,nb - 1,out.push y,g,ac,bc))
noncomputable def Jc (a b out:KL) (na nb g ac bc:Nat):SM (ForInStep Im):=do
 yu g
 let y<-elem' b (nb - 1)
 match<-Fc Lw y a 0 na (na - 1) with
 |some k=>
  if na - k>0 then
   if k==0 then pure (.done (lD (dh a b (out++(a.extract k na).reverse) k nb),k,nb,out++(a.extract k na).reverse,g,na - k,bc))
   else Ig a b (out++(a.extract k na).reverse) k nb g (na - k) bc
  else Ig a b out na nb g (na - k) bc
 |none=>pure (.done (lD (dh a b out na nb),na,nb,out,g,ac,bc))
noncomputable def h1 (a b:KL) (g:Nat) (c:JO):SM (ForInStep JO):=do
 let y<-elem' b (c.2.2.1 - 1)
 let x<-elem' a (c.2.1 - 1)
 match<-lt' y x with
 |some w=>
  if w=Lk then do
   let x<-elem' a (c.2.1 - 1)
   if c.2.1 - 1==0 then pure (.done (lD (dh a b (c.2.2.2.1.push x) (c.2.1 - 1) c.2.2.1),c.2.1 - 1,c.2.2.1,c.2.2.2.1.push x,c.2.2.2.2.1+1,0))
   else if c.2.2.2.2.1+1≥g then pure (.done (Ld,c.2.1 - 1,c.2.2.1,c.2.2.2.1.push x,c.2.2.2.2.1+1,0)) else pure (.yield (Ld,c.2.1 - 1,c.2.2.1,c.2.2.2.1.push x,c.2.2.2.2.1+1,0))
  else do
   let y<-elem' b (c.2.2.1 - 1)
   if c.2.2.1 - 1==1 then pure (.done (lD (fb a b (c.2.2.2.1.push y) c.2.1 (c.2.2.1 - 1)),c.2.1,c.2.2.1 - 1,c.2.2.2.1.push y,0,c.2.2.2.2.2+1))
   else if c.2.2.2.2.2+1≥g then pure (.done (Ld,c.2.1,c.2.2.1 - 1,c.2.2.2.1.push y,0,c.2.2.2.2.2+1)) else pure (.yield (Ld,c.2.1,c.2.2.1 - 1,c.2.2.2.1.push y,0,c.2.2.2.2.2+1))
 |none=>pure (.done (lD (dh a b c.2.2.2.1 c.2.1 c.2.2.1),c.2.1,c.2.2.1,c.2.2.2.1,c.2.2.2.2.1,c.2.2.2.2.2))
noncomputable def h0 (a b:KL) (s:HS):SM (ForInStep HS):=do
 let c<-forIn [0:a.size+b.size] ((Ld,s.2.1,s.2.2.1,s.2.2.2.1,0,0):JO) fun _ c=>h1 a b s.2.2.2.2 c
 match c.1 with
 |some r=>pure (.done (lD r,c.2.1,c.2.2.1,c.2.2.2.1,s.2.2.2.2))
 |none=>do
  rule "list.sort.gallop"
  let d<-forIn [0:a.size+b.size] ((Ld,c.2.1,c.2.2.1,c.2.2.2.1,s.2.2.2.2+1,c.2.2.2.2.1,c.2.2.2.2.2):Im) fun _ d=>
   if d.2.2.2.2.1>1 then Jc a b d.2.2.2.1 d.2.1 d.2.2.1 (d.2.2.2.2.1 - 1) d.2.2.2.2.2.1 d.2.2.2.2.2.2 else Jc a b d.2.2.2.1 d.2.1 d.2.2.1 d.2.2.2.2.1 d.2.2.2.2.2.1 d.2.2.2.2.2.2
  match d.1 with
  |some r=>pure (.done (lD r,d.2.1,d.2.2.1,d.2.2.2.1,d.2.2.2.2.1))
  |none=>do
   yu (d.2.2.2.2.1+1)
   pure (.yield (Ld,d.2.1,d.2.2.1,d.2.2.2.1,d.2.2.2.2.1+1))
theorem G0 (a b:KL):Ku a b=(do
 rule "list.sort.merge-hi"
 let x<-elem' a (a.size - 1)
 if(a.size - 1==0)=Lk then pure (dh a b #[x] (a.size - 1) b.size)
 else if(b.size==1)=Lk then pure (fb a b #[x] (a.size - 1) b.size)
 else do
  let g<-get
  let s<-forIn [0:a.size+b.size] ((Ld,a.size - 1,b.size,#[x],gallopOf g):HS) fun _ s=>h0 a b s
  match s.1 with
  |some r=>pure r
  |none=>unsupported "internal:list.sort.merge-bound"):=by
 show(bind _ _:SM KL)=bind _ _;dsimp only;congr 1;funext _u;congr 1;funext y;refine ite_congr rfl (fun _=>rfl) fun _=> ?_;refine ite_congr rfl (fun _=>rfl) fun _=> ?_;congr 1;funext g;congr 1
 ·congr 1;funext _x s
  unfold h0;congr 1
  ·congr 1;funext _x c
   unfold h1;congr 1;funext y;congr 1;funext x;congr 1;funext v;cases v with
   |none=>rfl
   |some v=>rfl
  ·funext c
   obtain⟨r,c⟩:=c;cases r with
   |some r=>rfl
   |none=>
    dsimp only;congr 1;funext _v;congr 1
    ·congr 1;funext _x d
     refine ite_congr rfl (fun _=> ?_) fun _=> ?_
     all_goals
      unfold Jc;congr 1;funext _z;congr 1;funext y;congr 1;funext k;cases k with
      |none=>rfl
      |some k=>
       dsimp only;refine ite_congr rfl (fun _=> ?_) fun _=> ?_
       ·refine ite_congr rfl (fun _=>rfl) fun _=> ?_
        unfold Ig;congr 1;funext y;refine ite_congr rfl (fun _=>rfl) fun _=> ?_;congr 1;funext x;congr 1;funext k1;cases k1 with
        |none=>rfl
        |some k1=>rfl
       ·unfold Ig;congr 1;funext y
        refine ite_congr rfl (fun _=>rfl) fun _=> ?_;congr 1;funext x;congr 1;funext k1;cases k1 with
        |none=>rfl
        |some k1=>rfl
    ·funext d
     obtain⟨r,d⟩:=d;cases r with
     |some r=>rfl
     |none=>rfl
 ·funext s
  obtain⟨r,s⟩:=s;cases r with
  |some r=>rfl
  |none=>rfl
end TS
namespace TS
open PySem PyProof.Rows
set_option autoImplicit true
structure Mh (f:Keyed->Nat) (T o X Y:List Keyed):Prop where
 perm:(X++Y++o).Perm T
 so:o.Pairwise (Le f)
 bd:∀z,z∈X\/z∈Y->∀p∈o,f z<=f p
 sx:X.Pairwise (Le f)
 sy:Y.Pairwise (Le f)
section
variable {f:Keyed->Nat} {T o X Y P:List Keyed}
theorem Mh.swap (m:Mh f T o X Y):Mh f T o Y X where
 perm:=(acd o Qi).trans m.perm
 so:=m.so
 bd:=fun z hz=>m.bd z hz.symm
 sx:=m.sy
 sy:=m.sx
theorem Mh.y (m:Mh f T o X (Y++P)) (h:∀x∈X,∀p∈P,f x<=f p):Mh f T (P++o) X Y where
 perm:=by have:=m.perm;simpa only[LP] using this
 so:=Mn.mpr ⟨(Mn.mp m.sy).2.1,m.so,fun p hp z hz=>m.bd p (.inr (LO _ hp)) z hz⟩
 bd:=fun z hz p hp=>by
  rcases LM.mp hp with q|q
  ·rcases hz with hz|hz
   ·exact h z hz p q
   ·exact(Mn.mp m.sy).2.2 z hz p q
  ·exact m.bd z (hz.imp id (Mm _)) p q
 sx:=m.sx
 sy:=(Mn.mp m.sy).1
theorem Mh.x (m:Mh f T o (X++P) Y) (h:∀y∈Y,∀p∈P,f y<=f p):Mh f T (P++o) X Y:=(m.swap.y h).swap
theorem Mh.dn (m:Mh f T o X Y) (h:∀x∈X,∀y∈Y,f x<=f y):Ok f T (X++Y++o) where
 perm:=m.perm
 so:=Mn.mpr ⟨Mn.mpr ⟨m.sx,m.sy,h⟩,m.so,fun p hp z hz=>m.bd p (LM.mp hp) z hz⟩
end
section
variable {prog:LR} {w:Mg} {A:L0} {E:Lf->Lm->Prop} {J:Lm->Prop} {κ:SortKind} {a₀:Array Keyed} {f:Keyed->Nat} {a b:KL}
noncomputable abbrev MH (f:Keyed->Nat) (a b out:KL) (na nb:Nat):Prop:=Mh f (a.toList++b.toList) out.toList.reverse (a.toList.take na) (b.toList.take nb)
theorem EG (i:Nat):(a.extract 0 i).toList=a.toList.take i:=by rw[n5];simp
theorem Kq (out:KL) (na nb:Nat):(dh a b out na nb).toList=a.toList.take na++b.toList.take nb++out.toList.reverse:=by unfold dh;rw[My,My,EG,EG,OH]
theorem Ks (out:KL) (na nb:Nat):(fb a b out na nb).toList=b.toList.take nb++a.toList.take na++out.toList.reverse:=by unfold fb;rw[My,My,EG,EG,OH]
theorem zY {i:Nat} (h0:0<i) (h:i<=a.size):a.toList.take i=a.toList.take (i - 1)++[a[i - 1]]:=by have:=List.take_succ_eq_append_getElem (l:=a.toList) (i:=i - 1) (by simp;omega);rw[show i - 1+1=i by omega] at this;rw[this];simp
theorem Cb {i k:Nat} (h:k<=i):a.toList.take i=a.toList.take k++(a.toList.drop k).take (i - k):=by
 have:i=k+(i - k):=by omega
 conv=>lhs;rw[this]
 exact List.take_add
theorem Mh.px {out:KL} {na nb:Nat} (m:MH f a b out na nb) (h0:0<na) (h:na<=a.size) (q:∀j (hj:j<b.size),j<nb->f b[j]<=f a[na - 1]):MH f a b (out.push a[na - 1]) (na - 1) nb:=by unfold MH at m⊢;rw[zY h0 h] at m;rw[Oq,OQ];refine Mh.x m fun y hy p hp=> ?_;rw[Lx.mp hp];obtain⟨j,hj,h1,rfl⟩:=ig hy;exact q j hj h1
theorem Mh.py {out:KL} {na nb:Nat} (m:MH f a b out na nb) (h0:0<nb) (h:nb<=b.size) (q:∀j (hj:j<a.size),j<na->f a[j]<=f b[nb - 1]):MH f a b (out.push b[nb - 1]) na (nb - 1):=by unfold MH at m⊢;rw[zY h0 h] at m;rw[Oq,OQ];refine Mh.y m fun y hy p hp=> ?_;rw[Lx.mp hp];obtain⟨j,hj,h1,rfl⟩:=ig hy;exact q j hj h1
theorem Mh.kx {out:KL} {na nb k:Nat} (m:MH f a b out na nb) (h:k<=na) (q:∀i (hi:i<a.size),k<=i->i<na->∀j (hj:j<b.size),j<nb->f b[j]<=f a[i]):MH f a b (out++(a.extract k na).reverse) k nb:=by unfold MH at m⊢;rw[Cb h] at m;rw[My,OH,OQ,Td,n5];refine Mh.x m fun y hy p hp=> ?_;obtain⟨i,hi,h1,h2,rfl⟩:=oI hp;obtain⟨j,hj,h3,rfl⟩:=ig hy;exact q i hi h1 (by omega) j hj h3
theorem Mh.ky {out:KL} {na nb k:Nat} (m:MH f a b out na nb) (h:k<=nb) (q:∀i (hi:i<b.size),k<=i->i<nb->∀j (hj:j<a.size),j<na->f a[j]<=f b[i]):MH f a b (out++(b.extract k nb).reverse) na k:=by unfold MH at m⊢;rw[Cb h] at m;rw[My,OH,OQ,Td,n5];refine Mh.y m fun y hy p hp=> ?_;obtain⟨i,hi,h1,h2,rfl⟩:=oI hp;obtain⟨j,hj,h3,rfl⟩:=ig hy;exact q i hi h1 (by omega) j hj h3
theorem Mh.nb {out:KL} {na nb:Nat} (m:MH f a b out na nb) (h:na=0\/nb=0):Ok f (a.toList++b.toList) (dh a b out na nb).toList:=by rw[Kq];refine Mh.dn m fun x hx y hy=> ?_;obtain⟨j,hj,h1,rfl⟩:=ig hx;obtain⟨i,hi,h2,rfl⟩:=ig hy;omega
theorem Mh.l1 (t:RB f a₀ a b) {out:KL} {na nb:Nat} (m:MH f a b out na nb) (h:nb=1):Ok f (a.toList++b.toList) (fb a b out na nb).toList:=by
 rw[Ks];refine m.swap.dn fun y hy x hx=> ?_;obtain⟨j,hj,h1,rfl⟩:=ig hy;have:j=0:=by omega
 subst this;exact t.first x (Qo hx)
structure Hh (f:Keyed->Nat) (a b out:KL) (na nb:Nat):Prop where
 mi:MH f a b out na nb
 a0:0<na
 a1:na<=a.size
 b0:1<nb
 b1:nb<=b.size
def U2 (f:Keyed->Nat) (a b:KL) (st:SortSt) (n:Nat) (d:Im) (z:SortSt):Prop:=Ge st z/\((∃r,d.1=lD r/\Ok f (a.toList++b.toList) r.toList)\/(d.1=Ld/\Hh f a b d.2.2.2.1 d.2.1 d.2.2.1/\d.2.1+d.2.2.1<=n))
noncomputable abbrev G2 (f:Keyed->Nat) (a b:KL) (st:SortSt) (n:Nat) (r:ForInStep Im) (z:SortSt):Prop:=match r with
 | .done d=>U2 f a b st n d z
 | .yield d=>d.1=Ld/\U2 f a b st n d z
theorem BK (t:RB f a₀ a b) {out:KL} {na nb g ac bc n:Nat} {st z:SortSt} (e:Ge st z) (m:Hh f a b out na nb) (hn:na+nb<=n) (hx:na - 1<a.size)
  (q:∀j (hj:j<b.size),j<nb->f b[j]<=f a[na - 1]):fR (model prog w) A E J (JF a b out na nb g ac bc) (G2 f a b st n) z:=by
 obtain⟨m,a0,a1,b0,b1⟩:=m;unfold JF;refine ag (bi (getElem?_pos a (na - 1) (by omega)) ?_);have m:=m.px a0 a1 q;by_cases c:na - 1=0
 ·rw[if_pos (by simpa using c)];exact aj ⟨e,.inl ⟨_,rfl,m.nb (.inl c)⟩⟩
 ·rw[if_neg (by simpa using c)]
  by_cases d:(decide (ac<7)&&decide (bc<7))=Lk
  ·rw[if_pos d];exact aj ⟨e,.inr ⟨rfl,⟨m,by dsimp only;omega,by dsimp only;omega,b0,b1⟩,by dsimp only;omega⟩⟩
  ·rw[if_neg d];exact aj ⟨rfl,e,.inr ⟨rfl,⟨m,by dsimp only;omega,by dsimp only;omega,b0,b1⟩,by dsimp only;omega⟩⟩
theorem CA (C:Ask prog w A E J κ (·∈a₀.toList) f) (t:RB f a₀ a b) {out:KL} {na nb g ac bc n:Nat} {st z:SortSt} (k:kindOf st=κ) (e:Ge st z) (m:Hh f a b out na nb) (hn:na+nb<=n) (hx:nb - 1<b.size)
  (q:∀j (hj:j<a.size),j<na->f a[j]<=f b[nb - 1]):fR (model prog w) A E J (Ig a b out na nb g ac bc) (G2 f a b st n) z:=by
 obtain⟨m,a0,a1,b0,b1⟩:=m;unfold Ig;refine ag (bi (getElem?_pos b (nb - 1) (by omega)) ?_);have m:=m.py (by omega) b1 q;by_cases c:nb - 1=1
 ·rw[if_pos (by simpa using c)];exact aj ⟨e,.inl ⟨_,rfl,m.l1 t c⟩⟩
 ·rw[if_neg (by simpa using c)]
  refine ag (bi (getElem?_pos a (na - 1) (by omega)) ?_);refine ag (kJ C (e.kind.trans k) (t.Xn (by omega)) (fun i=>decide (if h:i<b.size then f b[i]<f a[na - 1] else False)) (fun i hi=>⟨b[i],t.Xi _,by rw[OY];exact getElem?_pos b _ (by omega),?_⟩) (fun i j ij hj q=> ?_) (by omega) fun k1 k2 k3 k4=> ?_)
  ·unfold Bt;simp only[if_true];exact decide_eq_decide.mpr (by rw[dif_pos (by omega)])
  ·have q:=of_decide_eq_true q;rw[dif_pos (by omega)] at q;refine decide_eq_true ?_;rw[dif_pos (by omega)];exact Pc (t.ys (by omega) (by omega)) q
  have K3:∀i (hi:i<b.size),i<k1->f b[i]<=f a[na - 1]:=fun i hi h4=>by have:=of_decide_eq_true (k3 i h4);rw[dif_pos (by omega)] at this;exact MU this
  have K4:∀i (hi:i<b.size),k1<=i->i<nb - 1->f a[na - 1]<=f b[i]:=fun i hi h3 h4=>by have:=of_decide_eq_false (k4 i h3 h4);rw[dif_pos (by omega)] at this;exact NN this
  dsimp only;by_cases k0:nb - 1 - k1>0
  ·rw[if_pos k0]
   have m:=m.ky (k:=k1) k2 fun i hi h3 h4 j hj h5=>LF (t.xs (j:=na - 1) (by omega) (by omega)) (K4 i hi h3 h4);by_cases c2:k1=1
   ·rw[if_pos (by simpa using c2)];exact aj ⟨e,.inl ⟨_,rfl,m.l1 t c2⟩⟩
   ·rw[if_neg (by simpa using c2)]
    by_cases c3:k1=0
    ·rw[if_pos (by simpa using c3)];exact aj ⟨e,.inl ⟨_,rfl,m.nb (.inr c3)⟩⟩
    ·rw[if_neg (by simpa using c3)];exact BK t e ⟨m,a0,a1,by omega,by omega⟩ (by omega) (by omega) K3
  ·rw[if_neg k0]
   have:k1=nb - 1:=by omega
   subst this;exact BK t e ⟨m,a0,a1,by omega,by omega⟩ (by omega) (by omega) K3
theorem Hk (C:Ask prog w A E J κ (·∈a₀.toList) f) (t:RB f a₀ a b) {out:KL} {na nb g ac bc n:Nat} {st z:SortSt} (k:kindOf st=κ) (e:Ge st z) (m:Hh f a b out na nb) (hn:na+nb<=n):
  fR (model prog w) A E J (Jc a b out na nb g ac bc) (G2 f a b st n) z:=by
 obtain⟨m,a0,a1,b0,b1⟩:=m;unfold Jc;refine ag (lX e fun y e=> ?_);refine ag (bi (getElem?_pos b (nb - 1) (by omega)) ?_);refine ag (kJ C (e.kind.trans k) (t.Xi (by omega)) (fun i=>decide (if h:i<a.size then f a[i]<=f b[nb - 1] else False)) (fun i hi=>⟨a[i],t.Xn _,by rw[OY];exact getElem?_pos a _ (by omega),?_⟩) (fun i j ij hj q=> ?_) (by omega) fun k1 k2 k3 k4=> ?_)
 ·unfold Bt;simp only[Lr,if_false];exact decide_eq_decide.mpr (by rw[dif_pos (by omega)])
 ·have q:=of_decide_eq_true q;rw[dif_pos (by omega)] at q;refine decide_eq_true ?_;rw[dif_pos (by omega)];exact LF (t.xs (by omega) (by omega)) q
 have K3:∀i (hi:i<a.size),i<k1->f a[i]<=f b[nb - 1]:=fun i hi h4=>by have:=of_decide_eq_true (k3 i h4);rw[dif_pos (by omega)] at this;exact this
 have K4:∀i (hi:i<a.size),k1<=i->i<na->f b[nb - 1]<=f a[i]:=fun i hi h3 h4=>by have:=of_decide_eq_false (k4 i h3 h4);rw[dif_pos (by omega)] at this;omega
 dsimp only;by_cases k0:na - k1>0
 ·rw[if_pos k0]
  have m:=m.kx (k:=k1) k2 fun i hi h3 h4 j hj h5=>LF (t.ys (j:=nb - 1) (by omega) (by omega)) (K4 i hi h3 h4);by_cases c:k1=0
  ·rw[if_pos (by simpa using c)];exact aj ⟨e,.inl ⟨_,rfl,m.nb (.inl c)⟩⟩
  ·rw[if_neg (by simpa using c)];exact CA C t k e ⟨m,by omega,by omega,b0,b1⟩ (by omega) (by omega) K3
 ·rw[if_neg k0]
  have:k1=na:=by omega
  subst this;exact CA C t k e ⟨m,a0,a1,b0,b1⟩ hn (by omega) K3
theorem IY (C:Ask prog w A E J κ (·∈a₀.toList) f) (t:RB f a₀ a b) {out:KL} {na nb g ac bc:Nat} {st z:SortSt} (k:kindOf st=κ) (e:Ge st z) (m:Hh f a b out na nb)
  {Q:ForInStep JO->SortSt->Prop} (q1:∀r c,Ok f (a.toList++b.toList) r.toList->Q (.done (lD r,c)) z)
  (q2:∀o i j x y,Hh f a b o i j->i+j+1=na+nb->Q (.done (Ld,i,j,o,x,y)) z/\Q (.yield (Ld,i,j,o,x,y)) z):
  fR (model prog w) A E J (h1 a b g (Ld,na,nb,out,ac,bc)) Q z:=by
 obtain⟨m,a0,a1,b0,b1⟩:=m;unfold h1;dsimp only;have Vr:na - 1<a.size:=by omega
 have Zt:nb - 1<b.size:=by omega
 refine ag (bi (getElem?_pos b (nb - 1) Zt) ?_);refine ag (bi (getElem?_pos a (na - 1) Vr) ?_);refine ag (sF C (t.Xi Zt) (t.Xn Vr) (e.kind.trans k) ?_);dsimp only;by_cases l:f b[nb - 1]<f a[na - 1]
 ·rw[if_pos (decide_eq_true l)]
  refine ag (bi (getElem?_pos a (na - 1) Vr) ?_);have m:=m.px a0 a1 fun j hj h3=>LF (t.ys (by omega) Zt) (MU l);by_cases c:na - 1=0
  ·rw[if_pos (by simpa using c)];exact aj (q1 _ _ (m.nb (.inl c)))
  ·rw[if_neg (by simpa using c)]
   have q2:=fun x y=>q2 _ _ _ x y ⟨m,by omega,by omega,b0,b1⟩ (by omega);split
   ·exact aj (q2 _ _).1
   ·exact aj (q2 _ _).2
 ·rw[if_neg (by simpa using l)]
  refine ag (bi (getElem?_pos b (nb - 1) Zt) ?_);have m:=m.py (by omega) b1 fun j hj h3=>LF (t.xs (by omega) Vr) (NN l);by_cases c:nb - 1=1
  ·rw[if_pos (by simpa using c)];exact aj (q1 _ _ (m.l1 t c))
  ·rw[if_neg (by simpa using c)]
   have q2:=fun x y=>q2 _ _ _ x y ⟨m,a0,a1,by omega,by omega⟩ (by omega);split
   ·exact aj (q2 _ _).1
   ·exact aj (q2 _ _).2
theorem Hb (C:Ask prog w A E J κ (·∈a₀.toList) f) (t:RB f a₀ a b) {st:SortSt} (k:kindOf st=κ) {Q:KL->SortSt->Prop} (h:∀r z,Ge st z->Ok f (a.toList++b.toList) r.toList->Q r z):
  fR (model prog w) A E J (Ku a b) Q st:=by
 rw[G0];have nb:=t.nb;have na:=t.na;refine ag (ja ?_);refine ag (bi (getElem?_pos a (a.size - 1) (by omega)) ?_);have ta:a.toList.take a.size=a.toList:=MX (by simp);have tb:b.toList.take b.size=b.toList:=MX (by simp);have m0:MH f a b (#[]:KL) a.size b.size:=⟨by rw[ta,tb];simp,.nil,fun z _ p hp=>by simp at hp,by rw[ta];exact t.sa,by rw[tb];exact t.sb⟩;have m:=m0.px na (Ll _) fun j hj _=>t.last _ (by simp);have e1:(#[]:KL).push (a[a.size - 1])= #[a[a.size - 1]]:=rfl;rw[e1] at m;by_cases c:a.size - 1=0
 ·rw[if_pos (by simpa using c)];exact aj (h _ _ .rfl (m.nb (.inl c)))
 rw[if_neg (by simpa using c)];by_cases c:b.size=1
 ·rw[if_pos (by simpa using c)];exact aj (h _ _ .rfl (m.l1 t c))
 rw[if_neg (by simpa using c)];refine ag (eW (ag (bz (cK (I:=fun x c z=>Ge st z/\c.1=Ld/\Hh f a b c.2.2.2.1 c.2.1 c.2.2.1/\c.2.1+c.2.2.1+x+1<=a.size+b.size)
  (Q:=fun c z=>Ge st z/\∃r,c.1=lD r/\Ok f (a.toList++b.toList) r.toList) ?zs ?zf ⟨.rfl,rfl,⟨m,by dsimp only;omega,by dsimp only;omega,by dsimp only;omega,Ll _⟩,by dsimp only;omega⟩) ?zp)))
 case zp=>
  rintro⟨_,c⟩ z ⟨e,r,rfl,o⟩;exact aj (h r z e o)
 case zf=>
  rintro c z ⟨e,_,hd,h2⟩;have:=hd.b0;omega
 case zs=>
  rintro x ⟨_,na,nb,out,g⟩ z _ xn ⟨e,rfl,hd,h2⟩;dsimp only at hd h2⊢;unfold h0;dsimp only;refine ag (bz (cK (I:=fun y c z=>Ge st z/\c.1=Ld/\Hh f a b c.2.2.2.1 c.2.1 c.2.2.1/\c.2.1+c.2.2.1+y+(x+1)<=a.size+b.size)
   (Q:=fun c z=>Ge st z/\((∃r,c.1=lD r/\Ok f (a.toList++b.toList) r.toList)\/(c.1=Ld/\Hh f a b c.2.2.2.1 c.2.1 c.2.2.1/\c.2.1+c.2.2.1<=a.size+b.size - (x+1+1)))) ?s1 ?f1 ⟨e,rfl,hd,by dsimp only;omega⟩) ?p1)
  case f1=>
   rintro c z ⟨e,_,hd,h2⟩;have:=hd.b0;omega
  case s1=>
   rintro y ⟨_,na,nb,out,ac,bc⟩ z _ xn ⟨e,rfl,hd,h2⟩;dsimp only at hd h2;exact IY C t k e hd (fun r c o=>⟨e,.inl ⟨r,rfl,o⟩⟩) fun o i j x y hd h4=>⟨⟨e,.inr ⟨rfl,hd,by dsimp only;omega⟩⟩,⟨e,rfl,hd,by dsimp only;omega⟩⟩
  case p1=>
   rintro⟨_,na,nb,out,ac,bc⟩ z ⟨e,⟨r,rfl,o⟩|⟨rfl,hd,h2⟩⟩
   ·exact aj ⟨e,r,rfl,o⟩
   dsimp only at hd h2⊢;refine ag (ja ?_);refine ag (bz (cK (I:=fun y c z=>c.1=Ld/\U2 f a b st (a.size+b.size - (x+1+1)) c z) (Q:=fun c z=>U2 f a b st (a.size+b.size - (x+1+1)) c z) ?s2 (fun c z q=>q.2) ⟨rfl,e,.inr ⟨rfl,hd,h2⟩⟩) ?p2)
   case s2=>
    rintro y ⟨_,na,nb,out,g,ac,bc⟩ z _ xn ⟨rfl,e,⟨r,c,_⟩|⟨_,hd,h2⟩⟩
    ·cases c
    dsimp only at hd h2⊢;have L:=fun g=>Hk C t (g:=g) (ac:=ac) (bc:=bc) k e hd h2;split
    ·refine bz (L _) fun r z q=> ?_;cases r<;>exact q
    ·refine bz (L _) fun r z q=> ?_;cases r<;>exact q
   case p2=>
    rintro⟨_,na,nb,out,g,ac,bc⟩ z ⟨e,⟨r,rfl,o⟩|⟨rfl,hd,h2⟩⟩
    ·exact aj ⟨e,r,rfl,o⟩
    dsimp only at hd h2;have:=hd.b0;refine ag (lX e fun y e=>aj ⟨e,rfl,hd,by dsimp only;omega⟩)
end
end TS
namespace TS
open PySem PyProof.Rows
set_option autoImplicit true
noncomputable def cA (lo a n:Nat):SM (Option (Option Nat)×Nat):=
 forIn [a:n] ((Ld,a):Option (Option Nat)×Nat) fun _ c=>do
  match<-ltAt' (lo+c.2) (lo+c.2 - 1) with
  |some s=>if s=Lk then pure (.done (Ld,c.2)) else pure (.yield (Ld,c.2+1))
  |none=>pure (.done (lD Ld,c.2))
noncomputable def cC (lo a n:Nat):SM (Option Nat):=do
 reverseSlice' lo (lo+a)
 let c<-cA lo a n
 match c.1 with
 |some r=>pure r
 |none=>pure (lD c.2)
noncomputable def cD (lo a n:Nat):SM (Option (Option Nat)×Nat×Nat):=
 forIn [a:n] ((Ld,a,0):Option (Option Nat)×Nat×Nat) fun _ c=>do
  match<-ltAt' (lo+c.2.1) (lo+c.2.1 - 1) with
  |some s=>
   if s=Lk then
    if c.2.2>0 then do
     reverseSlice' (lo+c.2.1 - (c.2.2+1)) (lo+c.2.1)
     pure (.yield (Ld,c.2.1+1,0))
    else pure (.yield (Ld,c.2.1+1,0))
   else do
    match<-ltAt' (lo+c.2.1 - 1) (lo+c.2.1) with
    |some g=>if g=Lk then pure (.done (Ld,c.2.1,c.2.2)) else pure (.yield (Ld,c.2.1+1,c.2.2+1))
    |none=>pure (.done (lD Ld,c.2.1,c.2.2))
  |none=>pure (.done (lD Ld,c.2.1,c.2.2))
noncomputable def cB (lo a n:Nat):SM (Option Nat):=do
 rule "list.sort.descending-run"
 let c<-cD lo (a+1) n
 match c.1 with
 |some r=>pure r
 |none=>
  if c.2.2>0 then do
   reverseSlice' (lo+c.2.1 - (c.2.2+1)) (lo+c.2.1)
   cC lo c.2.1 n
  else cC lo c.2.1 n
theorem bc {α β:Type} {m m':SM α} {k k':α->SM β} (h:m=m') (q:∀x,k x=k' x):m>>=k=m'>>=k':=by subst h;congr 1;funext x;exact q x
theorem Jk (lo n:Nat):countRun' lo n=(do
  let c<-cA lo 1 n
  match c.1 with
  |some r=>pure r
  |none=>
   if(c.2==n)=Lk then pure (lD c.2)
   else if c.2>1 then do
    match<-ltAt' lo (lo+c.2 - 1) with
    |some s=>if s=Lk then pure (lD c.2) else do
      reverseSlice' lo (lo+c.2)
      cB lo c.2 n
    |none=>pure Ld
   else cB lo c.2 n):=by
 rw[countRun'_eq];dsimp only;refine bc (by unfold cA;congr 1;funext _x c;refine bc rfl fun v=> ?_;cases v<;>rfl) fun c=> ?_;obtain⟨r,a⟩:=c;cases r with
 |some r=>rfl
 |none=>
  dsimp only;refine ite_congr rfl (fun _=>rfl) fun _=> ?_;refine ite_congr rfl (fun _=>bc rfl fun v=> ?_) fun _=> ?_
  ·cases v with
   |none=>rfl
   |some v=>
    refine ite_congr rfl (fun _=>rfl) fun _=>bc rfl fun _=> ?_;unfold cB cC;refine bc rfl fun _=>bc (by unfold cD;congr 1;funext _x c;refine bc rfl fun v=> ?_;cases v with|none=>rfl|some v=>exact ite_congr rfl (fun _=>rfl) fun _=>bc rfl fun v=>by cases v<;>rfl) fun d=> ?_;obtain⟨r,d,q⟩:=d;cases r with
    |some r=>rfl
    |none=>
     dsimp only;refine ite_congr rfl (fun _=>bc rfl fun _=>bc rfl fun _=>bc (by unfold cA;congr 1;funext _x c;refine bc rfl fun v=> ?_;cases v<;>rfl) fun e=> ?_) fun _=>bc rfl fun _=>bc (by unfold cA;congr 1;funext _x c;refine bc rfl fun v=> ?_;cases v<;>rfl) fun e=> ?_
     ·obtain⟨r,e⟩:=e;cases r<;>rfl
     ·obtain⟨r,e⟩:=e;cases r<;>rfl
  ·unfold cB cC
   refine bc rfl fun _=>bc (by unfold cD;congr 1;funext _x c;refine bc rfl fun v=> ?_;cases v with|none=>rfl|some v=>exact ite_congr rfl (fun _=>rfl) fun _=>bc rfl fun v=>by cases v<;>rfl) fun d=> ?_;obtain⟨r,d,q⟩:=d;cases r with
   |some r=>rfl
   |none=>
    dsimp only;refine ite_congr rfl (fun _=>bc rfl fun _=>bc rfl fun _=>bc (by unfold cA;congr 1;funext _x c;refine bc rfl fun v=> ?_;cases v<;>rfl) fun e=> ?_) fun _=>bc rfl fun _=>bc (by unfold cA;congr 1;funext _x c;refine bc rfl fun v=> ?_;cases v<;>rfl) fun e=> ?_
    ·obtain⟨r,e⟩:=e;cases r<;>rfl
    ·obtain⟨r,e⟩:=e;cases r<;>rfl
section
variable {prog:LR} {w:Mg} {A:L0} {E:Lf->Lm->Prop} {J:Lm->Prop} {κ:SortKind} {a₀:Array Keyed} {f:Keyed->Nat}
def Fa (f:Keyed->Nat) (xs:Array Keyed) (a b:Nat):Prop:=∀i j,a<=i->i<=j->j<b->R f xs j<=R f xs i
theorem j5 {xs:Array Keyed} {i j:Nat} (hj:j<=xs.size) (h:∀k,i<=k->k<j->R f xs k=R f xs (j - 1)) (k:Nat):
  R f (mirror xs i j ((j - i)/2)) k=R f xs k:=by
 rw[nA hj];split
 ·rw[h _ (by omega) (by omega),h k (by omega) (by omega)]
 ·rfl
theorem E6 (C:Ask prog w A E J κ (·∈a₀.toList) f) {st:SortSt} {lo a n:Nat} {Q:Option (Option Nat)×Nat->SortSt->Prop} (hn:lo+n<=a₀.size) (h1:1<=a) (an:a<=n) (g:Gd κ a₀ st) (hs:So f (arrOf st) lo (lo+a))
  (h:∀m,a<=m->m<=n->So f (arrOf st) lo (lo+m)->(m=n\/R f (arrOf st) (lo+m)<R f (arrOf st) (lo+m - 1))->Q (Ld,m) st):
  fR (model prog w) A E J (cA lo a n) Q st:=by
 unfold cA;refine cK (I:=fun x c z=>z=st/\c=(Ld,x)/\So f (arrOf st) lo (lo+x)) ?s ?f ⟨rfl,rfl,hs⟩
 case f=>
  rintro c z ⟨rfl,rfl,k⟩;rw[show max a n=n by omega] at k⊢;exact h n an (Ll _) k (.inl rfl)
 case s=>
  rintro x c z ax xn ⟨rfl,rfl,k⟩;dsimp only;refine ag (ke C g (by omega) (by omega) ?_);by_cases l:R f (arrOf z) (lo+x)<R f (arrOf z) (lo+x - 1)
  ·simp only[l,decide_true,if_true];exact aj (h x ax (by omega) k (.inr l))
  ·simp only[l,decide_false,Lr,if_false]
   refine aj ⟨rfl,rfl,fun i j p1 p2 p3=> ?_⟩;by_cases q:j<lo+x
   ·exact k i j p1 p2 q
   ·have e:j=lo+x:=by omega
    subst e;by_cases q2:i=lo+x
    ·rw[q2];exact Ll _
    ·exact LF (k i (lo+x - 1) p1 (by omega) (by omega)) (NN l)
theorem EL (C:Ask prog w A E J κ (·∈a₀.toList) f) {st z:SortSt} {lo a n:Nat} {Q:Option Nat->SortSt->Prop} (hn:lo+n<=a₀.size) (h1:1<=a) (an:a<=n) (u:Up κ a₀ f lo st z) (hs:Fa f (arrOf z) lo (lo+a))
  (h:∀m y,Up κ a₀ f lo st y->1<=m->m<=n->So f (arrOf y) lo (lo+m)->Q (lD m) y):fR (model prog w) A E J (cC lo a n) Q z:=by
 unfold cC;refine ag (qU ?_);have u2:=u.Zr (i:=lo) (j:=lo+a) (Ll _) (by omega);refine ag (E6 C hn h1 an u2.gd (fun i j p1 p2 p3=> ?_) fun m m1 m2 k _=>aj (h m _ u2 (by omega) m2 k));show R f (mirror (arrOf z) lo (lo+a) _) i<=R f (mirror (arrOf z) lo (lo+a) _) j;have sz:lo+a<=(arrOf z).size:=by rw[u.gd.size];omega
 rw[nA sz,nA sz,if_pos (by omega),if_pos (by omega)];exact hs _ _ (by omega) (by omega) (by omega)
theorem IE (C:Ask prog w A E J κ (·∈a₀.toList) f) {st z:SortSt} {lo a n:Nat} {Q:Option (Option Nat)×Nat×Nat->SortSt->Prop} (hn:lo+n<=a₀.size) (h1:1<=a) (an:a<=n) (u:Up κ a₀ f lo st z) (hs:Fa f (arrOf z) lo (lo+a))
  (h:∀m q y,Up κ a₀ f lo st y->a<=m->m<=n->Fa f (arrOf y) lo (lo+m)->q+1<=m->(∀i,lo+m - (q+1)<=i->i<lo+m->R f (arrOf y) i=R f (arrOf y) (lo+m - 1))->Q (Ld,m,q) y):
  fR (model prog w) A E J (cD lo a n) Q z:=by
 unfold cD;refine cK (I:=fun x c y=>∃q,c=(Ld,x,q)/\Up κ a₀ f lo st y/\Fa f (arrOf y) lo (lo+x)/\q+1<=x/\
   (∀i,lo+x - (q+1)<=i->i<lo+x->R f (arrOf y) i=R f (arrOf y) (lo+x - 1))) ?s ?f ⟨0,rfl,u,hs,by omega,fun i p1 p2=>by congr 1;omega⟩
 case f=>
  rintro c y ⟨q,rfl,u,k,q1,q2⟩;rw[show max a n=n by omega] at k q1 q2⊢;exact h n q y u an (Ll _) k q1 q2
 case s=>
  rintro x c y ax xn ⟨q,rfl,u,k,q1,q2⟩;dsimp only;have sz:lo+x<=(arrOf y).size:=by rw[u.gd.size];omega
  refine ag (ke C u.gd (by omega) (by omega) ?_);by_cases l:R f (arrOf y) (lo+x)<R f (arrOf y) (lo+x - 1)
  ·simp only[l,decide_true,if_true]
   have one:∀xs:Array Keyed,(∀k,R f xs k=R f (arrOf y) k)->Fa f xs lo (lo+(x+1)):=by
    intro xs e i j p1 p2 p3;rw[e,e];by_cases c:j<lo+x
    ·exact k i j p1 p2 c
    ·have e:j=lo+x:=by omega
     subst e;by_cases c2:i=lo+x
     ·rw[c2];exact Ll _
     ·exact LF (MU l) (k i (lo+x - 1) p1 (by omega) (by omega))
   by_cases c:q>0
   ·rw[if_pos c];refine ag (qU (aj ⟨0,rfl,u.Zr (by omega) (by omega),one _ (j5 sz q2),by omega,fun i p1 p2=>by congr 1;omega⟩))
   ·rw[if_neg c];exact aj ⟨0,rfl,u,one _ (fun _=>rfl),by omega,fun i p1 p2=>by congr 1;omega⟩
  ·simp only[l,decide_false,Lr,if_false]
   refine ag (ke C u.gd (by omega) (by omega) ?_);by_cases l2:R f (arrOf y) (lo+x - 1)<R f (arrOf y) (lo+x)
   ·simp only[l2,decide_true,if_true];exact aj (h x q y u ax (by omega) k q1 q2)
   ·simp only[l2,decide_false,Lr,if_false]
    have ee:R f (arrOf y) (lo+x)=R f (arrOf y) (lo+x - 1):=by omega
    refine aj ⟨q+1,rfl,u,fun i j p1 p2 p3=> ?_,by omega,fun i p1 p2=> ?_⟩
    ·by_cases c:j<lo+x
     ·exact k i j p1 p2 c
     ·have e:j=lo+x:=by omega
      subst e;by_cases c2:i=lo+x
      ·rw[c2];exact Ll _
      ·rw[ee];exact k i _ p1 (by omega) (by omega)
    ·rw[show lo+(x+1) - 1=lo+x by omega]
     by_cases c:i=lo+x
     ·rw[c]
     ·rw[ee];exact q2 i (by omega) (by omega)
theorem E7 (C:Ask prog w A E J κ (·∈a₀.toList) f) {st z:SortSt} {lo a n:Nat} {Q:Option Nat->SortSt->Prop} (hn:lo+n<=a₀.size) (an:a+1<=n) (u:Up κ a₀ f lo st z) (hs:Fa f (arrOf z) lo (lo+(a+1)))
  (h:∀m y,Up κ a₀ f lo st y->1<=m->m<=n->So f (arrOf y) lo (lo+m)->Q (lD m) y):fR (model prog w) A E J (cB lo a n) Q z:=by
 unfold cB;refine ag (ja ?_);refine ag (IE C hn (by omega) an u hs fun m q y u m1 m2 k q1 q2=> ?_);dsimp only;have sz:lo+m<=(arrOf y).size:=by rw[u.gd.size];omega
 by_cases c:q>0
 ·rw[if_pos c];refine ag (qU (EL C hn (by omega) m2 (u.Zr (by omega) (by omega)) (fun i j p1 p2 p3=> ?_) h));show R f (mirror (arrOf y) _ _ _) j<=R f (mirror (arrOf y) _ _ _) i;rw[j5 sz q2,j5 sz q2];exact k i j p1 p2 p3
 ·rw[if_neg c];exact EL C hn (by omega) m2 u k h
theorem IB (C:Ask prog w A E J κ (·∈a₀.toList) f) {st:SortSt} {lo n:Nat} {Q:Option Nat->SortSt->Prop} (hn:lo+n<=a₀.size) (h1:1<=n) (g:Gd κ a₀ st)
  (h:∀m y,Up κ a₀ f lo st y->1<=m->m<=n->So f (arrOf y) lo (lo+m)->Q (lD m) y):fR (model prog w) A E J (countRun' lo n) Q st:=by
 rw[Jk];have u:Up κ a₀ f lo st st:= .rfl g;refine ag (E6 C hn (Ll 1) h1 g (fun i j p1 p2 p3=>by rw[show i=j by omega];exact Ll _) fun m m1 m2 k o=> ?_);dsimp only;by_cases c:m=n
 ·rw[if_pos (by simpa using c)];exact aj (h m st u m1 m2 k)
 ·rw[if_neg (by simpa using c)]
  have l:=o.resolve_left c;by_cases c2:m>1
  ·rw[if_pos c2]
   refine ag (ke C g (by omega) (by omega) ?_);by_cases r:R f (arrOf st) lo<R f (arrOf st) (lo+m - 1)
   ·simp only[r,decide_true,if_true];exact aj (h m st u m1 m2 k)
   ·simp only[r,decide_false,Lr,if_false]
    have sz:lo+m<=(arrOf st).size:=by rw[g.size];omega
    have al:∀i,lo<=i->i<lo+m->R f (arrOf st) i=R f (arrOf st) (lo+m - 1):=fun i p1 p2=>by have a1:=k lo i (Ll _) p1 p2;have a2:=k i (lo+m - 1) p1 (by omega) (by omega);omega
    refine ag (qU (E7 C hn (by omega) (u.Zr (Ll _) (by omega)) (fun i j p1 p2 p3=> ?_) h));show R f (mirror (arrOf st) _ _ _) j<=R f (mirror (arrOf st) _ _ _) i;rw[j5 sz al,j5 sz al];by_cases c3:j<lo+m
    ·rw[al i (by omega) (by omega),al j (by omega) c3];exact Ll _
    ·have e:j=lo+m:=by omega
     subst e;by_cases c4:i=lo+m
     ·rw[c4];exact Ll _
     ·rw[al i p1 (by omega)];exact MU l
  ·rw[if_neg c2]
   have e:m=1:=by omega
   subst e;refine E7 C hn (by omega) u (fun i j p1 p2 p3=> ?_) h;by_cases c4:i=j
   ·rw[c4];exact Ll _
   ·have e1:i=lo:=by omega
    have e2:j=lo+1:=by omega
    rw[e1,e2];exact MU l
end
end TS
namespace TS
open PySem PyProof.Rows
set_option autoImplicit true
noncomputable def u8 (xs:Array Keyed) (s:Nat) (l:List Keyed):Array Keyed:=l.zipIdx.foldl (fun a (p,j)=>a.setIfInBounds (s+j) p) xs
theorem HU (i:Nat):mergeAt' i=(do
 let s<-get
 let(lD (sa,na,power),lD (sb,nb,_)):=((pendingOf s)[i]?,(pendingOf s)[i+1]?)|unsupported "internal:list.sort.pending"
 set (setPending s (((pendingOf s).setIfInBounds i (sa,na+nb,power)).eraseIdxIfInBounds (i+1)))
 let lD k<-Fc Lw (<-elem' (arrOf s) sb) (arrOf s) sa na 0|return Lw
 let(sa,na):=(sa+k,na - k)
 if na==0 then return Lk
 let lD nb<-Fc Lk (<-elem' (arrOf s) (sa+na - 1)) (arrOf s) sb nb (nb - 1)|return Lw
 if nb==0 then return Lk
 let x:=(arrOf s).extract sa sb
 let y:=(arrOf s).extract sb (sb+nb)
 let merged<-if na<=nb then J1 x y else Ku x y
 modify fun s=>setArr s (u8 (arrOf s) sa merged.toList)
 return(failedOf (<-get)).isNone):=rfl
theorem z4:∀(l:List Keyed) (xs:Array Keyed) (s n:Nat),s+n+l.length<=xs.size->∀k:Nat,
  ((l.zipIdx n).foldl (fun a (p,j)=>a.setIfInBounds (s+j) p) xs)[k]? =if s+n<=k/\k<s+n+l.length then l[k - (s+n)]? else xs[k]?
 |[],xs,s,n,h,k=>by rw[if_neg (by simp)];rfl
 |x::l,xs,s,n,h,k=>by
  rw[List.zipIdx_cons,P7];have h':s+n+(l.length+1)<=xs.size:=h;rw[z4 l _ s (n+1) (by rw[Array.size_setIfInBounds];omega) k];simp only[Lu];by_cases c:k=s+n
  ·subst c;rw[if_neg (by omega),if_pos (by omega),QZ,PK];rw[Array.getElem?_setIfInBounds_self_of_lt (by omega)]
  ·by_cases d:s+n<=k/\k<s+n+(l.length+1)
   ·rw[if_pos (by omega),if_pos d,show k - (s+n)=k - (s+(n+1))+1 by omega,PL]
   ·rw[if_neg (by omega),if_neg d,Array.getElem?_setIfInBounds_ne (by omega)]
theorem lI {l:List Keyed} {xs:Array Keyed} {s:Nat} (h:s+l.length<=xs.size) (k:Nat):(u8 xs s l)[k]? =if s<=k/\k<s+l.length then l[k - s]? else xs[k]? :=by have:=z4 l xs s 0 (by omega) k;unfold u8;rw[Nat.add_zero] at this;exact this
theorem Aq {l:List Keyed} {xs:Array Keyed} {s:Nat} (h:s+l.length<=xs.size):(u8 xs s l).toList=xs.toList.take s++l++xs.toList.drop (s+l.length):=by
 apply Pr;intro k;rw[MG,lI h];have len:(xs.toList.take s).length=s:=by simp;omega
 by_cases c:s<=k/\k<s+l.length
 ·rw[if_pos c,LP,LX (by omega),len,LK (by omega)]
 ·rw[if_neg c]
  by_cases d:k<s
  ·rw[LP,LK (by omega),ND d,MG]
  ·rw[LX (by simp[len] at*;omega),O9,<-MG];congr 1;simp[len] at*;omega
theorem AZ {xs:Array Keyed} {s m e:Nat} (h1:s<=m) (h2:m<=e) (h3:e<=xs.size):xs.toList=xs.toList.take s++((xs.extract s m).toList++(xs.extract m e).toList)++xs.toList.drop e:=by
 rw[n5,n5];apply Pr;intro k;have l1:(xs.toList.take s).length=s:=by simp;omega
 have l2:((xs.toList.drop s).take (m - s)).length=m - s:=by simp;omega
 have l3:((xs.toList.drop m).take (e - m)).length=e - m:=by simp;omega
 by_cases c:k<s
 ·rw[LP,LK (by omega),ND c]
 ·rw[LP,LX (by omega),l1]
  by_cases d:k<m
  ·rw[LP,LK (by omega),ND (by omega),O9];congr 1;omega
  ·by_cases g:k<e
   ·rw[LP,LX (by omega),l2,LK (by omega),ND (by omega),O9];congr 1;omega
   ·rw[LX (by simp[l2,l3] at*;omega),Ln,l2,l3,O9];congr 1;omega
section
variable {prog:LR} {w:Mg} {A:L0} {E:Lf->Lm->Prop} {J:Lm->Prop} {κ:SortKind} {a₀:Array Keyed} {f:Keyed->Nat}
theorem Fn {xs:Array Keyed} {s e:Nat} (h:So f xs s e) (he:e<=xs.size):(xs.extract s e).toList.Pairwise (Le f):=by
 rw[Nf];intro i j hi hj ij;have:(xs.extract s e).size=e - s:=by simp;omega
 simp only[L5,this] at hi hj;have:=h (s+i) (s+j) (by omega) (by omega) (by omega);rw[RD (by omega),RD (by omega)] at this
 simpa using this
theorem xh {xs:Array Keyed} {s e:Nat} (he:e<=xs.size) {x:Keyed} (h:x∈(xs.extract s e).toList):∃t,s<=t/\t<e/\R f xs t=f x:=by rw[n5] at h;obtain⟨j,hj,h1,h2,rfl⟩:=oI h;exact⟨j,h1,by omega,RD hj⟩
theorem HE (C:Ask prog w A E J κ (·∈a₀.toList) f) {st:SortSt} (g:Gd κ a₀ st) {i sa na pw sb nb pw2:Nat} (e1:(pendingOf st)[i]? =lD (sa,na,pw)) (e2:(pendingOf st)[i+1]? =lD (sb,nb,pw2)) (hsb:sb=sa+na) (n1:1<=na) (n2:1<=nb) (le:sb+nb<=a₀.size)
  (s1:So f (arrOf st) sa sb) (s2:So f (arrOf st) sb (sb+nb)) {Q:Bool->SortSt->Prop}
  (h:∀z,Gd κ a₀ z->pendingOf z=((pendingOf st).setIfInBounds i (sa,na+nb,pw)).eraseIdxIfInBounds (i+1)->So f (arrOf z) sa (sb+nb)->(∀k,k<sa\/sb+nb<=k->(arrOf z)[k]? =(arrOf st)[k]?)->Q Lk z):
  fR (model prog w) A E J (mergeAt' i) Q st:=by
 rw[HU];refine ag (eW ?_);rw[e1,e2];dsimp only;refine ag (FQ ?_);have sz:=g.size;have g':Gd κ a₀ (setPending st (((pendingOf st).setIfInBounds i (sa,na+nb,pw)).eraseIdxIfInBounds (i+1))):=⟨g.kind,g.failed,g.perm⟩;have hb:sb<(arrOf st).size:=by omega
 have rb:=RD (f:=f) hb;refine ag (bi (getElem?_pos (arrOf st) sb hb) ?_);refine ag (kJ C g'.kind (g.mem hb) (fun i=>decide (R f (arrOf st) (sa+i)<=R f (arrOf st) sb)) (fun i hi=>⟨(arrOf st)[sa+i]'(by omega),g.mem _,getElem?_pos _ _ (by omega),?_⟩) (fun i j ij hj q=> ?_) (by omega) fun k k2 k3 k4=> ?_)
 ·unfold Bt;simp only[Lr,if_false];rw[rb,RD (by omega)]
 ·exact decide_eq_true (LF (s1 _ _ (by omega) (by omega) (by omega)) (of_decide_eq_true q))
 have K3:∀t,sa<=t->t<sa+k->R f (arrOf st) t<=R f (arrOf st) sb:=fun t t1 t2=>by have:=of_decide_eq_true (k3 (t - sa) (by omega));rwa [show sa+(t - sa)=t by omega] at this
 have K4:∀t,sa+k<=t->t<sb->R f (arrOf st) sb<R f (arrOf st) t:=fun t t1 t2=>by have:=of_decide_eq_false (k4 (t - sa) (by omega) (by omega));rw[show sa+(t - sa)=t by omega] at this;omega
 dsimp only;have whole:(∀t,sa<=t->t<sb->R f (arrOf st) t<=R f (arrOf st) sb)->Q Lk (setPending st (((pendingOf st).setIfInBounds i (sa,na+nb,pw)).eraseIdxIfInBounds (i+1))):=fun q=>by
  refine h _ g' rfl (fun x y p1 p2 p3=> ?_) fun _ _=>rfl;show R f (arrOf st) x<=R f (arrOf st) y;by_cases c:y<sb
  ·exact s1 x y p1 p2 c
  ·by_cases d:sb<=x
   ·exact s2 x y d p2 p3
   ·exact LF (q x p1 (by omega)) (s2 sb y (Ll _) (by omega) p3)
 by_cases c:na - k=0
 ·rw[if_pos (by simpa using c)];exact aj (whole fun t t1 t2=>K3 t t1 (by omega))
 rw[if_neg (by simpa using c)];have ck:k<na:=by omega
 clear c;have hl:sa+k+(na - k) - 1=sb - 1:=by omega
 rw[hl];clear hl;have ra:=RD (f:=f) (xs:=arrOf st) (i:=sb - 1) (by omega);refine ag (bi (getElem?_pos (arrOf st) (sb - 1) (by omega)) ?_);refine ag (kJ C g'.kind (g.mem _) (fun i=>decide (R f (arrOf st) (sb+i)<R f (arrOf st) (sb - 1))) (fun i hi=>⟨(arrOf st)[sb+i]'(by omega),g.mem _,getElem?_pos _ _ (by omega),?_⟩) (fun i j ij hj q=> ?_) (by omega) fun m m2 m3 m4=> ?_)
 ·unfold Bt;simp only[if_true];rw[ra,RD (by omega)]
 ·exact decide_eq_true (Pc (s2 _ _ (by omega) (by omega) (by omega)) (of_decide_eq_true q))
 have M3:∀t,sb<=t->t<sb+m->R f (arrOf st) t<R f (arrOf st) (sb - 1):=fun t t1 t2=>by have:=of_decide_eq_true (m3 (t - sb) (by omega));rwa [show sb+(t - sb)=t by omega] at this
 have M4:∀t,sb+m<=t->t<sb+nb->R f (arrOf st) (sb - 1)<=R f (arrOf st) t:=fun t t1 t2=>by have:=of_decide_eq_false (m4 (t - sb) (by omega) (by omega));rw[show sb+(t - sb)=t by omega] at this;omega
 dsimp only;by_cases c2:m=0
 ·rw[if_pos (by simpa using c2)];exact aj (whole fun t t1 t2=>LF (s1 t (sb - 1) t1 (by omega) (by omega)) (M4 sb (by omega) (by omega)))
 rw[if_neg (by simpa using c2)];have zx:((arrOf st).extract (sa+k) sb).size=sb - (sa+k):=by simp;omega
 have zy:((arrOf st).extract sb (sb+m)).size=m:=by simp;omega
 have px:=Fn (s:=sa+k) (e:=sb) (fun x y p1 p2 p3=>s1 x y (by omega) p2 p3) (by omega);have py:=Fn (s:=sb) (e:=sb+m) (fun x y p1 p2 p3=>s2 x y (by omega) p2 (by omega)) (by omega);have mm:∀{x:Keyed} {s e:Nat},x∈((arrOf st).extract s e).toList->x∈a₀.toList:=fun{x s e} hx=>by rw[n5] at hx;obtain⟨j,hj,_,_,rfl⟩:=oI hx;exact g.mem hj
 have two:RB f a₀ ((arrOf st).extract (sa+k) sb) ((arrOf st).extract sb (sb+m)):={
  sa:=px,sb:=py,ma:=fun x hx=>mm hx,mb:=fun x hx=>mm hx,na:=by omega,nb:=by omega
  last:=fun y hy=>by
   obtain⟨t,t1,t2,t3⟩:=xh (f:=f) (by omega) hy;rw[<-t3];have:=M3 t t1 t2;rw[ra] at this;have e:f ((arrOf st).extract (sa+k) sb)[((arrOf st).extract (sa+k) sb).size - 1]=f (arrOf st)[sb - 1]:=by rw[SJ];congr 2;omega
   rw[e];exact MU this
  first:=fun x hx=>by
   obtain⟨t,t1,t2,t3⟩:=xh (f:=f) (by omega) hx;rw[<-t3];have e:f ((arrOf st).extract sb (sb+m))[0]=R f (arrOf st) sb:=by rw[SJ,rb];congr 2
   rw[e];exact MU (K4 t t1 t2)}
 have fin:∀(r:KL) z,Ge (setPending st (((pendingOf st).setIfInBounds i (sa,na+nb,pw)).eraseIdxIfInBounds (i+1))) z->Ok f (((arrOf st).extract (sa+k) sb).toList++((arrOf st).extract sb (sb+m)).toList) r.toList->
   Q Lk (setArr z (u8 (arrOf z) (sa+k) r.toList)):=by
  intro r z ge o;have ea:arrOf z=arrOf st:=ge.arr;have len:sa+k+r.toList.length=sb+m:=by rw[o.perm.length_eq,Ln,L5,L5,zx,zy];omega
  clear zx zy;have rr:∀j,sa+k<=j->j<sb+m->∃t,sa+k<=t/\t<sb+m/\R f (u8 (arrOf st) (sa+k) r.toList) j=R f (arrOf st) t:=fun j j1 j2=>by
   have hj:j - (sa+k)<r.toList.length:=by omega
   have e:(u8 (arrOf st) (sa+k) r.toList)[j]? =lD r.toList[j - (sa+k)]:=by rw[lI (by omega),if_pos (by omega),LB hj]
   have hm:r.toList[j - (sa+k)]∈_:=o.perm.mem_iff.mp (Nv hj);have e3:R f (u8 (arrOf st) (sa+k) r.toList) j=f r.toList[j - (sa+k)]:=by unfold R;rw[e]
   rcases LM.mp hm with q|q
   ·obtain⟨t,t1,t2,t3⟩:=xh (f:=f) (by omega) q;exact⟨t,t1,by omega,by rw[e3,t3]⟩
   ·obtain⟨t,t1,t2,t3⟩:=xh (f:=f) (by omega) q;exact⟨t,by omega,t2,by rw[e3,t3]⟩
  have ro:∀j,¬(sa+k<=j/\j<sb+m)->(u8 (arrOf st) (sa+k) r.toList)[j]? =(arrOf st)[j]? :=fun j hj=>by rw[lI (by omega),if_neg (by omega)]
  refine h _ ⟨ge.kind.trans g.kind,ge.failed.trans g.failed,?_⟩ ge.pend ?_ ?_
  ·show(u8 (arrOf z) (sa+k) r.toList).Perm a₀
   rw[ea];refine aa7 (N4.mpr ?_) g.perm;rw[Aq (by omega),len]
   conv=>rhs;rw[AZ (s:=sa+k) (m:=sb) (e:=sb+m) (by omega) (by omega) (by omega)]
   exact(o.perm.append_left _).append_right _
  ·show So f (u8 (arrOf z) (sa+k) r.toList) sa (sb+nb)
   rw[ea];intro x y p1 p2 p3;by_cases cx:sa+k<=x/\x<sb+m
   ·by_cases cy:y<sb+m
    ·by_cases xy:x=y
     ·rw[xy];exact Ll _
     ·have:=Nf.mp o.so (x - (sa+k)) (y - (sa+k)) (by omega) (by omega) (by omega)
      have e:∀j (hj:j - (sa+k)<r.toList.length),sa+k<=j->j<sb+m->R f (u8 (arrOf st) (sa+k) r.toList) j=f r.toList[j - (sa+k)]:=fun j hj j1 j2=>by unfold R;rw[lI (by omega),if_pos (by omega),LB hj]
      rw[e x (by omega) cx.1 cx.2,e y (by omega) (by omega) cy];exact this
    ·obtain⟨t,t1,t2,t3⟩:=rr x cx.1 cx.2
     rw[t3,cT (ro y (by omega))];by_cases ct:t<sb
     ·exact LF (s1 t (sb - 1) (by omega) (by omega) (by omega)) (M4 y (by omega) p3)
     ·exact s2 t y (by omega) (by omega) p3
   ·rw[cT (ro x cx)]
    by_cases cy:sa+k<=y/\y<sb+m
    ·obtain⟨t,t1,t2,t3⟩:=rr y cy.1 cy.2
     rw[t3];by_cases ct:t<sb
     ·exact s1 x t p1 (by omega) ct
     ·exact LF (K3 x p1 (by omega)) (s2 sb t (Ll _) (by omega) (by omega))
    ·rw[cT (ro y cy)]
     by_cases xb:sb+m<=x
     ·exact s2 x y (by omega) p2 p3
     ·by_cases yb:y<sb
      ·exact s1 x y p1 p2 yb
      ·exact LF (K3 x p1 (by omega)) (s2 sb y (Ll _) (by omega) p3)
  ·intro j hj;show(u8 (arrOf z) (sa+k) r.toList)[j]? =_;rw[ea];exact ro j (by omega)
 have go:∀(r:KL) z,Ge (setPending st (((pendingOf st).setIfInBounds i (sa,na+nb,pw)).eraseIdxIfInBounds (i+1))) z->Ok f (((arrOf st).extract (sa+k) sb).toList++((arrOf st).extract sb (sb+m)).toList) r.toList->
   fR (model prog w) A E J (do
    modify fun s=>setArr s (u8 (arrOf s) (sa+k) r.toList)
    let x<-get
    pure (failedOf x).isNone) Q z:=by
  intro r z q1 q2;refine ag (gj (ag (eW ?_)));have ef:failedOf (setArr z (u8 (arrOf z) (sa+k) r.toList))=Ld:=q1.failed.trans g.failed;rw[ef];exact aj (fin r z q1 q2)
 split
 ·exact ag (FV C two g'.kind go)
 ·exact ag (Hb C two g'.kind go)
end
end TS
namespace TS
open PySem PyProof.Rows
set_option autoImplicit true
def Ch (f:Keyed->Nat) (xs:Array Keyed):Nat->List (Nat×Nat×Nat)->Nat->Prop
 |s,[],e=>s=e
 |s,t::l,e=>t.1=s/\1<=t.2.1/\So f xs s (s+t.2.1)/\Ch f xs (s+t.2.1) l e
section
variable {f:Keyed->Nat} {xs ys:Array Keyed}
theorem Ch.le:∀{l:List (Nat×Nat×Nat)} {s e:Nat},Ch f xs s l e->s+l.length<=e
 |[],_,_,h=>by have:_=_:=h;simp;omega
 |t::l,s,e,h=>by have:=Ch.le h.2.2.2;have:=h.2.1;simp only[Lu];omega
theorem Ch.app:∀{l k:List (Nat×Nat×Nat)} {s e:Nat},Ch f xs s (l++k) e↔∃m,Ch f xs s l m/\Ch f xs m k e
 |[],k,s,e=>⟨fun h=>⟨s,rfl,h⟩,fun⟨m,h1,h2⟩=>by have:s=m:=h1;subst this;exact h2⟩
 |t::l,k,s,e=>by
  constructor
  ·intro h;obtain⟨m,h1,h2⟩:=Ch.app.mp h.2.2.2;exact⟨m,⟨h.1,h.2.1,h.2.2.1,h1⟩,h2⟩
  ·rintro⟨m,h1,h2⟩;exact⟨h1.1,h1.2.1,h1.2.2.1,Ch.app.mpr ⟨m,h1.2.2.2,h2⟩⟩
theorem Ch.same:∀{l:List (Nat×Nat×Nat)} {s e:Nat},Ch f xs s l e->(∀k,s<=k->k<e->ys[k]? =xs[k]?)->Ch f ys s l e
 |[],_,_,h,_=>h
 |t::l,s,e,h,q=>by have:=h.2.2.2.le;refine⟨h.1,h.2.1,fun i j p1 p2 p3=> ?_,Ch.same h.2.2.2 fun k k1 k2=>q k (by omega) k2⟩;rw[cT (q i p1 (by omega)),cT (q j (by omega) (by omega))];exact h.2.2.1 i j p1 p2 p3
theorem Ch.pow:∀{l k:List (Nat×Nat×Nat)} {s e:Nat},l.map (fun t=>(t.1,t.2.1))=k.map (fun t=>(t.1,t.2.1))->Ch f xs s l e->Ch f xs s k e
 |[],[],_,_,_,h=>h
 |[],_::_,_,_,q,_=>by cases q
 |_::_,[],_,_,q,_=>by cases q
 |t::l,u::k,s,e,q,h=>by rw[Lo,Lo] at q;obtain⟨q1,q2⟩:=OZ q;obtain⟨q3,q4⟩:=Prod.mk.inj q1;refine⟨q3▸h.1,q4▸h.2.1,q4▸h.2.2.1,?_⟩;rw[<-q4];exact Ch.pow q2 h.2.2.2
end
theorem two_at {p:Array (Nat×Nat×Nat)} {i:Nat} (h:i+1<p.size):∃l x y k,p.toList=l++x::y::k/\l.length=i:=by refine⟨p.toList.take i,p[i],p[i+1],p.toList.drop (i+2),?_,by simp;omega⟩;rw[show p[i]=p.toList[i]'(by simp;omega) by simp,show p[i+1]=p.toList[i+1]'(by simp;omega) by simp];rw[<-MO,<-MO,OE]
theorem Ga {p:Array (Nat×Nat×Nat)} {l k:List (Nat×Nat×Nat)} {x y z:Nat×Nat×Nat} (h:p.toList=l++x::y::k):((p.setIfInBounds l.length z).eraseIdxIfInBounds (l.length+1)).toList=l++z::k:=by obtain⟨q⟩:=p;have h:q=l++x::y::k:=h;subst h;rw[List.setIfInBounds_toArray,List.eraseIdxIfInBounds_toArray];show((l++x::y::k).set l.length z).eraseIdx (l.length+1)=_;rw[List.set_append_right _ _ (Ll _),QZ,QH,List.eraseIdx_append_of_length_le (by omega),show l.length+1 - l.length=1 by omega];rfl
section
variable {prog:LR} {w:Mg} {A:L0} {E:Lf->Lm->Prop} {J:Lm->Prop} {κ:SortKind} {a₀:Array Keyed} {f:Keyed->Nat}
theorem CS (C:Ask prog w A E J κ (·∈a₀.toList) f) {st:SortSt} (g:Gd κ a₀ st) {i lo:Nat} (ch:Ch f (arrOf st) 0 (pendingOf st).toList lo) (hl:lo<=a₀.size) (hi:i+1<(pendingOf st).size) {Q:Bool->SortSt->Prop}
  (h:∀z,Gd κ a₀ z->Ch f (arrOf z) 0 (pendingOf z).toList lo->(pendingOf z).size+1=(pendingOf st).size->(∀k,lo<=k->(arrOf z)[k]? =(arrOf st)[k]?)->Q Lk z):
  fR (model prog w) A E J (mergeAt' i) Q st:=by
 obtain⟨l,⟨sa,na,pw⟩,⟨sb,nb,pw2⟩,k,e,rfl⟩:=two_at hi;rw[e] at ch;obtain⟨m,c1,c2⟩:=Ch.app.mp ch;obtain⟨h1,h2,h3,h4,h5,h6,h7⟩:=c2;dsimp only at h1 h2 h3 h4 h5 h6 h7;subst h1;subst h4;have le:=h7.le;have e1:(pendingOf st)[l.length]? =lD (sa,na,pw):=by rw[<-MG,e];simp
 have e2:(pendingOf st)[l.length+1]? =lD (sa+na,nb,pw2):=by rw[<-MG,e];simp
 refine HE C g e1 e2 rfl h2 h5 (by omega) h3 h6 fun z g' pz so fr=> ?_;have pl:=Ga (z:=(sa,na+nb,pw)) e;rw[<-pz] at pl;have c1l:=c1.le;refine h z g' ?_ ?_ fun j hj=>fr j (.inr (by omega))
 ·rw[pl]
  refine Ch.app.mpr ⟨sa,c1.same fun j j1 j2=>fr j (.inl j2),rfl,by dsimp only;omega,?_,?_⟩
  ·dsimp only;rw[show sa+(na+nb)=sa+na+nb by omega];exact so
  ·dsimp only;rw[show sa+(na+nb)=sa+na+nb by omega];exact h7.same fun j j1 j2=>fr j (.inr j1)
 ·rw[<-L5,pl,<-L5,e];simp;omega
theorem ED (p:Array (Nat×Nat×Nat)) (i pw:Nat):p.toList.map (fun t=>(t.1,t.2.1))=(p.modify i fun(s,n,_)=>(s,n,pw)).toList.map (fun t=>(t.1,t.2.1)):=by
 apply Pr;intro k;rw[Ls,Ls,MG,MG,Array.getElem?_modify];split
 ·cases p[k]? <;>rfl
 ·rfl
theorem IV:∀(k n r:Nat),1<=n->1<=minRun' k n r
 |0,n,r,h=>by show 1<=n+r;omega
 |k+1,n,r,h=>by
  rw[minRun'_succ];split
  ·omega
  ·exact IV k _ _ (by omega)
theorem DW (C:Ask prog w A E J κ (·∈a₀.toList) f) {st:SortSt} (g:Gd κ a₀ st) (pe:pendingOf st= #[]) (h2:1<=a₀.size) {Q:Unit->SortSt->Prop}
  (h:∀z,Gd κ a₀ z->So f (arrOf z) 0 a₀.size->Q () z):fR (model prog w) A E J sortRuns' Q st:=by
 rw[sortRuns'_eq];refine ag (eW ?_);dsimp only;simp only[g.size];generalize hm:minRun' a₀.size a₀.size 0=mr;have mr1:1<=mr:=by rw[<-hm];exact IV _ _ _ h2
 refine ag (bz (cK (I:=fun x c z=>∃lo,c=(Ld,lo)/\x<=lo/\lo<=a₀.size/\Gd κ a₀ z/\Ch f (arrOf z) 0 (pendingOf z).toList lo)
  (Q:=fun c z=>c=(Ld,a₀.size)/\Gd κ a₀ z/\Ch f (arrOf z) 0 (pendingOf z).toList a₀.size) ?zs ?zf ⟨0,rfl,Ll _,by omega,g,by rw[pe];rfl⟩) ?zp)
 case zf=>
  rintro c z ⟨lo,rfl,a1,a2,g,ch⟩;have:lo=a₀.size:=by omega
  subst this;exact⟨rfl,g,ch⟩
 case zs=>
  rintro x c z _ xn ⟨lo,rfl,a1,a2,g,ch⟩;dsimp only;by_cases ge:lo≥a₀.size
  ·rw[if_pos ge]
   have:lo=a₀.size:=by omega
   subst this;exact aj ⟨rfl,g,ch⟩
  rw[if_neg ge];refine ag (IB C (by omega) (by omega) g fun m y u m1 m2 so=> ?_);dsimp only;have ZO:Ch f (arrOf y) 0 (pendingOf y).toList lo:=by rw[u.pend];exact ch.same fun k _ k2=>u.low k k2
  have rest:∀(n:Nat) (y:SortSt),1<=n->lo+n<=a₀.size->Gd κ a₀ y->Ch f (arrOf y) 0 (pendingOf y).toList lo->So f (arrOf y) lo (lo+n)->
    ∃YU,(Ld,lo+n)=((Ld:Option Unit),YU)/\x+1<=YU/\YU<=a₀.size/\Gd κ a₀ (setPending y ((pendingOf y).push (lo,n,0)))/\Ch f (arrOf (setPending y ((pendingOf y).push (lo,n,0)))) 0 (pendingOf (setPending y ((pendingOf y).push (lo,n,0)))).toList YU:=by
   intro n y n1 n2 g c so;refine⟨lo+n,rfl,by omega,n2,⟨g.kind,g.failed,g.perm⟩,?_⟩;show Ch f (arrOf y) 0 ((pendingOf y).push (lo,n,0)).toList (lo+n);rw[Oq];exact Ch.app.mpr ⟨lo,c,rfl,n1,so,rfl⟩
  have back:∀(n:Nat) (y:SortSt),1<=n->lo+n<=a₀.size->Gd κ a₀ y->Ch f (arrOf y) 0 (pendingOf y).toList lo->So f (arrOf y) lo (lo+n)->∀pw i,
    Gd κ a₀ (setPending y ((pendingOf y).modify i fun(s,n,_)=>(s,n,pw)))/\Ch f (arrOf y) 0 ((pendingOf y).modify i fun(s,n,_)=>(s,n,pw)).toList lo:=
   fun n y n1 n2 g c so pw i=>⟨⟨g.kind,g.failed,g.perm⟩,c.pow (ED _ _ _)⟩
  by_cases lt:m<mr
  ·rw[if_pos lt]
   refine ag (ja ?_);refine ag (El C (by omega) (by omega) u.gd so fun y2 u2 so2=> ?_);simp only[MZ,Lr,if_false];have ch2:Ch f (arrOf y2) 0 (pendingOf y2).toList lo:=by rw[u2.pend];exact ZO.same fun k _ k2=>u2.low k k2
   refine ag (eW ?_);cases hb:(pendingOf y2).back? with
   |none=>dsimp only;exact ag (gj (aj (rest _ y2 (by omega) (by omega) u2.gd ch2 so2)))
   |some t=>
    obtain⟨s1,n1,w1⟩:=t;dsimp only;refine ag (bz (cK (I:=fun x c z=>c=(Ld,())/\Gd κ a₀ z/\Ch f (arrOf z) 0 (pendingOf z).toList lo/\So f (arrOf z) lo (lo+min (a₀.size - lo) mr)) (Q:=fun c z=>c=(Ld,())/\Gd κ a₀ z/\Ch f (arrOf z) 0 (pendingOf z).toList lo/\So f (arrOf z) lo (lo+min (a₀.size - lo) mr)) ?s1 (fun _ _ q=>q) ⟨rfl,u2.gd,ch2,so2⟩) ?p1)
    case p1=>
     rintro c z ⟨rfl,g,ch,so⟩;dsimp only;have bk:=back (min (a₀.size - lo) mr) z (by omega) (by omega) g ch so;exact ag (gj (ag (gj (aj (rest _ (setPending z _) (by omega) (by omega) (bk _ _).1 (bk _ _).2 so)))))
    case s1=>
     rintro x c z _ _ ⟨rfl,g,ch,so⟩;refine ag (eW ?_);by_cases p1:(pendingOf z).size>1
     ·rw[if_pos p1]
      obtain⟨⟨os,on,Yt⟩,ho⟩:∃t,(pendingOf z)[(pendingOf z).size - 2]? =lD t:=⟨_,getElem?_pos _ _ (by omega)⟩;rw[ho];dsimp only;split
      ·exact aj ⟨rfl,g,ch,so⟩
      ·refine ag (CS C g ch a2 (by omega) fun z' g' YK _ fr=> ?_);simp only[MZ,Lr,if_false];exact aj ⟨rfl,g',YK,fun i j p1 p2 p3=>by rw[cT (fr i p1),cT (fr j (by omega))];exact so i j p1 p2 p3⟩
     ·rw[if_neg p1];exact aj ⟨rfl,g,ch,so⟩
  ·rw[if_neg lt]
   refine ag (eW ?_);cases hb:(pendingOf y).back? with
   |none=>dsimp only;exact ag (gj (aj (rest _ y m1 (by omega) u.gd ZO so)))
   |some t=>
    obtain⟨s1,n1,w1⟩:=t;dsimp only;refine ag (bz (cK (I:=fun x c z=>c=(Ld,())/\Gd κ a₀ z/\Ch f (arrOf z) 0 (pendingOf z).toList lo/\So f (arrOf z) lo (lo+m)) (Q:=fun c z=>c=(Ld,())/\Gd κ a₀ z/\Ch f (arrOf z) 0 (pendingOf z).toList lo/\So f (arrOf z) lo (lo+m)) ?s2 (fun _ _ q=>q) ⟨rfl,u.gd,ZO,so⟩) ?p2)
    case p2=>
     rintro c z ⟨rfl,g,ch,so⟩;dsimp only;have bk:=back m z (by omega) (by omega) g ch so;exact ag (gj (ag (gj (aj (rest _ (setPending z _) (by omega) (by omega) (bk _ _).1 (bk _ _).2 so)))))
    case s2=>
     rintro x c z _ _ ⟨rfl,g,ch,so⟩;refine ag (eW ?_);by_cases p1:(pendingOf z).size>1
     ·rw[if_pos p1]
      obtain⟨⟨os,on,Yt⟩,ho⟩:∃t,(pendingOf z)[(pendingOf z).size - 2]? =lD t:=⟨_,getElem?_pos _ _ (by omega)⟩;rw[ho];dsimp only;split
      ·exact aj ⟨rfl,g,ch,so⟩
      ·refine ag (CS C g ch a2 (by omega) fun z' g' YK _ fr=> ?_);simp only[MZ,Lr,if_false];exact aj ⟨rfl,g',YK,fun i j p1 p2 p3=>by rw[cT (fr i p1),cT (fr j (by omega))];exact so i j p1 p2 p3⟩
     ·rw[if_neg p1];exact aj ⟨rfl,g,ch,so⟩
 case zp=>
  rintro c z ⟨rfl,g,ch⟩;dsimp only;have len:=ch.le;rw[L5] at len;refine ag (bz (cK (I:=fun x c z=>c=(Ld,())/\Gd κ a₀ z/\Ch f (arrOf z) 0 (pendingOf z).toList a₀.size/\(pendingOf z).size+x<=a₀.size+1)
   (Q:=fun c z=>c=(Ld,())/\Gd κ a₀ z/\Ch f (arrOf z) 0 (pendingOf z).toList a₀.size/\(pendingOf z).size<=1) ?s3 ?f3 ⟨rfl,g,ch,by omega⟩) ?p3)
  case f3=>
   rintro c z ⟨rfl,g,ch,l⟩;exact⟨rfl,g,ch,by omega⟩
  case p3=>
   rintro c z ⟨rfl,g,ch,l⟩;refine aj (h z g ?_);cases hp:(pendingOf z).toList with
   |nil=>rw[hp] at ch;have:0=a₀.size:=ch;omega
   |cons t l'=>
    rw[hp] at ch;have:l'=[]:=by have:=congrArg NP hp;rw[L5,Lu] at this;exact Sv.mp (by omega)
    subst this;have e:0+t.2.1=a₀.size:=ch.2.2.2;rw[<-e];exact ch.2.2.1
  case s3=>
   rintro x c z _ xn ⟨rfl,g,ch,l⟩;refine ag (eW ?_);by_cases p1:(pendingOf z).size<=1
   ·rw[if_pos p1];exact aj ⟨rfl,g,ch,p1⟩
   ·rw[if_neg p1]
    refine ag (CS C g ch (Ll _) ?_ fun z' g' YK ls fr=> ?_)
    ·have q:∀(c:Prop) [Decidable c],(if c then(pendingOf z).size - 2 - 1 else(pendingOf z).size - 2)+1<(pendingOf z).size:=fun c _=>by split<;>omega
     exact q _
    ·simp only[MZ,Lr,if_false];exact aj ⟨rfl,g',YK,by omega⟩
end
end TS
namespace TS
open PySem PyProof.Rows
set_option autoImplicit true
section
variable {prog:LR} {w:Mg} {A:L0} {E:Lf->Lm->Prop} {s:Lm} {κ:SortKind} {f:Keyed->Nat}
noncomputable abbrev Kb (s:Lm) (a:Lp) (h:Heap):Prop:=∀b o,b≠a->s.heap.get? b=lD o->h.get? b=lD o
theorem BE {a:Lp} {vs:List Lf} {n:Nat} {P:PySem.Fin->Lm->Prop} (ho:s.heap.get? a=lD (seqObj "list" vs.toArray n)) (hv:vs.length<1000000)
  (hk:∀h',Kb s a h'->2<=vs.length->wpAny (model prog w) A (keyKind' vs.toArray) (fun k z=>k=κ/\z={s with heap:=h'}) E {s with heap:=h'})
  (C:∀h',Kb s a h'->Ask prog w A E (fun z=>z={s with heap:=h'}) κ (·∈(pairsOf vs).toList) f)
  (h:∀st:SortSt,(arrOf st).Perm (pairsOf vs)->So f (arrOf st) 0 vs.length->P (.done (.ret .none)) {s with heap:=sortedHeap s.heap a vs ((arrOf st).map (·.2))}):
  wpAny (model prog w) A (LJ.«list.sort» ⟨[.ref a],[]⟩) P E s:=by
 have la:a<s.heap.objs.size:=Heap.lt_size ho;have big:(1000000:Nat)<=LL:=by decide
 rw[list_sort_plain];refine Bn (listItems_at ho rfl (Bn (listUpdate_at ho rfl ?_ (by rw[LC];omega) (Mr _))));obtain⟨e1,h1⟩:∃e1,(s.heap.update a (Obj.mapSeq fun _=>(#[]:Array Lf))).get? a=lD (seqObj "list" #[] e1):=⟨_,get?_update_seq ho (fun _=> #[])⟩;refine Bn (seqEpoch_at h1 rfl (Bn (wpAny_newTuple ?_ (by show vs.length<=_;omega))));refine Bn (aa8 ?_ (Mr _));refine Nd ?_;have g:(((s.heap.update a (Obj.mapSeq fun _=>(#[]:Array Lf))).push (seqObj "tuple" vs.toArray 0)).push (seqObj "list" #[] 0)).get? a=lD (seqObj "list" #[] e1):=Heap.get?_push_of_some _ (Heap.get?_push_of_some _ h1);have kb:Kb s a (((s.heap.update a (Obj.mapSeq fun _=>(#[]:Array Lf))).push (seqObj "tuple" vs.toArray 0)).push (seqObj "list" #[] 0)):=fun b o nb e=>
  Heap.get?_push_of_some _ (Heap.get?_push_of_some _ (by rw[Heap.get?_update_ne _ _ _ _ nb];exact e))
 show wpAny (model prog w) A _ P E {s with heap:=((s.heap.update a (Obj.mapSeq fun _=>(#[]:Array Lf))).push (seqObj "tuple" vs.toArray 0)).push (seqObj "list" #[] 0)};dsimp only;have sz:vs.toArray.size=vs.length:=LC;by_cases l2:vs.toArray.size<2
 ·rw[if_pos l2,if_pos l2];refine Bn (Li ?_);rw[StateT.run_pure];refine Bn (Li ?_);dsimp only;refine Bn (seqEpoch_at g rfl (Bn (listUpdate_at g rfl ?_ (Mr _) (by rw[VJ];show(pairsOf vs).size<=_;rw[pairsOf_size];omega))));simp only[bne_self_eq_false,Lr,if_false];refine Li (h (SortSt.mk' general' (vs.toArray.zip vs.toArray) #[] 7 Ld) (SX _) fun i j p1 p2 p3=> ?_);rw[show i=j by omega];exact Ll _
 ·rw[if_neg l2,if_neg l2];refine Bn (wpAny_mono (hk _ kb (by omega)) ?_ fun _ _ e=>e);rintro k z ⟨rfl,rfl⟩;have gd:Gd k (pairsOf vs) (SortSt.mk' k (vs.toArray.zip vs.toArray) #[] 7 Ld):=⟨rfl,rfl,SX _⟩;refine Bn (wpAny_mono (DW (C _ kb) gd rfl (by rw[pairsOf_size];omega) (Q:=fun _ st=>Gd k (pairsOf vs) st/\So f (arrOf st) 0 (pairsOf vs).size) (fun z a b=>⟨a,b⟩) _ rfl) ?_ fun _ _ e=>e);rintro⟨⟨⟩,st⟩ z ⟨rfl,gd',so⟩;rw[pairsOf_size] at so;dsimp only;refine Bn (seqEpoch_at g rfl (Bn (listUpdate_at g rfl ?_ (Mr _) (by refine LF (XG ((VJ ..).trans (gd'.perm.size_eq.trans (pairsOf_size _)))) ?_;omega))));rw[gd'.failed];simp only[bne_self_eq_false,Lr,if_false];exact Li (h st gd'.perm so)
theorem SY {l:Lp} {vs:List Lf} {Q:Lf->Lm->Prop} (hl:s.heap.IsList l vs.toArray) (hv:vs.length<1000000)
  (hk:∀h',(∀b o,s.heap.get? b=lD o->h'.get? b=lD o)->2<=vs.length->wpAny (model prog w) A.in1.in1 (keyKind' vs.toArray) (fun k z=>k=κ/\z={s with heap:=h'}) (fun _ _=>False) {s with heap:=h'})
  (C:∀h',(∀b o,s.heap.get? b=lD o->h'.get? b=lD o)->Ask prog w A.in1.in1 (fun _ _=>False) (fun z=>z={s with heap:=h'}) κ (·∈(pairsOf vs).toList) f)
  (h:∀st:SortSt,(arrOf st).Perm (pairsOf vs)->So f (arrOf st) 0 vs.length->Q (.ref (s.heap.objs.size+1)) {s with heap:=sortedAll s.heap vs ((arrOf st).map (·.2))}):
  wpAny (model prog w) A (call (.builtin "sorted") [.ref l]) Q E s:=by
 have big:(1000000:Nat)<=LL:=by decide
 refine Calls.call_function_entry kind_sorted plain_sorted entry_sorted (args_sorted1 _) ?_;unfold LJ.«sorted»;refine Bn (m:=checkCount "sorted" 1 1 _) (Li ?_);refine Bn (collect_list hl ?_ (by omega));refine Bn (aa8 ?_ (by show vs.length<=_;omega));have hsz:((s.heap.push (seqObj "list" #[] 0)).update s.heap.objs.size (Obj.mapSeq (·++vs.toArray))).objs.size=s.heap.objs.size+1:=by rw[Heap.size_update,size_push']
 have Y6:(((s.heap.push (seqObj "list" #[] 0)).update s.heap.objs.size (Obj.mapSeq (·++vs.toArray))).push (seqObj "list" vs.toArray 0)).get? (s.heap.objs.size+1)=lD (seqObj "list" vs.toArray 0):=by rw[<-hsz];exact Heap.get?_push_size _ rfl
 have keep:∀b o,s.heap.get? b=lD o->(((s.heap.push (seqObj "list" #[] 0)).update s.heap.objs.size (Obj.mapSeq (·++vs.toArray))).push (seqObj "list" vs.toArray 0)).get? b=lD o:=fun b o q=>
  Heap.get?_push_of_some _ (by rw[Heap.get?_update_ne _ _ _ _ (Ml (Heap.lt_size q))];exact Heap.get?_push_of_some _ q)
 have ne:∀b o,s.heap.get? b=lD o->b≠s.heap.objs.size+1:=fun b o q=>Ml (Oy (Heap.lt_size q));show wpAny _ _ _ _ _ {s with heap:=((s.heap.push (seqObj "list" #[] 0)).update s.heap.objs.size (Obj.mapSeq (·++vs.toArray))).push (seqObj "list" vs.toArray 0)};rw[hsz];refine Bn (Nd (MN slot_list_sort ⟨_,Y6,rfl⟩ entry_list_sort (wpAny_mono (BE (E:=fun _ _=>False) Y6 hv (fun h' kb z=>hk h' (fun b o q=>kb b o (ne b o q) (keep b o q)) z) (fun h' kb=>C h' fun b o q=>kb b o (ne b o q) (keep b o q)) fun st a1 a2=>⟨_,rfl,?_⟩) (fun _ _ z=>z) fun _ _ z=>z.elim) (args_list_sort _)));exact Li ⟨_,rfl,h st a1 a2⟩
end
end TS
namespace LD
open PySem PyProof.Rows L2 L3 L10
structure VC (ds:List D):Prop where
 ok:RJ ds=Lk
 UP:∀a∈ds,Ot a a=lD Lw
 tr:∀a∈ds,∀b∈ds,∀c∈ds,Ot a b=lD Lk->Ot b c=lD Lk->Ot a c=lD Lk
 Uk:∀a∈ds,∀b∈ds,Ot a b=lD Lw->Ot b a=lD Lw->a=b
 tup:∀a∈ds,∃xs ys,a= .tuple (.tuple xs::ys)
def Xd (ds:List D):Prop:=ds.Pairwise fun a b=>Ot b a=lD Lw
open Classical in
noncomputable def QT (ds:List D):List D:=if h:∃l:List D,l.Perm ds/\Xd l then h.choose else ds
theorem Sx {ds l:List D} (L:VC ds) (p:l.Perm ds) (h:Xd l):QT ds=l:=by have hx:∃l:List D,l.Perm ds/\Xd l:=⟨l,p,h⟩;unfold QT;rw[dif_pos hx];refine(hx.choose_spec.1.trans p.symm).eq_of_pairwise (fun a b ha hb h1 h2=> ?_) hx.choose_spec.2 h;exact L.Uk a (hx.choose_spec.1.mem_iff.mp ha) b (p.mem_iff.mp hb) h2 h1
noncomputable def rk (ds:List D) (d:D):Nat:=(ds.filter fun e=>Ot e d==lD Lk).length
theorem ww {α:Type} {p q:α->Bool}:∀{l:List α},(∀x∈l,p x=Lk->q x=Lk)->(l.filter p).length<=(l.filter q).length
 |[],_=>Ll _
 |a::l,h=>by
  have ih:=ww (p:=p) (q:=q) (l:=l) fun x hx=>h x (Ly _ hx);have:=h a LG;rw[MR,MR];split
  ·rename_i z;rw[if_pos (this z)];simp only[Lu];omega
  ·split
   ·simp only[Lu];omega
   ·exact ih
theorem ya {α:Type} {p q:α->Bool}:∀{l:List α},(∀x∈l,p x=Lk->q x=Lk)->(∃x∈l,q x=Lk/\p x=Lw)->(l.filter p).length<(l.filter q).length
 |[],_,⟨_,h,_⟩=>nomatch h
 |a::l,h,⟨x,hx,h1,h2⟩=>by
  have le:=ww (p:=p) (q:=q) (l:=l) fun x hx=>h x (Ly _ hx);have:=h a LG;rw[MR,MR];rcases LN.mp hx with rfl|hx
  ·rw[h2,if_neg LA,if_pos h1,Lu];omega
  ·have ih:=ya (l:=l) (fun x hx=>h x (Ly _ hx)) ⟨x,hx,h1,h2⟩
   split
   ·rename_i z;rw[if_pos (this z)];simp only[Lu];omega
   ·split
    ·simp only[Lu];omega
    ·exact ih
theorem VC.lt {ds:List D} (L:VC ds) {a b:D} (ha:a∈ds) (hb:b∈ds):Ot a b=lD (decide (rk ds a<rk ds b)):=by
 have up:∀{a b:D},a∈ds->b∈ds->Ot a b=lD Lk->rk ds a<rk ds b:=fun{a b} ha hb h=>by
  refine ya (fun x hx q=> ?_) ⟨a,ha,by rw[h];rfl,by rw[L.UP a ha];rfl⟩;have q:Ot x a=lD Lk:=by simpa using q
  rw[L.tr x hx a ha b hb q h];rfl
 have so:(Ot a b).isSome=Lk/\(Ot b a).isSome=Lk:=by have ok:=L.ok;unfold RJ at ok;rw[Mu] at ok;have h1:=ok a ha;have h2:=ok b hb;rw[LU] at h1 h2;exact⟨Mu.mp h1.2 b hb,Mu.mp h2.2 a ha⟩
 obtain⟨r,hr⟩:=Ng.mp so.1;obtain⟨r',hr'⟩:=Ng.mp so.2;rw[hr];congr 1;cases r with
 |true=>exact(decide_eq_true (up ha hb hr)).symm
 |false=>
  refine(decide_eq_false ?_).symm;cases r' with
  |true=>have:=up hb ha hr';omega
  |false=>rw[L.Uk a ha b hb hr hr'];omega
theorem uO {ds:List D} (L:VC ds) {a:D} (h:a∈ds):a.canLay0=Lk/\a.depth<=32:=by obtain⟨i,hi,e⟩:=NK h;exact j6 L.ok (Lj.mpr ⟨hi,e⟩)
open Classical in
noncomputable def JP (h:Heap) (ds:List D) (p:Keyed):Nat:=if q:∃d,d∈ds/\∃as,NJ h p.1 d as then rk ds q.choose else 0
theorem uS {h:Heap} {ds:List D} (L:VC ds) {p:Keyed} {d:D} {as:List Lp} (hd:d∈ds) (r:NJ h p.1 d as):JP h ds p=rk ds d:=by have q:∃d,d∈ds/\∃as,NJ h p.1 d as:=⟨d,hd,as,r⟩;unfold JP;rw[dif_pos q];obtain⟨q1,as',q2⟩:=q.choose_spec;rw[SeqAt.Reads.unique _ _ _ _ _ (uO L q1).1 q2 r]
section
variable {prog:LR} {w:Mg} {A:L0} {E:Lf->Lm->Prop} {s:Lm}
theorem A4 {Q:Bool->Lm->Prop} {r fin:Bool} (hu:A.units+40<cLine) (q:Q r s):∀{xs ys:List D} {us vs:List Lf} {as bs:List Lp} (i:Nat),NS s.heap us xs as->NS s.heap vs ys bs->Lg.depthAll xs<=32->Lg.depthAll ys<=32->Lg.canLayAll0 xs=Lk->Lg.canLayAll0 ys=Lk->Nu xs ys=lD r->(fin=decide (xs.length<ys.length))->PySem.W.KatLex prog w A Lw fin Q (us.zip vs) i s
 |[],ys,_,vs,_,_,i,.nil,rv,_,_,_,_,e,ef=>by
  show Q fin s;cases rv with
  |nil=>simp[Nu] at e;subst e;subst ef;exact q
  |cons _ _=>simp[Nu] at e;subst e;subst ef;simpa using q
 |x::xs,[],_,_,_,_,i,.cons _ _,.nil,_,_,_,_,e,ef=>by show Q fin s;simp[Nu] at e;subst e;subst ef;simpa using q
 |x::xs,y::ys,_,_,_,_,i,@NS.cons _ u us _ _ _ _ h1 hx,@NS.cons _ v vs _ _ _ _ h2 hy,dx,dy,cx,cy,e,ef=>by
  simp only[Lg.depthAll] at dx dy;unfold Lg.canLayAll0 at cx cy;rw[LU] at cx cy;show wpAny (model prog w) A (eqBool u v) _ _ s;refine SeqAt.eqAt_reads x y A s u v _ _ h1 h2 cx.1 cy.1 (by omega) prog w _ _ ?_;rw[Nu] at e;cases z:Lg.eqv x y with
  |true=>rw[if_pos z] at e;rw[if_pos rfl];exact A4 hu q (i+1) hx hy (by omega) (by omega) cx.2 cy.2 e (by rw[ef];simp)
  |false=>rw[if_neg (by rw[z];simp)] at e;rw[if_neg LA];rw[O8,oneLt'_eq];simp only[Lr,if_false];exact Bn (A3 32 x y u v _ _ A s _ r (by omega) (by omega) cx.1 cy.1 h1 h2 (by omega) e (Nt q))
theorem GL {Q:Bool->Lm->Prop} {x y:Lf} {d e:D} {as bs:List Lp} {r:Bool} (hu:A.units+40<cLine) (dx:d.depth<=32) (dy:e.depth<=32) (cx:d.canLay0=Lk) (cy:e.canLay0=Lk) (tx:∃xs,d= .tuple xs) (ty:∃xs,e= .tuple xs)
  (rx:NJ s.heap x d as) (ry:NJ s.heap y e bs) (h:Ot d e=lD r) (q:Q r s):wpAny (model prog w) A (keyLt' (tuples' Lw) x y) Q E s:=by
 obtain⟨xs,rfl⟩:=tx;obtain⟨ys,rfl⟩:=ty;cases rx with
 | @tuple a oa va na _ _ a1 a2 a3 a4=>
 cases ry with
 | @tuple b ob vb nb _ _ b1 b2 b3 b4=>
  simp only[Lg.depth] at dx dy;unfold Lg.canLay0 at cx cy;rw[Ot] at h;have la:va.size=xs.length:=by have:=SeqAt.ReadsAll.length _ _ _ a4;rw[L5] at this;exact this
  have lb:vb.size=ys.length:=by have:=SeqAt.ReadsAll.length _ _ _ b4;rw[L5] at this;exact this
  exact PySem.W.kat_lt a1 a3 b1 b3 (A4 hu q 0 a4 b4 (by omega) (by omega) cx cy h (by rw[la,lb]))
theorem xl {h:Heap}:∀{us:List Lf} {ds:List D},Paired (fun u d=>(∃xs ys,d=Lg.tuple (.tuple xs::ys))/\∃as,NJ h u d as) us ds->∃fs,PySem.W.KatTups h us fs/\fs.length=us.length/\∀v∈fs,∃a o,v= .ref a/\h.get? a=lD o/\o.cls= .type "tuple"
 |_,_,.nil=>⟨[],.nil,rfl,fun _ h=>nomatch h⟩
 |_,_,.cons ⟨⟨xs,ys,e⟩,as,r⟩ t=>by
  obtain⟨fs,f1,f2,f3⟩:=xl t;subst e;cases r with
  | @tuple a oa va na _ _ a1 a2 a3 a4=>
   generalize ev:va.toList=vl at a4;cases a4 with
   | @cons f fr _ _ _ _ r1 r2=>
    cases r1 with
    | @tuple b ob vb nb _ _ b1 b2 b3 b4=>
     refine⟨.ref b::fs,.cons a1 a2 a3 ?_ f1,by simp[f2],fun v hv=> ?_⟩
     ·rw[<-MG,ev];rfl
     ·rcases LN.mp hv with rfl|hv
      ·exact⟨b,ob,rfl,b1,b2⟩
      ·exact f3 v hv
theorem oQ {α β:Type} (g:α->β) {l:List β} {m:List β} (p:l.Perm m):∀{L:List α},L.map g=m->∃L':List α,L'.Perm L/\L'.map g=l:=by
 induction p with
 |nil=>intro L e;exact⟨L,.refl _,e⟩
 | @cons x l m _ ih=>
  intro L e;cases L with
  |nil=>cases e
  |cons a L=>rw[Lo] at e;obtain⟨e1,e2⟩:=OZ e;obtain⟨L',p',e'⟩:=ih e2;exact⟨a::L',p'.cons a,by rw[Lo,e',e1]⟩
 |swap x y l=>
  intro L e
  match L,e with
  |a::b::L,e=>simp only[Lo,QM] at e;obtain⟨e1,e2,e3⟩:=e;exact⟨b::a::L,.swap a b L,by simp[e1,e2,e3]⟩
 |trans _ _ ih1 ih2=>intro L e;obtain⟨L2,p2,e2⟩:=ih2 e;obtain⟨L1,p1,e1⟩:=ih1 e2;exact⟨L1,p1.trans p2,e1⟩
theorem kU {us:List Lf} {p:Keyed} (h:p∈(pairsOf us).toList):p.1=p.2/\p.1∈us:=by
 unfold pairsOf at h;rw[Ux] at h;have e:∀{l:List Lf} {p:Lf×Lf},p∈l.zip l->p.1=p.2/\p.1∈l:=by
  intro l
  induction l with
  |nil=>intro p h;simp at h
  |cons a l ih=>
   intro p h;rw[MP] at h;rcases LN.mp h with rfl|h
   ·exact⟨rfl,LG⟩
   ·exact⟨(ih h).1,Ly _ (ih h).2⟩
 exact e h
theorem yo {l:Lp} {us:List Lf} {ds:List D} {Q:Lf->Lm->Prop} (hu:A.units+60<cLine) (hl:s.heap.IsList l us.toArray) (hn:us.length<1000000) (L:VC ds) (pr:Paired (fun u d=>∃as,NJ s.heap u d as) us ds)
  (h:∀(We:List Lf) (Ub:List D),Xd Ub->Ub.length=We.length->(We.zip Ub).Perm (us.zip ds)->Q (.ref (s.heap.objs.size+1)) {s with heap:=sortedAll s.heap us We.toArray}):
  wpAny (model prog w) A (call (.builtin "sorted") [.ref l]) Q E s:=by
 have hlen:=Paired.length pr;have up:∀{h':Heap},(∀b o,s.heap.get? b=lD o->h'.get? b=lD o)->∀u∈us,∃d∈ds,(∃as,NJ s.heap u d as)/\∃as,NJ h' u d as:=fun{h'} k u hu'=>by obtain⟨i,hi,e⟩:=NK hu';obtain⟨d,e2,as,r⟩:=fH pr (Lj.mpr ⟨hi,e⟩);exact⟨d,LH e2,⟨as,r⟩,as,Reads.keeps k r⟩
 refine TS.SY (κ:=tuples' Lw) (f:=JP s.heap ds) hl hn (fun h' k h2=> ?_) (fun h' k=>⟨fun x y z hx hy hz=> ?_⟩) fun st p so=> ?_
 ·have pr':Paired (fun u d=>(∃xs ys,d=Lg.tuple (.tuple xs::ys))/\∃as,NJ h' u d as) us ds:=by
   have all:∀{us:List Lf} {es:List D},Paired (fun u d=>∃as,NJ s.heap u d as) us es->(∀d∈es,d∈ds)->Paired (fun u d=>(∃xs ys,d=Lg.tuple (.tuple xs::ys))/\∃as,NJ h' u d as) us es:=by
    intro us es q
    induction q with
    |nil=>exact fun _=> .nil
    |cons r _ ih=>exact fun m=> .cons ⟨L.tup _ (m _ LG),let⟨as,r⟩:=r;⟨as,Reads.keeps k r⟩⟩ (ih fun d hd=>m d (Ly _ hd))
   exact all pr fun _ h=>h
  obtain⟨fs,f1,f2,f3⟩:=xl pr';refine PySem.W.kat_kind (T:= .type "tuple") f1 (by omega) (fun v hv=> ?_) (by decide) ⟨by rfl,rfl⟩;obtain⟨a,o,rfl,g,c⟩:=f3 v hv;rw[<-c];exact(show PySem.W.Looks (model prog w) h' (typeOf (.ref a)) o.cls from(XM g).andThen .now)
 ·subst hz;obtain⟨x1,x2⟩:=kU hx;obtain⟨y1,y2⟩:=kU hy;obtain⟨d,hd,⟨as0,rd0⟩,as,rd⟩:=up k _ x2;obtain⟨e,he,⟨bs0,re0⟩,bs,re⟩:=up k _ y2;have od:=uO L hd;have oe:=uO L he;refine GL (by rw[L0.in1_units,L0.in1_units];omega) od.2 oe.2 od.1 oe.1 (let⟨xs,ys,e⟩:=L.tup d hd;⟨_,e⟩) (let⟨xs,ys,e⟩:=L.tup e he;⟨_,e⟩) rd re (L.lt hd he) ⟨?_,rfl⟩;rw[uS L hd rd0,uS L he re0]
 ·have sz:(arrOf st).size=us.length:=by rw[p.size_eq,pairsOf_size]
  have pu:((arrOf st).map (·.2)).toList.Perm us:=by
   have q:=(N4.mp p).map (·.2);have e:(pairsOf us).toList.map (·.2)=us:=by unfold pairsOf;rw[Ux];exact PN (Ll _)
   rw[e] at q;rw[Uy];exact q
  have ez:(us.zip ds).map (·.1)=us:=Vm (by omega);obtain⟨Z,z1,z2⟩:=oQ (fun x:Lf×D=>x.1) pu ez;have e1:∀Y:List (Lf×D),Y=(Y.map (·.1)).zip (Y.map (·.2)):=fun Y=>by
   induction Y with
   |nil=>rfl
   |cons a Y ih=>rw[Lo,Lo,MP,<-ih]
  have:=h (Z.map (·.1)) (Z.map (·.2)) ?_ (by simp) (by rw[<-e1 Z];exact z1)
  ·rw[z2] at this;have e:((arrOf st).map (·.2)).toList.toArray=(arrOf st).map (·.2):=rfl;rw[e] at this;exact this
  ·have zl:Z.length=us.length:=by rw[<-Lh (f:=(·.1)),z2];simp[sz]
   unfold Xd;rw[Nf];intro i j hi hj ij;simp only[Lh] at hi hj;have rd:∀t (ht:t<Z.length),Z[t].2∈ds/\∃as,NJ s.heap Z[t].1 Z[t].2 as:=fun t ht=>by
    have m:Z[t]∈us.zip ds:=z1.mem_iff.mp (Nv ht);obtain⟨n,hn,e⟩:=NK m;rw[List.getElem_zip] at e;have YG:n<us.length/\n<ds.length:=by simp at hn;omega
    obtain⟨d,e2,r⟩:=fH pr (Lj.mpr ⟨YG.1,rfl⟩);have e3:ds[n]=d:=(Lj.mp e2).2;rw[<-e];exact⟨Nv _,by rw[e3];exact r⟩
   have fz:∀t (ht:t<Z.length),TS.R (JP s.heap ds) (arrOf st) t=rk ds Z[t].2:=fun t ht=>by
    have VA:t<(arrOf st).size:=by omega
    rw[TS.RD VA];obtain⟨m,as,r⟩:=rd t ht;have e:(arrOf st)[t].2=Z[t].1:=by have:=congrArg (fun l=>l[t]?) z2;simp only[Ls,LB ht,Uy,MG,getElem?_pos (arrOf st) t VA,Q5,Qk] at this;exact this.symm
    have e':(arrOf st)[t].1=(arrOf st)[t].2:=(kU ((N4.mp p).mem_iff.mp (by simp))).1;exact uS L m (by rw[e',e];exact r)
   have:=so i j (Mr _) (by omega) (by omega);rw[fz i hi,fz j hj] at this;rw[Vn,Vn,L.lt (rd j hj).1 (rd i hi).1];congr 1;exact decide_eq_false (by omega)
end
end LD
namespace LD
open PySem PyProof.Rows L2 L3 L10
def BP (K:Lc):List V->Hp->VK->Prop:=fun xs H Q=>∃(p:Lp) (vs:List V) (ds:List D),xs=[.ref p]/\Ql K H p vs/\L2.Nc K H vs ds/\vs.length<1000000/\VC ds/\
 ∀(l:Lp) (ws:List V),H l=Ld->ws.length=ds.length->(ws.zip (QT ds)).Perm (vs.zip ds)->(QT ds).length=ds.length->Q (.ref l) (upd H l (.lst ws))
theorem Jm {α β γ:Type}:∀{a:List α} {b:List β} {c:List γ},a.length=b.length->b.length=c.length->(a.zip (b.zip c)).map (·.2)=b.zip c/\(a.zip (b.zip c)).map (fun t=>(t.1,t.2.2))=a.zip c
 |[],[],[],_,_=>⟨rfl,rfl⟩
 |x::a,y::b,z::c,h1,h2=>by obtain⟨e1,e2⟩:=Jm (a:=a) (b:=b) (c:=c) (by simpa using h1) (by simpa using h2);simp only[MP,Lo];exact⟨by rw[e1],by rw[e2]⟩
 |[],_::_,_,h,_=>by cases h
 |_::_,[],_,h,_=>by cases h
 |[],[],_::_,_,h=>by cases h
 |_::_,_::_,[],_,h=>by cases h
theorem CY {vs:List V} {us:List Lf} (h:Vals vs us) {γ:Type}:∀{c:List γ} {t:V×Lf×γ},t∈vs.zip (us.zip c)->RelV t.1 t.2.1:=by
 induction h with
 |nil=>intro c t h;simp at h
 |cons r _ ih=>
  intro c t h;cases c with
  |nil=>simp at h
  |cons z c=>
   rw[MP,MP] at h;rcases LN.mp h with rfl|h
   ·exact r
   ·exact ih h
theorem sG {γ:Type}:∀{T:List (V×Lf×γ)},(∀t∈T,RelV t.1 t.2.1)->Vals (T.map (·.1)) (T.map (·.2.1))
 |[],_=> .nil
 |t::T,h=> .cons (h t LG) (sG fun x hx=>h x (Ly _ hx))
theorem S6 {X:Cx} (hu:X.A.units+64<cLine):im X (.builtin "sorted") (BP X.K):=by
 intro pins s σ H xs us Q I r h;obtain⟨p,vs,ds,rfl,hq,hd,hn,L,q⟩:=h;obtain⟨u,rfl,ru⟩:=ng r;cases ru;obtain⟨MD,rv,pl,hz⟩:=I.list hq;have hl:=rv.length;have hdl:=rG hd;have pr:Paired (fun u d=>∃as,NJ s.heap u d as) MD ds:=by
  clear hq pl hz q L hn hl hdl
  induction rv generalizing ds with
  |nil=>cases hd;exact .nil
  |cons r _ ih=>cases hd with
   |cons d t=>exact .cons (L2.DV.reads I d r) (ih _ t)
 refine yo (by omega) pl.isList (by omega) L pr fun We Ub so hl' pm=> ?_;have z:=Jm (a:=vs) (b:=MD) (c:=ds) (by omega) (by omega);obtain⟨T,t1,t2⟩:=oQ (fun t:V×Lf×D=>t.2) pm z.1;have e1:T.map (·.2.1)=We:=by have:=congrArg (aa9 (·.1)) t2;rw[Mq,Vm (by omega)] at this;exact this
 have e2:T.map (·.2.2)=Ub:=by have:=congrArg (aa9 (·.2)) t2;rw[Mq,PN (by omega)] at this;exact this
 have e3:(T.map (·.1)).zip Ub=T.map fun t=>(t.1,t.2.2):=by
  rw[<-e2];clear t1 t2 e1 e2
  induction T with
  |nil=>rfl
  |cons a T ih=>rw[Lo,Lo,MP,ih];rfl
 have pd:Ub.Perm ds:=by have:=pm.map (·.2);rw[PN (by omega),PN (by omega)] at this;exact this
 have es:=Sx L pd so;have lt:(T.map (·.1)).length=ds.length:=by rw[Lh,<-Lh (f:=(·.2.2)) (as:=T),e2];exact pd.length_eq
 obtain⟨e,he⟩:=sortedAll_at s.heap MD We.toArray;refine⟨.ref (s.heap.objs.size+1),_,I.laid (t':=s.toks) (o:= .lst (T.map (·.1))) (fun b ob z=>sortedAll_old z) (YR _) ?_,rfl,q _ (T.map (·.1)) (I.NO.fresh (YR _)) lt ?_ (by rw[es];exact pd.length_eq)⟩
 ·refine⟨?_,We,e,by rw[<-e1];exact sG fun t ht=>CY rv (t1.mem_iff.mp ht),he⟩
  have:(1000000:Nat)<=LL:=by decide
  omega
 ·rw[es,e3,<-z.2];exact t1.map _
noncomputable def SH (ω:aX):SV->Option (List SV)
 | .rf i=>match ω[i]? with
  |some (.lst xs)=>lD xs
  |_=>Ld
 |_=>Ld
open Classical in
noncomputable def Tu (fa:c7):c7:=fun ρ ω=>(fa ρ ω).bind fun o ω1=>(RS.ME ω1 (SH ω1 o)).bind fun xs ω1=>(RS.ME ω1 (aw nX xs)).bind fun ds ω1=>if VC ds/\ds.length<1000000 then .ok (.rf ω1.length) (ω1++[.lst ((QT ds).map SV.fz)]) else .bad
theorem ye {O:bu} {K:Lc} {H:Hp}:∀{vs:List V} {ds:List D},(∀t∈vs.zip ds,L3.DV O K H t.1 t.2)->vs.length=ds.length->L3.Nc O K H vs ds
 |[],[],_,_=> .nil
 |v::vs,d::ds,h,e=> .cons (h (v,d) (by rw[MP];exact LG)) (ye (fun t ht=>h t (by rw[MP];exact Ly _ ht)) (by simpa using e))
 |[],_::_,_,e=>by cases e
 |_::_,[],_,e=>by cases e
theorem xH {O:bu} {K:Lc} {H:Hp}:∀{vs:List V} {ds:List D},L3.Nc O K H vs ds->∀t∈vs.zip ds,L3.DV O K H t.1 t.2
 |_,_,.nil,_,h=>nomatch h
 |_,_,.cons a t,x,h=>by
  rw[MP] at h;rcases LN.mp h with rfl|h
  ·exact a
  ·exact xH t x h
section
variable {K:Lc} {E:XK} {B:bu} {H:Hp} {α:List Lp} {ω:aX} {v:V}
theorem FX {x:SV} {xs:List SV} (s:StoOk B K H α ω) (hv:OT (ow B α ω) K H α v x) (h:SH ω x=lD xs):∃a vs,v= .ref a/\H a=lD (.lst vs)/\N6 (ow B α ω) K H α vs xs:=by
 cases x with
 |fz d=>cases h
 |tp l=>cases h
 |rf j=>
  obtain⟨a,ha,rfl⟩:=hv;unfold SH at h;dsimp only at h;cases q:ω[j]? with
  |none=>rw[q] at h;cases h
  |some c=>
   rw[q] at h;cases c with
   |lst ys=>cases h;obtain⟨ws,h1,h2⟩:=s.RL j a _ ha q;exact⟨a,ws,rfl,h1,h2⟩
   |_=>cases h
theorem T1 {ta:TE} {fa:c7} (ha:d5 K E ta fa):d5 K E (E9 (BP K) (gI ta nV)) (Tu fa):=by
 intro B σ H α ω ρ Q s sl w;refine ha B σ H α ω ρ _ s sl (w.bind.imp fun o α1 ω1 H1 e1 s1 w1 u hu=> ?_);obtain⟨xs,q1,w1⟩:=WS.ME w1;obtain⟨ds,q2,w1⟩:=WS.ME w1;obtain⟨a,vs,rfl,g1,g2⟩:=FX s1 hu q1;rw[jV q2] at g2;have dv:=rY g2;have hl:vs.length=ds.length:=by have:=Paired.length g2;rwa [Lh] at this
 by_cases c:VC ds/\ds.length<1000000
 ·rw[if_pos c] at w1;refine⟨a,vs,ds,rfl,.inl (.inl g1),dv.plain,by omega,c.1,fun l ws hn hw pm XQ=> ?_⟩;have sm:Nk H1 (upd H1 l (.lst ws)):=cc hn _;have e:Nq α1 ω1 H1 (α1++[l]) (ω1++[.lst ((QT ds).map SV.fz)]) (upd H1 l (.lst ws)):=Nq.RE s1.len sm hn;have dv2:L3.Nc (ow B α1 ω1) K H1 ws (QT ds):=ye (fun t ht=>xH dv t (pm.mem_iff.mp ht)) (by omega);exact w1 _ _ e (s1.RE sm hn (by rw[aB];simp) ⟨ws,aB,vK (dv2.ev e.ev)⟩) _ ⟨l,by rw[<-s1.len];exact aU,rfl⟩
 ·rw[if_neg c] at w1;exact w1.elim
end
end LD
namespace LD
open PySem PyProof.Rows L2 L3
mutual
noncomputable def Uo:Lg->Lg->Option Bool
 | .int i,.int j=>lD (decide (j<=i))
 | .tuple xs,.tuple ys=>PZ xs ys
 |_,_=>Ld
noncomputable def PZ:List Lg->List Lg->Option Bool
 |[],[]=>lD Lk
 |[],_::_=>lD Lw
 |_::_,[]=>lD Lk
 |x::xs,y::ys=>if Lg.eqv x y=Lk then PZ xs ys else Uo x y
end
section
variable {prog:LR} {w:Mg} {E:Lf->Lm->Prop}
theorem Fq:∀(n:Nat) (x y:Lg) (u v:Lf) (as bs:List Lp) (A:L0) (s:Lm) (Q:Lf->Lm->Prop) (r:Bool),x.depth<=n->y.depth<=n->x.canLay0=Lk->y.canLay0=Lk->NJ s.heap u x as->NJ s.heap v y bs->A.units+n<cLine->Uo x y=lD r->Q (.bool r) s->wpAny (model prog w) A (richCompare .GtE u v) Q E s
 |n,.int i,.int j,_,_,_,_,A,s,Q,r,_,_,_,_,ru,rv,_,e,h=>by cases ru;cases rv;rw[Uo] at e;cases e;exact Rx (op:= .GtE) (Ox s _ _) (Ox s _ _) F.slot_int_ge F.entry_int_ge (F.args_int_ge_2 _ _) (gives_int_ge _ _ _ _) (fun x=>nomatch x) h
 |0,.tuple xs,_,_,_,_,_,A,s,Q,r,hx,_,_,_,_,_,_,_,_=>by simp only[Lg.depth] at hx;omega
 |n+1,.tuple xs,.tuple ys,_,_,_,_,A,s,Q,r,hx,hy,lx,ly,ru,rv,hu,e,h=>by
  cases ru with
  | @tuple a oa va na _ _ a1 a2 a3 a4=>
  cases rv with
  | @tuple b ob vb nb _ _ b1 b2 b3 b4=>
   have X4:s.TypeIs (.ref a) "tuple":=⟨_,a1,a2⟩;have XZ:s.TypeIs (.ref b) "tuple":=⟨_,b1,b2⟩;rw[Uo] at e;simp only[Lg.depth] at hx hy;unfold Lg.canLay0 at lx ly;refine Pq (op:= .GtE) X4 XZ F.slot_tuple_ge (MN F.slot_tuple_ge X4 F.entry_tuple_ge ?_ (F.args_tuple_ge_2 _ _)) (by omega);show wpAny _ _ (isInstance (.ref b) (.type "tuple")>>=_) _ _ s;refine Bn (NT XZ Qy ?_);simp only[MZ,Lr,if_false];refine Bn (OA a1 a3 ?_);refine Bn (OA b1 b3 ?_);refine Bn ?_;have la:va.size=xs.length:=by have:=SeqAt.ReadsAll.length _ _ _ a4;rw[L5] at this;exact this
   have lb:vb.size=ys.length:=by have:=SeqAt.ReadsAll.length _ _ _ b4;rw[L5] at this;exact this
   refine RQ _
    (fun rest q s'=>q.1=Ld/\s'=s/\∃x' y' UR TR cs ds,rest=aa5 UR TR/\NS s.heap UR x' cs/\NS s.heap TR y' ds/\Lg.depthAll x'<=n/\Lg.depthAll y'<=n/\Lg.canLayAll0 x'=Lk/\Lg.canLayAll0 y'=Lk/\PZ x' y'=PZ xs ys/\(y'.length<=x'.length↔ys.length<=xs.length))
    _ ?_ ?_ _ _ ⟨rfl,rfl,xs,ys,_,_,_,_,rfl,a4,b4,by omega,by omega,lx,ly,rfl,Iff.rfl⟩
   ·rintro⟨p,q⟩ rest r' s' ⟨hr,rfl,x',y',UR,TR,cs,ds,hz,Sm,U9,dx,dy,cx,cy,hl,hlen⟩
    cases Sm with
    |nil=>simp at hz
    | @cons p' ps k1 ZP c1 c2 h1 WU=>
     cases U9 with
     |nil=>simp at hz
     | @cons q' qs k2 Z5 d1 d2 h2 WX=>
      simp only[MP,QM,Prod.mk.injEq] at hz;obtain⟨⟨rfl,rfl⟩,rfl⟩:=hz;simp only[Lg.depthAll] at dx dy;unfold Lg.canLayAll0 at cx cy;rw[LU] at cx cy;refine Bn (SeqAt.eqAt_reads k1 k2 A.in1 s' p q _ _ h1 h2 cx.1 cy.1 (by rw[L0.in1_units];omega) prog w _ _ ?_);rw[PZ] at hl;cases z:Lg.eqv k1 k2 with
      |true=>rw[if_pos z] at hl;simp only[MZ,Lr,if_false];refine Li ⟨rfl,rfl,ZP,Z5,ps,qs,_,_,rfl,WU,WX,by omega,by omega,cx.2,cy.2,hl,?_⟩;rw[<-hlen,Lu,Lu];omega
      |false=>rw[if_neg (by rw[z];simp)] at hl;simp only[Qm,if_true];refine Bn (Qu (Bn (Fq n k1 k2 p q _ _ A.in1 s' _ r (by omega) (by omega) cx.1 cy.1 h1 h2 (by rw[L0.in1_units];omega) (hl.trans e) ?_)));exact Bn (Li (Li (Li ⟨_,rfl,(fun x=>nomatch x),h⟩)))
   ·rintro⟨r1,r2⟩ s' ⟨hr,rfl,x',y',UR,TR,cs,ds,hz,Sm,U9,dx,dy,cx,cy,hl,hlen⟩
    simp only at hr;subst hr;refine Li ⟨_,rfl,(fun x=>nomatch x),?_⟩;have er:r=decide (ys.length<=xs.length):=by
     have:PZ x' y'=lD (decide (y'.length<=x'.length)):=by
      cases Sm with
      |nil=>cases U9<;>simp[PZ]
      |cons _ _=>
       cases U9 with
       |nil=>simp[PZ]
       |cons _ _=>simp at hz
     rw[<-hl,this] at e;cases e;exact decide_eq_decide.mpr hlen
    rw[er] at h;rw[la,lb];exact h
 |_,.tuple xs,.none,_,_,_,_,_,_,_,_,_,_,_,_,_,_,_,e,_|_,.tuple xs,.bool _,_,_,_,_,_,_,_,_,_,_,_,_,_,_,_,e,_|_,.tuple xs,.int _,_,_,_,_,_,_,_,_,_,_,_,_,_,_,_,e,_|_,.tuple xs,.str _,_,_,_,_,_,_,_,_,_,_,_,_,_,_,_,e,_|_,.tuple xs,.list _,_,_,_,_,_,_,_,_,_,_,_,_,_,_,_,e,_|_,.tuple xs,.dict _,_,_,_,_,_,_,_,_,_,_,_,_,_,_,_,e,_=>by simp[Uo] at e
 |_,.none,_,_,_,_,_,_,_,_,_,_,_,_,_,_,_,_,e,_|_,.bool _,_,_,_,_,_,_,_,_,_,_,_,_,_,_,_,_,e,_|_,.str _,_,_,_,_,_,_,_,_,_,_,_,_,_,_,_,_,e,_|_,.list _,_,_,_,_,_,_,_,_,_,_,_,_,_,_,_,_,e,_|_,.dict _,_,_,_,_,_,_,_,_,_,_,_,_,_,_,_,_,e,_=>by simp[Uo] at e
 |_,.int _,.none,_,_,_,_,_,_,_,_,_,_,_,_,_,_,_,e,_|_,.int _,.bool _,_,_,_,_,_,_,_,_,_,_,_,_,_,_,_,e,_|_,.int _,.str _,_,_,_,_,_,_,_,_,_,_,_,_,_,_,_,e,_|_,.int _,.list _,_,_,_,_,_,_,_,_,_,_,_,_,_,_,_,e,_|_,.int _,.tuple _,_,_,_,_,_,_,_,_,_,_,_,_,_,_,_,e,_|_,.int _,.dict _,_,_,_,_,_,_,_,_,_,_,_,_,_,_,_,e,_=>by simp[Uo] at e
end
def Ju (K:Lc):R2:=fun x y H Q=>∃dx dy r,L2.DV K H x dx/\L2.DV K H y dy/\(dx.canLay0=Lk/\dy.canLay0=Lk/\dx.depth<=32/\dy.depth<=32)/\Uo dx dy=lD r/\Q (.bl r) H
theorem WB {X:Cx} (hu:X.A.units+64<cLine):OpR X (NG .GtE) (Ju X.K):=by intro pins s σ H x y v u Q I rx ry h;obtain⟨dx,dy,r,h1,h2,⟨l1,l2,d1,d2⟩,e,q⟩:=h;obtain⟨as,r1⟩:=h1.reads I rx;obtain⟨bs,r2⟩:=h2.reads I ry;exact Fq 32 dx dy v u as bs X.A s _ r d1 d2 l1 l2 r1 r2 (by omega) e ⟨.bl _,H,I,rfl,q⟩
noncomputable def XY (d e:D):Option RV:=if(d.canLay0&&e.canLay0&&decide (d.depth<=32)&&decide (e.depth<=32))=Lk then(Uo d e).map fun r=> .fz (.bool r) else Ld
theorem VX {K:Lc}:lc K (Ju K) XY:=by
 intro O H x y dx dy rv Q n hx hy e q;unfold XY at e;split at e
 ·rename_i hc;simp only[LU,decide_eq_true_eq] at hc;obtain⟨r,hr,e⟩:=Mo.mp e;subst e;exact⟨dx,dy,r,hx.plain,hy.plain,⟨hc.1.1.1,hc.1.1.2,hc.1.2,hc.2⟩,hr,q.at (.bl _)⟩
 ·cases e
end LD
namespace LD
open PySem PyProof.Rows
mutual
theorem pq {h h':Heap} {P:Lp->Prop} (hp:∀b o,h.get? b=lD o->¬P b->h'.get? b=lD o) (hd:∀b o,P b->h.get? b=lD o->o.cls≠ .type "tuple"):∀(d:Lg) (v:Lf) (as:List Lp),kd d=Lk->NJ h v d as->NJ h' v d as
 | .none,_,_,_,r=>by cases r;exact .none
 | .int _,_,_,_,r=>by cases r;exact .int _ _
 | .str _,_,_,_,r=>by cases r;exact .str _ _
 | .tuple xs,_,_,k,r=>by
  cases r with
  | @tuple a o vs n _ _ h1 h2 h3 h4=>unfold kd at k;exact .tuple (hp a o h1 fun z=>hd a o z h1 h2) h2 h3 (mW hp hd xs _ _ k h4)
 | .bool _,_,_,k,_=>by simp[kd] at k
 | .list _,_,_,k,_=>by simp[kd] at k
 | .dict _,_,_,k,_=>by simp[kd] at k
theorem mW {h h':Heap} {P:Lp->Prop} (hp:∀b o,h.get? b=lD o->¬P b->h'.get? b=lD o) (hd:∀b o,P b->h.get? b=lD o->o.cls≠ .type "tuple"):∀(ds:List Lg) (vs:List Lf) (as:List Lp),kds ds=Lk->NS h vs ds as->NS h' vs ds as
 |[],_,_,_,r=>by cases r;exact .nil
 |d::ds,_,_,k,r=>by
  cases r with
  |cons r1 r2=>unfold kds at k;rw[LU] at k;exact .cons (pq hp hd d _ _ k.1 r1) (mW hp hd ds _ _ k.2 r2)
end
section
variable {prog:LR} {w:Mg} {A:L0} {E:Lf->Lm->Prop} {s:Lm} {I dd ax:Lp} {items:Array Lf} {ks:List (KD×Lp×Lf)} {R:Ws->Lm->Prop}
noncomputable def ER (xs ks:List (KD×Lp×Lf)):List (KD×Lp×Lf):=ks.foldl (fun xs p=>storedH xs p.1 p.2.1 p.2.2) xs
theorem Dr (xs:List (KD×Lp×Lf)) (k:KD) (a:Lp) (v:Lf):(storedH xs k a v).length<=xs.length+1:=by
 unfold storedH;split
 ·rw[Lh];omega
 ·rw[Ln];exact Ll _
theorem wG:∀(ks xs:List (KD×Lp×Lf)),(ER xs ks).length<=xs.length+ks.length
 |[],_=>Ll _
 |p::r,xs=>by have h1:=wG r (storedH xs p.1 p.2.1 p.2.2);have h2:=Dr xs p.1 p.2.1 p.2.2;show(ER (storedH xs p.1 p.2.1 p.2.2) r).length<=_;rw[Lu];omega
theorem wx {h h':Heap} {xs:List (KD×Lp×Lf)} (dt:h.DictOfH (bL prog w) dd xs) (hI:I≠dd) (hc:∀o,h.get? I=lD o->o.cls≠ .type "tuple") (hk:∀b o,b∉[I]->h.get? b=lD o->h'.get? b=lD o):h'.DictOfH (bL prog w) dd xs:=by obtain⟨o,es,ep,g1,g2,g3,g4,g5,g6⟩:=dt;refine⟨o,es,ep,hk dd o (by simp;exact fun z=>hI z.symm) g1,g2,g3,g4,fun x hx=> ?_,g6⟩;obtain⟨as,r⟩:=g5 x hx;exact⟨as,pq (P:=(·=I)) (fun b o e n=>hk b o (by simp;exact n) e) (fun b o z e=>by subst z;exact hc o e) x.1.1 _ _ (cY x.1.2).1 r⟩
theorem ym {hb:Heap} (hu:A.in1.units+8<cLine) (hh:A.handled=Ld) (OK:ax≠I) (hI:I≠dd) (hax:ax≠dd) (nI:hb.get? I=Ld) (nd:hb.get? dd=Ld)
  (hp:∀(i:Nat) (v:Lf),items[i]? =lD v->∃q a k x,v= .ref q/\ks[i]? =lD (k,a,x)/\(∃as,NJ hb (.ref a) k.1 as)/\hb.IsTuple q #[.ref a,x]) (hs:ks.length=items.size) (hz:items.size<=LL)
  (hR:∀h' tk,h'.DictOfH (bL prog w) dd (ER [] ks)->(∀b o,hb.get? b=lD o->h'.get? b=lD o)->R (.ok (.ret .none)) {s with heap:=h',toks:=tk}):
  ∀(m i:Nat) (h:Heap) (tk:Nat),items.size - i=m->i<=items.size->h.IsListIter I ax i->h.IsList ax items->h.DictOfH (bL prog w) dd (ER [] (ks.take i))->(∀b o,hb.get? b=lD o->h.get? b=lD o)->
   codeAny (model prog w) A (.builtin "dict.update.loop" ⟨[.ref dd,.ref I,rawInt i,.none],[]⟩) R {s with heap:=h,toks:=tk}:=by
 have W:=Walks.list (prog:=prog) (w:=w) (A:=A.in1) hh I ax OK items;have nb:∀{b:Lp} {o:Obj} {c:Lp},hb.get? c=Ld->hb.get? b=lD o->b≠c:=fun{b o c} n e z=>by rw[z,n] at e;cases e
 have ic:∀{h:Heap} {i:Nat},h.IsListIter I ax i->∀o,h.get? I=lD o->o.cls≠ .type "tuple":=fun{h i} it o e=>by obtain⟨o',e',c,_⟩:=it;rw[e] at e';cases e';rw[c];decide
 intro m
 induction m with
 |zero=>
  intro i h tk hm hi it tu dt kp;have e:i=items.size:=by omega
  subst e;refine Pd F.entry_upd_loop ?_;rw[L0.under_plainId F.plain_upd_loop _];show wpAny _ A.in1 (pyNext (.ref I)>>=_) _ _ _;refine Bn (W.done _ _ _ ⟨it,tu⟩ fun h' Y7 hk=> ?_);rw[MX (by omega)] at dt;show wpAny _ A.in1 (LJ.Dict.addKeywords dd []>>=fun _=>ret .none) _ _ _;refine Bn (Li (Li ?_));exact hR h' Y7 (wx dt hI (ic it) hk) fun b o e=>hk b o (by simp;exact nb nI e) (kp b o e)
 |succ m ih=>
  intro i h tk hm hi it tu dt kp;have Pm:i<items.size:=by omega
  refine Pd F.entry_upd_loop ?_;rw[L0.under_plainId F.plain_upd_loop _];show wpAny _ A.in1 (pyNext (.ref I)>>=_) _ _ _;refine Bn (W.item i _ _ _ Pm ⟨it,tu⟩ fun v h' Y7 hv st hk=> ?_);obtain⟨q,a,k,x,rfl,hk1,⟨as,rd⟩,ht⟩:=hp i v hv;have ZH:∀b o,hb.get? b=lD o->h'.get? b=lD o:=fun b o e=>hk b o (by simp;exact nb nI e) (kp b o e);have dt':=wx dt hI (ic it) hk;obtain⟨oq,Zm,hcq,nq,hdq⟩:=ht;have Zm:=ZH q _ Zm;obtain⟨cq,dq,dtq,slq⟩:=oq;cases hcq;cases hdq;have hT:({s with heap:=h',toks:=Y7}:Lm).TypeIs (.ref q) "tuple":=⟨_,Zm,rfl⟩;refine Bn (Nd (Bn ?_));refine PD ?_;unfold LJ.Dict.pairItems;refine Bn (Po hT ?_);rw[if_pos (by decide)];refine Bn ?_;unfold seqItems?;refine Bn (wpAny_load Zm (Li (Li ?_)));show wpAny _ A.in1 (holding [.ref a,x] (dictSet dd (.ref a) x)) _ _ _;have ml:(ER [] (ks.take i)).length<=LL:=by have:=wG (ks.take i) [];rw[Ms,OO] at this;omega
  refine Nd (wpAny_dictSet_heap (knd:=bL prog w) (s:={s with heap:=h',toks:=Y7}) (hsz:=ml) hu ⟨as,Reads.keeps ZH rd⟩ dt' fun h2 d2 s2=> ?_);refine Li ⟨Oo F.plain_upd_loop _,?_⟩;have e2:∀b o,b≠dd->h'.get? b=lD o->h2.get? b=lD o:=fun b o hb e=>(s2.2 b hb).trans e;refine ih (i+1) h2 _ (by omega) Pm (st.1.at fun o e=>e2 I o hI e) (st.2.at fun o e=>e2 ax o hax e) ?_ fun b o e=>e2 b o (nb nd e) (ZH b o e);have et:ks.take (i+1)=ks.take i++[(k,a,x)]:=by rw[QQ,hk1];rfl
  rw[et];unfold ER;rw[Uz];exact d2
theorem nH {Q:Lf->Lm->Prop} {n:Nat} {sl:Array (Option Lf)} (hu:A.units+32<cLine) (hh:A.handled=Ld) (hx:s.heap.get? ax=lD ⟨.type "list",Ld,.seq items n,sl⟩) (hs:ks.length=items.size) (hz:items.size<=LL)
  (hp:∀(i:Nat) (v:Lf),items[i]? =lD v->∃q a k x,v= .ref q/\ks[i]? =lD (k,a,x)/\(∃as,NJ s.heap (.ref a) k.1 as)/\s.heap.IsTuple q #[.ref a,x])
  (h:∀h' tk,h'.DictOfH (bL prog w) s.heap.objs.size (ER [] ks)->(∀b o,s.heap.get? b=lD o->h'.get? b=lD o)->Q (.ref s.heap.objs.size) {s with heap:=h',toks:=tk}):
  wpAny (model prog w) A (call (.type "dict") [.ref ax]) Q E s:=by
 refine callType_codes (Q₁:=fun obj s₁=>obj= .ref s.heap.objs.size/\s₁={s with heap:=s.heap.push {cls:= .type "dict",data:= .dict #[]}}) F.kt_called_dict (F.kt_typeCall_dict_1 _) F.entry_dict_init (kt_code_dict_new _ ⟨rfl,rfl⟩) ?_;rintro obj s₁ ⟨rfl,rfl⟩;have TN:(s.heap.push {cls:= .type "dict",data:= .dict #[]}).DictOfH (bL prog w) s.heap.objs.size []:=⟨_,#[],0,Heap.get?_push_size _ rfl,⟨rfl,rfl,rfl⟩,rfl,rfl,(fun _ z=>nomatch z),N9⟩;have Sm:(s.heap.push {cls:= .type "dict",data:= .dict #[]}).get? ax=lD ⟨.type "list",Ld,.seq items n,sl⟩:=Heap.get?_push_of_some _ hx;have hT:({s with heap:=s.heap.push {cls:= .type "dict",data:= .dict #[]}}:Lm).TypeIs (.ref ax) "list":=⟨_,Sm,rfl⟩;refine⟨TN.typeIs,F.args_dict_init_2 _ _,?_⟩;unfold LJ.«dict.__init__»;refine Bn ?_;unfold LJ.Dict.selfAndRest;refine Bn (Ob TN.typeIs ?_);show wpAny _ _ (pure (s.heap.objs.size,[Lf.ref ax])) _ _ _;refine Li ?_;show wpAny _ _ (LJ.Dict.updateFrom "dict.__init__" s.heap.objs.size (.ref ax) [] .none) _ _ _;unfold LJ.Dict.updateFrom;refine Bn (Po hT ?_);rw[if_pos (by decide)];refine Bn (mR Sm hh fun h' t' hk=> ?_);rw[if_pos (show(Ld:Option Lf).isNone=Lk from rfl)];refine Bn (Qu ?_);have Wh:=hk _ _ Sm;have ht2:h'.IsList ax items:=⟨_,Wh,rfl,n,rfl⟩;refine Bn (Pl (s:={s with heap:=h',toks:=t'}) ht2 ?_);refine Li ⟨Oo F.plain_upd_loop _,?_⟩;have Ot:s.heap.objs.size<h'.objs.size:=by obtain⟨o,_,_,ho,_⟩:=id TN;exact Heap.lt_size (hk _ _ ho)
 have lta:ax<s.heap.objs.size:=Heap.lt_size hx;have ON:∀{c:Lp},s.heap.objs.size<=c->s.heap.get? c=Ld:=fun{c} hc=>by
  cases q:s.heap.get? c with
  |none=>rfl
  |some o=>exact absurd (LQ (Heap.lt_size q) hc) (MC _)
 refine ym (A:=A.in1) (prog:=prog) (w:=w) (ks:=ks) (items:=items) (ax:=ax) (R:=wants (fun r s₂=>r=Lf.none/\Q (Lf.ref s.heap.objs.size) s₂) E) (hb:=s.heap) (s:={s with heap:=h',toks:=t'}) (by rw[L0.in1_units,L0.in1_units];omega) hh (Ml (OX lta Ot)) (OV Ot) (Ml lta) (ON (MU Ot)) (ON (Ll _)) hp hs hz (fun h2 tk2 d2 k2=>⟨rfl,h h2 tk2 d2 k2⟩) items.size 0 _ t' (by omega) (Mr _) ⟨_,Heap.get?_push_size _ rfl,rfl,rfl⟩ ⟨_,Heap.get?_push_of_some _ Wh,rfl,n,rfl⟩ ?_ fun b o e=>Heap.get?_push_of_some _ (hk _ _ (Heap.get?_push_of_some _ e));obtain⟨o,es,ep,g1,g2,g3,g4,g5,g6⟩:=TN;exact⟨o,es,ep,Heap.get?_push_of_some _ (hk _ _ g1),g2,g3,g4,(fun _ z=>nomatch z),g6⟩
end
open L2 L3 L10
noncomputable def Ij (xs Mj:List (KD×Lp×V)):List (KD×Lp×V):=Mj.foldl (fun xs p=>j0 xs p.1 p.2.1 p.2.2) xs
inductive Uc (K:Lc) (H:Hp):List V->List (KD×Lp×V)->Prop
 |nil:Uc K H [] []
 |cons {q b:Lp} {k:KD} {v:V} {vs:List V} {Mj:List (KD×Lp×V)}:P9 K H q [.ref b,v]->L2.DV K H (.ref b) k.1->Uc K H vs Mj->Uc K H (.ref q::vs) ((k,b,v)::Mj)
def xA (K:Lc):List V->Hp->VK->Prop:=fun xs H Q=>∃p ys Mj,xs=[.ref p]/\Ql K H p ys/\Uc K H ys Mj/\ys.length<1000000/\∀d,H d=Ld->Q (.ref d) (upd H d (DkO d (Ij [] Mj)))
theorem EV:∀{Mj:List (KD×Lp×V)} {ks:List (KD×Lp×Lf)} {xs:List (KD×Lp×V)} {ys:List (KD×Lp×Lf)},RX Mj ks->RX xs ys->RX (Ij xs Mj) (ER ys ks)
 |_,_,_,_,.nil,h=>h
 |_,_,_,_,.cons (a:=p) (b:=q) hd t,h=>by obtain⟨k,b,v⟩:=p;obtain⟨k',b',u⟩:=q;obtain⟨h1,h2,h3⟩:=hd;dsimp only at h1 h2 h3;subst h1 h2;have z:=EV t (Cl (k:=k) (b:=b) h3 h);exact z
theorem wa:∀(Mj xs:List (KD×Lp×V)),(Ij xs Mj).length<=xs.length+Mj.length
 |[],_=>Ll _
 |p::r,xs=>by have h1:=wa r (j0 xs p.1 p.2.1 p.2.2);have h2:=li xs p.1 p.2.1 p.2.2;show(Ij (j0 xs p.1 p.2.1 p.2.2) r).length<=_;rw[Lu];omega
theorem wV {X:Cx} {pins:List (Lp×Obj)} {σ:L2.St} {H:Hp} {s:Lm} (I:Inv X pins σ H s):∀{ys:List V} {Mj:List (KD×Lp×V)} {us:List Lf},Uc X.K H ys Mj->Vals ys us->∃ks:List (KD×Lp×Lf),RX Mj ks/\ks.length=us.length/\Mj.length=us.length/\∀(i:Nat) (v:Lf),us[i]? =lD v->∃q a k x,v= .ref q/\ks[i]? =lD (k,a,x)/\(∃as,NJ s.heap (.ref a) k.1 as)/\s.heap.IsTuple q #[.ref a,x]
 |_,_,_,.nil,.nil=>⟨[],.nil,rfl,rfl,fun i v e=>by simp at e⟩
 |_,_,_,.cons (q:=q) (b:=b) (k:=k) (v:=v) h dk t,.cons r rs=>by
  obtain⟨ks,h1,h2,XT,h3⟩:=wV I t rs;obtain⟨MD,rv,pl,_⟩:=I.tuple h;cases r;obtain⟨ux,rfl,rx⟩:∃ux,MD=[.ref b,ux]/\RelV v ux:=by
   cases rv with
   |cons a c=>cases a;cases c with
    |cons c d=>cases d;exact⟨_,rfl,c⟩
  refine⟨(k,b,ux)::ks,.cons ⟨rfl,rfl,rx⟩ h1,by rw[Lu,Lu,h2],by rw[Lu,Lu,XT],fun i u e=> ?_⟩;cases i with
  |zero=>cases e;exact⟨q,b,k,ux,rfl,rfl,L2.DV.reads I dk rfl,pl⟩
  |succ i=>exact h3 i u (by simpa using e)
theorem QR {X:Cx} (hc:X.calm=Lk) (hu:X.A.units+64<cLine):im X (.type "dict") (xA X.K):=by
 intro pins s σ H xs us Q I r h;obtain⟨p,ys,Mj,rfl,hq,hp,hn,q⟩:=h;obtain⟨u,rfl,ru⟩:=ng r;cases ru;obtain⟨MD,rv,⟨o,n,ho,hcl,hdn,hd⟩,hz⟩:=I.list hq;obtain⟨ks,k1,k2,Zc,k3⟩:=wV I hp rv;obtain⟨oc,od,odt,UK⟩:=o;cases hcl;cases hd;cases hdn;have hl:=rv.length;refine nH (ks:=ks) (by omega) (I.ok.hd hc) ho (by rw[LC];exact k2) (by rw[LC,<-hl];exact hz) (fun i v e=>k3 i v (by simpa using e)) fun h' tk dd hk=> ?_;refine⟨.ref s.heap.objs.size,_,I.laid (t':=tk) (o:=DkO s.heap.objs.size (Ij [] Mj)) hk (Ll _) ?_,rfl,q _ (I.NO.fresh (Ll _))⟩;refine pV ?_ (beq_eq_false_iff_ne.mpr (OV I.big)) (EV k1 .nil) dd;have:=wa Mj [];have:(1000000:Nat)<=LL:=by decide
 rw[OO] at*;omega
noncomputable def Qe:D->Option (D×D)
 | .tuple [k,v]=>if keyD k=Lk then lD (k,v) else Ld
 |_=>Ld
noncomputable def Q6 (ω:aX):SV->Option (List (D×D))
 | .rf i=>match ω[i]? with
  |some (.lst xs)=>(aw DQ xs).bind fun ds=>aw Qe ds
  |_=>Ld
 |_=>Ld
noncomputable def Vt (Mj ps:List (D×D)):List (D×D):=ps.foldl (fun m p=>fS m p.1 p.2) Mj
noncomputable def UT (fe:c7):c7:=fun ρ ω=>(fe ρ ω).bind fun x ω1=>(RS.ME ω1 (Q6 ω1 x)).bind fun ps ω1=>if ps.length<1000000 then .ok (.rf ω1.length) (ω1++[.dd (Vt [] ps)]) else .bad
section
variable {B O O':bu} {K:Lc} {E:XK} {H H' H1 H2:Hp} {α α' α1 α2:List Lp} {ω ω' ω1 ω2:aX} {σ:L2.St} {ρ:aQ} {v:V}
theorem l8:∀{vs:List V} {ds:List D} {ps:List (D×D)},L3.Nc O K H vs ds->aw Qe ds=lD ps->∃Mj,Uc K H vs Mj/\PrD O K H Mj ps/\vs.length=ps.length
 |_,_,_,.nil,e=>by cases e;exact⟨[],.nil,.nil,rfl⟩
 |_,_,ps,.cons (d:=d) (ds:=ds) hd ht,e=>by
  unfold aw at e;cases q:Qe d with
  |none=>rw[q] at e;cases e
  |some p=>
   rw[q] at e;dsimp only at e;cases q2:aw Qe ds with
   |none=>rw[q2] at e;cases e
   |some ps'=>
    rw[q2] at e;cases e;obtain⟨Mj,k1,k2,k3⟩:=l8 ht q2;unfold Qe at q;split at q
    ·rename_i k v
     split at q
     ·rename_i hk
      cases q;cases hd with
      | @tup a us _ sq hs=>
       cases hs with
       | @cons uk _ _ _ dk hs=>
        cases hs with
        | @cons uv _ _ _ dv hs=>
         cases hs;cases k with
         |tuple l=>
          cases dk with
          | @tup b bs _ sb hb=>exact⟨(⟨.tuple l,hk⟩,b,uv)::Mj,.cons sq.1 (.tup sb.1 (Nc.plain hb)) k1,.cons ⟨rfl,.tup sb hb,dv⟩ k2,by rw[Lu,Lu,k3]⟩
         |_=>simp[keyD] at hk
     ·cases q
    ·cases q
theorem BM:∀{Mj:List (KD×Lp×V)} {ps:List (D×D)} {xs:List (KD×Lp×V)} {m:List (D×D)},PrD O K H Mj ps->PrD O K H xs m->PrD O K H (Ij xs Mj) (Vt m ps)
 |_,_,_,_,.nil,h=>h
 |_,_,_,_,.cons (a:=p) (b:=q) hd t,h=>by
  obtain⟨h1,h2,h3⟩:=hd;have XT:L3.DV O K H (.ref p.2.1) p.1.1:=by rw[h1];exact h2
  have:=tW XT h3 h;rw[h1] at this;have z:=BM t this;exact z
theorem Tj {te:TE} {fe:c7} (he:d5 K E te fe):d5 K E (E9 (xA K) (gI te nV)) (UT fe):=by
 intro B σ H α ω ρ Q s sl w;refine he B σ H α ω ρ _ s sl (w.bind.imp fun x α1 ω1 H1 e1 s1 w1 u hu=> ?_);obtain⟨ps,q,w2⟩:=WS.ME w1;by_cases hn:ps.length<1000000
 case neg=>rw[if_neg hn] at w2;exact w2.elim
 rw[if_pos hn] at w2;cases x with
 |fz d=>cases q
 |tp l=>cases q
 |rf i=>
  obtain⟨a,ha,rfl⟩:=hu;unfold Q6 at q;dsimp only at q;cases z:ω1[i]? with
  |none=>rw[z] at q;cases q
  |some c=>
   rw[z] at q;cases c with
   |lst xs=>
    dsimp only at q;obtain⟨vs,h1,h2⟩:=s1.RL i a _ ha z;cases q2:aw DQ xs with
    |none=>rw[q2] at q;cases q
    |some ds=>rw[q2] at q;obtain⟨Mj,k1,k2,k3⟩:=l8 (wP h2 q2) q;exact⟨a,vs,Mj,rfl,Ql.of h1,k1,by omega,fun d hd=>tt s1 hd w2 fun e=>⟨_,aB,BM (vg e.ev k2) .nil⟩⟩
   |_=>cases q
end
end LD
namespace LD
open PySem PyProof.Rows L2 L3 L10
noncomputable def oB (a:Lp) (vs:List V):HO:= .ext fun h=>vs.length<=LL/\∃(us:List Lf) (n:Nat),Vals vs us/\h.get? a=lD {cls:= .type "list",data:= .seq us.toArray n}
theorem IQ {P:LR} {w:Mg} {H H':Hp} {h:Heap} {a:Lp} {vs:List V} (o:MY P w H' h a (.lst vs)):MY P w H h a (oB a vs):=by obtain⟨z,us,n,r,g⟩:=o;refine⟨⟨z,us,n,r,g⟩,⟨_,g⟩,?_⟩;rintro g1 g2 ⟨z,us,n,r,g⟩ k;exact⟨z,us,n,r,k _ g⟩
theorem HP {P:LR} {w:Mg} {H H':Hp} {h:Heap} {a:Lp} {vs:List V} (o:MY P w H h a (oB a vs)):MY P w H' h a (.lst vs):=o.1
noncomputable def Kv (a:Lp) (vs:List V):It:=
 ⟨fun i H=>H a=lD (oB a vs)/\i<vs.length,fun i H x H'=>H'=H/\vs[i]? =lD x,fun i H=>H a=lD (oB a vs)/\vs.length<=i⟩
theorem Di {P:LR} {w:Mg} {K:Lc} {tg:Mv} (a it:Lp) (vs:List V):Turn P w K tg (Kv a vs) [it] it (fun i h=>h.IsListIter it a i) where
 mem:=by simp
 obj:=fun i h st b hb=>by
  have e:b=it:=by simpa using hb
  subst e;obtain⟨o,e,c,d⟩:=st;exact⟨o,e,fun v z=>by rw[d] at z;cases z⟩
 keep:=fun i h h' st k=>st.at fun o e=>k it (by simp) o e
 item:=by intro X hP hw hK hc i pins s σ H E I hf st hg;subst hP hw hK;obtain⟨hd,hi⟩:=hg;obtain⟨⟨z,us,n,r,g⟩,_,_⟩:=(show MY X.prog X.w H s.heap a (oB a vs) from I.NO a _ hd);obtain⟨x,hx⟩:∃x,vs[i]? =lD x:=⟨vs[i],LB hi⟩;obtain⟨u,hu,ru⟩:=r.get hx;obtain⟨f0,f1,f2,f3,f4,f5⟩:=hf it (by simp);refine Uq st ⟨_,g,rfl,n,rfl⟩ (by simpa using hu) fun h' Sf sb=> ?_;have I1:Inv X pins σ H {s with heap:=h'}:=I.turned (t':=s.toks) (fun b o hb e=>(sb.2 b hb).trans e) f0 f1 f3 f4 f5;obtain⟨o,e,c,d⟩:=id Sf;exact⟨u,rfl,sQ (s:={s with heap:=h'}) e c d (by decide) ⟨x,H,I1,ru,⟨rfl,hx⟩,Sf,fun b hb=>(hf b hb).1⟩⟩
 done:=by intro X hP hw hK hc i pins s σ H E I hf st hg;subst hP hw hK;obtain⟨hd,hi⟩:=hg;obtain⟨⟨z,us,n,r,g⟩,_,_⟩:=(show MY X.prog X.w H s.heap a (oB a vs) from I.NO a _ hd);obtain⟨f0,f1,f2,f3,f4,f5⟩:=hf it (by simp);have hl:=r.length;exact Vh (I.ok.hd hc) st ⟨_,g,rfl,n,rfl⟩ (by simp;omega) fun h' eb=>⟨rfl,I.turned (t':=s.toks) (fun b o hb e=>eb b o hb e) f0 f1 f3 f4 f5⟩
 self:=fun _ _ _ _ _ st h=>Vi st h
def A1 (tl:TE):TI:=fun σ H R=>tl σ H fun x H1=>∃a vs,x= .ref a/\H1 a=lD (.lst vs)/\R (Kv a vs) (upd H1 a (oB a vs))
def Fe (t:TE):TE:=fun σ H Q=>t σ H fun x H1=>∃a vs,H1 a=lD (oB a vs)/\Q x (upd H1 a (.lst vs))
def E3 (t:TS):TS:=fun D σ H=>t {nx:=fun σ' H'=>∃a vs,H' a=lD (oB a vs)/\D.nx σ' (upd H' a (.lst vs)),rt:=fun v H'=>∃a vs,H' a=lD (oB a vs)/\D.rt v (upd H' a (.lst vs)),bk:=fun _ _=>False,ct:=fun _ _=>False} σ H
section
variable {X:Cx} {tg:Mv}
theorem mq {pins:List (Lp×Obj)} {σ:L2.St} {H:Hp} {s:Lm} {a:Lp} {vs:List V} (I:Inv X pins σ H s) (hd:H a=lD (oB a vs)):Inv X pins σ (upd H a (.lst vs)) s:=by have o:=(show MY X.prog X.w H s.heap a (oB a vs) from I.NO a _ hd);obtain⟨⟨z,us,n,r,g⟩,_,_⟩:=id o;exact I.write (x:=a) (e:=a) (o:= .lst vs) (t':=s.toks) (h':=s.heap) (by rw[hd];trivial) (.inl rfl) (fun b u _ e=>e) ⟨_,g⟩ (HP o)
theorem Th {l:Mv} {tl:TE} (hl:PE X l tl):PI X tg l (A1 tl):=by
 intro pins s σ H R I h;refine ce (hl pins s σ H _ I h) fun v s1 ⟨x,H1,I1,r1,q1⟩=> ?_;obtain⟨a,vs,e,hd,q⟩:=q1;subst e;cases r1;have od:MY X.prog X.w H1 s1.heap a (.lst vs):=I1.NO a _ hd;obtain⟨z,us,n,r,g⟩:=id od;refine Pl ⟨_,g,rfl,n,rfl⟩ ?_;have k:∀b o,s1.heap.get? b=lD o->(s1.heap.push {cls:= .type "list_iterator",data:= .fields #[.ref a,.int 0 0]}).get? b=lD o:=fun b o e=>Heap.get?_push_of_some _ e;have I2:=I1.kept (t':=s1.toks) k;have I3:=I2.write (x:=a) (e:=a) (o:=oB a vs) (t':=s1.toks) (h':=s1.heap.push {cls:= .type "list_iterator",data:= .fields #[.ref a,.int 0 0]}) (by rw[hd];trivial) (.inl rfl) (fun b u _ e=>e) ⟨_,k _ _ g⟩ (IQ (show MY X.prog X.w H1 _ a (.lst vs) from I2.NO a _ hd));refine⟨s1.heap.objs.size,[s1.heap.objs.size],_,_,_,rfl,I3,Di a _ vs,⟨_,Heap.get?_push_size _ rfl,rfl,rfl⟩,fun b hb=> ?_,q⟩;have e:b=s1.heap.objs.size:=by simpa using hb
 subst e;have hn:=I1.NO.fresh (Ll s1.heap.objs.size);refine I1.TQ (Ll _) ?_;rw[az (fun z=>by rw[z,hd] at hn;cases hn)];exact hn
theorem V1 {l:Mv} {tl:TE} (hl:PE X l tl):PE X l (Fe tl):=by intro pins s σ H Q I h;exact ce (hl pins s σ H _ I h) fun v s1 ⟨x,H1,I1,r1,a,vs,hd,q⟩=>⟨x,_,mq I1 hd,r1,q⟩
theorem VS {st:NZ} {t:TS} (h:PS X st t):PS X st (E3 t):=by
 intro pins s σ H D I w;refine ce (h pins s σ H _ I w) fun f s1 q=> ?_;cases f with
 |next=>obtain⟨σ',H',I',a,vs,hd,q⟩:=q;exact⟨σ',_,mq I' hd,q⟩
 |brk=>obtain⟨_,_,_,q⟩:=q;exact q.elim
 |cont=>obtain⟨_,_,_,q⟩:=q;exact q.elim
 |ret u=>obtain⟨v,σ',H',I',r,a,vs,hd,q⟩:=q;exact⟨v,σ',_,mq I' hd,r,q⟩
end
noncomputable def TX (ω:aX):SV->Option (Nat×List SV)
 | .rf i=>match ω[i]? with
  |some (.lst xs)=>lD (i,xs)
  |_=>Ld
 |_=>Ld
section
variable {B O O':bu} {K:Lc} {E:XK} {H H' H1 H2:Hp} {α α' α1 α2:List Lp} {ω ω' ω1 ω2:aX} {σ:L2.St} {ρ:aQ} {v:V} {a:Lp} {φ:Heap->Prop}
theorem xa {x:SV} {i:Nat} {xs:List SV} (s:StoOk B K H α ω) (hv:OT (ow B α ω) K H α v x) (h:TX ω x=lD (i,xs)):ω[i]? =lD (.lst xs)/\∃a vs,α[i]? =lD a/\v= .ref a/\H a=lD (.lst vs)/\N6 (ow B α ω) K H α vs xs:=by
 cases x with
 |fz d=>cases h
 |tp l=>cases h
 |rf j=>
  obtain⟨a,ha,rfl⟩:=hv;unfold TX at h;dsimp only at h;cases q:ω[j]? with
  |none=>rw[q] at h;cases h
  |some c=>
   rw[q] at h;cases c with
   |lst ys=>have z:=LZ h;cases z;obtain⟨ws,h1,h2⟩:=s.RL i a _ ha q;exact⟨q,a,ws,ha,rfl,h1,h2⟩
   |_=>cases h
theorem wJ (s:StoOk B K H α ω) {i:Nat} {vs:List V} {xs:List SV} (ha:α[i]? =lD a) (hx:H a=lD (.ext φ)) (pr:N6 (ow B α ω) K H α vs xs):StoOk B K (upd H a (.lst vs)) α (ω.set i (.lst xs)):=by
 have e:C9 a (ow B α ω) H (ow B α (ω.set i (.lst xs))) (upd H a (.lst vs)):=wy s ha;refine⟨by rw[MW];exact s.len,s.nd,fun b h=>j3 (s.bn b h),s.ba,fun j b h=>j3 (s.al j b h),fun j b d h1 h2=> ?_⟩;rcases bj h2 with⟨rfl,rfl⟩|⟨OK,h2⟩
 ·rw[ha] at h1;cases h1;exact⟨vs,aB,Paired.Ph pr fun _ _ q=>OT.Q2 hx e q⟩
 ·exact(s.RL j b d h1 h2).Q2 hx e fun u q=>by rw[az (fun z=>OK (s.nd j i a (by rw[<-z];exact h1) ha))];exact q
theorem sT {i:Nat} {ws:List V} {xs ys:List SV} (ha:α1[i]? =lD a) (qi:ω1[i]? =lD (.lst xs)) (e3:Nq α1 ω1 H1 α1 (ω1.set i .dead) H2) (e:Nq α1 (ω1.set i .dead) H2 α' ω' H') (s':StoOk B K H' α' ω') (SG:α'[i]? =lD a):Nq α1 ω1 H1 α' (ω'.set i (.lst ys)) (upd H' a (.lst ws)):=by
 have lva:Lv α1 ω1 a:=⟨i,_,ha,qi,by intro z;cases z⟩;refine⟨e.pre,fun b o h nl=> ?_,fun b z=> ?_⟩
 ·have hb:b≠a:=fun z=>nl (by rw[z];exact lva);rw[az hb];exact e.kp b o (e3.kp b o h nl) fun z=>nl (lH z)
 ·rcases Ce s' SG z with rfl|z
  ·exact .inl lva
  ·rcases e.lv b z with z|z
   ·exact .inl (lH z)
   ·by_cases hb:b=a
    ·rw[hb];exact .inl lva
    ·cases q:H1 b with
     |none=>exact .inr rfl
     |some o=>refine .inl (Classical.byContradiction fun n=> ?_);rw[e3.kp b o q n] at z;cases z
theorem BD {i:Nat} {vs:List V} {xs:List SV} {ds:List D} (s1:StoOk B K H1 α1 ω1) (ha:α1[i]? =lD a) (qi:ω1[i]? =lD (.lst xs)) (g2:N6 (ow B α1 ω1) K H1 α1 vs (ds.map .fz)):
  StoOk B K (upd H1 a (oB a vs)) α1 (ω1.set i .dead)/\Nq α1 ω1 H1 α1 (ω1.set i .dead) (upd H1 a (oB a vs))/\pW K (Kv a vs) (ow B α1 (ω1.set i .dead)) (upd H1 a (oB a vs)) ds:=by
 have nd:(Cell.lst xs)≠ .dead:=by intro z;cases z
 have s3:StoOk B K (upd H1 a (oB a vs)) α1 (ω1.set i .dead):=s1.pin ha qi nd;have e3:Nq α1 ω1 H1 α1 (ω1.set i .dead) (upd H1 a (oB a vs)):=Nq.pin ha qi nd;have na:¬ow B α1 (ω1.set i .dead) a:=s1.Sg ha;have Tx:L3.Nc (ow B α1 (ω1.set i .dead)) K (upd H1 a (oB a vs)) vs ds:=rY (N6.OC e3 g2);refine⟨s3,e3,?_⟩;intro O' H' e nn;have h1:=(e a _ aB na).1;have U7:=Tx.ev e;have hl:vs.length=ds.length:=Tx.length;refine⟨fun j hj=>⟨⟨h1,by omega⟩,?_⟩,h1,by omega⟩;rintro y Ul ⟨rfl,hy⟩;obtain⟨d,q1,q2⟩:=U7.UD hy;exact⟨Nk.refl _,d,q1,q2⟩
noncomputable def Sd (n:Nat) (fj:List Nat) (fd:c7) (gt:om) (ft:og) (fe:c7):c7:=fun ρ ω=>(fd ρ ω).bind fun o ω1=>(RS.ME ω1 (TX ω1 o)).bind fun p ω1=>(RS.ME ω1 (aw nX p.2)).bind fun ds ω1=>(io (bM gt ft fe ds (fY n fj ρ) (ω1.set p.1 .dead) [])).bind fun xs ω2=> .ok (.rf ω2.length) (Te (ω2++[Cell.lst xs]) p.1 (Cell.lst p.2))
theorem TU {own:List Str} {fv:List (Str×Nat)} {td:TE} {g:TG} {tc:TT} {te:TE} {fd:c7} {gt:om} {ft:og} {fe:c7} {n:Nat} {fj:List Nat} (hn:own.length=n) (hf:fv.map (·.2)=fj)
  (hd:d5 K E td fd) (hg:B9 K E0 g gt) (ht:uP K E0 tc ft) (he:d5 K E0 te fe):d5 K E (Fe (oG own fv (A1 td) g tc te)) (Sd n fj fd gt ft fe):=by
 intro B σ H α ω ρ Q s sl w;refine hd B σ H α ω ρ _ s sl (w.bind.imp fun o α1 ω1 H1 e1 s1 w1 u hu=> ?_);obtain⟨⟨i,ys⟩,q2,w1⟩:=WS.ME w1;obtain⟨ds,qd,w1⟩:=WS.ME w1;obtain⟨qi,a,vs,ha,rfl,g1,g2⟩:=xa s1 hu q2;refine⟨a,vs,rfl,g1,?_⟩;have g3:N6 (ow B α1 ω1) K H1 α1 vs (ds.map .fz):=by rw[<-jV qd];exact g2
 obtain⟨s3,e3,it⟩:=BD s1 ha qi g3;have na:¬ow B α1 (ω1.set i .dead) a:=s1.Sg ha;refine yK (E:=E) (Q:=fun x H'=>∃a vs,H' a=lD (oB a vs)/\Q x (upd H' a (.lst vs))) hn hf hg ht he s3 ((sl.OC e1).OC e3) it ?_;dsimp only at w1;cases qr:bM gt ft fe ds (fY n fj ρ) (ω1.set i .dead) [] with
 |er x ωf=>rw[qr] at w1;exact w1.elim
 |bad=>rw[qr] at w1;exact w1.elim
 |ok xs ωf=>rw[qr] at w1;have w1:WS K E B H1 α1 ω1 (PQ B K Q) (.ok (.rf ωf.length) (Te (ωf++[Cell.lst xs]) i (Cell.lst ys))):=w1;intro α' H' e s' v hv;have Wi:=e.kp a _ aB fun z=>na (.inr z);have SG:=e.pre i a ha;refine⟨a,vs,Wi,w1 α' (upd H' a (.lst vs)) (sT ha qi e3 e s' SG) (wJ s' SG Wi ((N6.OC e3 g2).OC e)) v hv⟩
theorem Co {g:TG} {gt:om} {tb:TS} {b:gM} {J:It} {ds:List D} {D:Ends} (hg:B9 K E g gt) (hb:nG K E tb b) (s1:StoOk B K H1 α1 ω1) (V6:N5 (ow B α1 ω1) K H1 α1 σ ρ) (it:pW K J (ow B α1 ω1) H1 ds) (w1:WS K E B H1 α1 ω1 (jt B K D) (fW gt b ds ρ ω1)):Bm (fun σ H R=>R J H) g tb D σ H1:=by
 refine⟨fun i m σ' H'=>m=ds.length - i/\i<=ds.length/\∃α2 ω2 ρ2,Nq α1 ω1 H1 α2 ω2 H'/\StoOk B K H' α2 ω2/\N5 (ow B α2 ω2) K H' α2 σ' ρ2/\WS K E B H' α2 ω2 (jt B K D) (fW gt b (ds.drop i) ρ2 ω2),⟨_,rfl,Mr _,α1,ω1,ρ,.refl,s1,V6,w1⟩,?_⟩;rintro i m σ2 H2 ⟨rfl,hi,α2,ω2,ρ2,e2,s2,Sn,w2⟩;obtain⟨go,stop⟩:=it (ow B α2 ω2) H2 e2.ev s2.SQ;by_cases Pm:i<ds.length
 ·obtain⟨g1,g2⟩:=go i Pm
  refine .inr ⟨g1,fun σ' H'=>i+1<=ds.length/\∃α2 ω2 ρ2,Nq α1 ω1 H1 α2 ω2 H'/\StoOk B K H' α2 ω2/\N5 (ow B α2 ω2) K H' α2 σ' ρ2/\WS K E B H' α2 ω2 (jt B K D) (fW gt b (ds.drop (i+1)) ρ2 ω2),fun σ' H' ⟨h1,h2⟩=>⟨ds.length - (i+1),by omega,rfl,h1,h2⟩,fun x H3 y=> ?_⟩;obtain⟨s3,d,hd,dv⟩:=g2 x H3 y;have ed:ds.drop i=d::ds.drop (i+1):=by obtain⟨_,q⟩:=Lj.mp hd;rw[MO Pm,q]
  rw[ed] at w2;have e3:Nq α2 ω2 H2 α2 ω2 H3:=Nq.same s3;refine hg B σ2 H3 α2 ω2 ρ2 x (.fz d) _ (s2.grow s3) (Sn.OC e3) dv (WS.imp (WS.bind (WS.from e3 w2)) fun ρ3 α4 ω4 H4 e4 s4 w3 σ4 Xt=> ?_);refine hb B σ4 H4 α4 ω4 ρ3 _ s4 Xt (WS.imp (WS.bind w3) fun fl α5 ω5 H5 e5 s5 w4=> ?_);have Wc:Nq α1 ω1 H1 α5 ω5 H5:=e2.trans (e3.trans (e4.trans e5));cases fl with
  |nx ρ5=>exact fun σ5 S5=>⟨Pm,α5,ω5,ρ5,Wc,s5,S5,w4⟩
  |ct ρ5=>exact fun σ5 S5=>⟨Pm,α5,ω5,ρ5,Wc,s5,S5,w4⟩
  |bk ρ5=>exact WS.now (E:=E) s5 w4
  |rt x=>exact WS.now (E:=E) s5 w4
 ·have e:i=ds.length:=by omega
  subst e;rw[Nb (Ll _)] at w2;exact .inl ⟨stop,WS.now (E:=E) s2 w2 σ2 Sn⟩
noncomputable def Tw (fd:c7) (gt:om) (b:gM):gM:=fun ρ ω=>(fd ρ ω).bind fun o ω1=>(RS.ME ω1 (TX ω1 o)).bind fun p ω1=>(RS.ME ω1 (aw nX p.2)).bind fun ds ω1=>(fW gt b ds ρ (ω1.set p.1 .dead)).bind fun fl ω2=>match fl with
 | .nx ρ2=> .ok (.nx ρ2) (ω2.set p.1 (.lst p.2))
 | .rt x=> .ok (.rt x) (ω2.set p.1 (.lst p.2))
 |_=> .bad
theorem Ve {td:TE} {g:TG} {tb:TS} {fd:c7} {gt:om} {b:gM} (hd:d5 K E td fd) (hg:B9 K E g gt) (hb:nG K E tb b):nG K E (E3 (Bm (A1 td) g tb)) (Tw fd gt b):=by
 intro B σ H α ω ρ D s sl w;refine hd B σ H α ω ρ _ s sl (WS.imp (WS.bind w) fun o α1 ω1 H1 e1 s1 w1 u hu=> ?_);obtain⟨⟨i,ys⟩,q2,w1⟩:=WS.ME w1;obtain⟨ds,qd,w1⟩:=WS.ME w1;obtain⟨qi,a,vs,ha,rfl,g1,g2⟩:=xa s1 hu q2;refine⟨a,vs,rfl,g1,?_⟩;have g3:N6 (ow B α1 ω1) K H1 α1 vs (ds.map .fz):=by rw[<-jV qd];exact g2
 obtain⟨s3,e3,it⟩:=BD s1 ha qi g3;have na:¬ow B α1 (ω1.set i .dead) a:=s1.Sg ha;refine Co hg hb s3 ((sl.OC e1).OC e3) it ?_;dsimp only at w1;cases qr:fW gt b ds ρ (ω1.set i .dead) with
 |bad=>rw[qr] at w1;exact w1.elim
 |er x ωf=>rw[qr] at w1;exact fun c dx α' H' e s' x'=>w1 c dx α' H' (e3.trans e) s' x'
 |ok fl ωf=>
  rw[qr] at w1;intro α' H' e s';have Wi:=e.kp a _ aB fun z=>na (.inr z);have SG:=e.pre i a ha;have bk:=sT (ws:=vs) (ys:=ys) ha qi e3 e s' SG;have rv:=wJ s' SG Wi ((N6.OC e3 g2).OC e);have ex:C9 a (ow B α' ωf) H' (ow B α' (ωf.set i (.lst ys))) (upd H' a (.lst vs)):=wy s' SG;cases fl with
  |nx ρ2=>have w1:WS K E B H1 α1 ω1 (jt B K D) (.ok (.nx ρ2) (ωf.set i (.lst ys))):=w1;exact fun σ' XQ=>⟨a,vs,Wi,w1 α' _ bk rv σ' ⟨XQ.1,fun j x h=>let⟨v,h1,h2⟩:=XQ.2 j x h;⟨v,h1,OT.Q2 Wi ex h2⟩⟩⟩
  |rt x=>have w1:WS K E B H1 α1 ω1 (jt B K D) (.ok (.rt x) (ωf.set i (.lst ys))):=w1;exact fun v hv=>⟨a,vs,Wi,w1 α' _ bk rv v (OT.Q2 Wi ex hv)⟩
  |bk ρ2=>exact w1.elim
  |ct ρ2=>exact w1.elim
end
end LD
local macro_rules| `(tactic|walk_at "px")=> `(tactic|simp only[L3.d7,L3.aA,L3.jo,L3.aR,L3.cE,L3.abU,L3.cH,L3.bU,L3.dW,L3.aaR,L3.abG,L3.ZK,L3.aaT,L3.aav,L3.Zk,L3.Zn,L3.aG,L3.Io,L3.uN,L3.zW,L3.zu,L3.pC,L3.gJ,L3.cn,L3.bW,L3.eG,L3.aN,L3.zH,L3.pOr,L3.Cy,L3.pIf,L3.pD,L3.dB,L3.eI,
 L3.sI,L3.BO,L3.mB,L3.eE,L3.aq,L3.aa,L3.gK,L3.gX,L3.abf,L3.abK,L3.ab0,L3.abR,L3.gT,L3.zg,L3.nU,L3.gIx,L3.fE,L3.adG,L3.iB,L3.Xx,L3.WK,L3.ou,L3.Cf,
 L3.aaF,L3.ZS,L3.aa0,L3.ZX,L3.aaq,L3.aax,L3.ZL,L3.aam,L3.ZW,L3.aaJ,L3.Yx,L3.Y8,L3.YS,L3.Yq,L3.Y1,L3.Zp,L3.Xm,L3.Xl,L3.Xo,L3.su,L3.vW,L3.YV,L3.Xw,L3.Xu,L3.kI,L3.ub,L3.abn,L3.abA,L3.Res.bind_ok,L3.aH,L3.cP,L3.Yf,L3.X0,L3.WM,L3.kW,L3.WA,
 L3.Vd,L3.nj,L3.kr,L3.zj,L3.negD,L3.Bl,L3.XU,L3.Bw,L3.EU,L3.qC,L3.A0,L3.jd,L3.VY,L3.UX,L3.Vc,
 Lo,LY,List.cons_append,Oh,L6,Mz,List.replicate_zero,Lu,OO,PK,PL,QH,Uj,Nat.reduceSub,Nat.reduceAdd,Nat.reduceLeDiff,Nat.reduceLT,OY,QZ,Mr,reduceIte,Q5,Option.map_none,MZ,Qm,Lr,if_true,if_false,ite_true,ite_false])
local macro_rules| `(tactic|walk_at "nm")=> `(tactic|first|((simp only[QH,Uj]);rfl)|rfl)
local macro_rules| `(tactic|walk_at "evf")=> `(tactic|first|with_reducible assumption|with_reducible exact L3.qC _ _|with_reducible exact L3.A0 _ _|with_reducible exact L3.Bl _ _|with_reducible exact L3.XU _ _|with_reducible exact L3.Bw _ _|with_reducible exact L3.EU _ _|with_reducible exact L3.aad _ _|with_reducible exact L3.aap _ _|with_reducible exact L3.jd _ _|with_reducible exact L3.VY _ _|with_reducible exact L3.UX _ _|with_reducible exact L3.Vc _ _|with_reducible exact L3.Y4 _ _|with_reducible exact L3.Y2 _ _|with_reducible exact L3.Y9 _ _|with_reducible exact L3.Zo _ _|with_reducible exact L3.YX _ _|with_reducible exact L3.YE _ _|with_reducible exact L3.Zs _ _|with_reducible exact L3.X3 _ _|with_reducible exact L3.Yd _ _|with_reducible exact L3.Zu _ _|with_reducible exact L3.aaA _ _|with_reducible exact L3.acz|with_reducible exact L3.aeb|with_reducible exact L3.ad8|with_reducible exact L3.GQ|with_reducible exact L3.acT|with_reducible exact L3.z9|with_reducible exact L3.Vd _|with_reducible exact L3.nj _|(with_reducible rfl))
local macro_rules| `(tactic|walk_at "ev")=> `(tactic|first
 |with_reducible exact L3.cR
 |((with_reducible apply L3.af);rfl)
 |((with_reducible apply L3.dA);rfl)
 |with_reducible exact L3.ay
 |with_reducible exact L3.b5
 |((with_reducible apply L3.aZ);(·walk_at "ev");(·walk_at "ev");(·rfl);(·rfl);(·walk_at "evf"))
 |((with_reducible apply L3.E4);(·walk_at "ev");(·rfl);(·rfl))
 |((with_reducible apply L3.am);(·walk_at "ev");(·walk_at "ev"))
 |((with_reducible apply L3.bp);(·walk_at "ev");(·rfl))
 |((with_reducible apply L3.b7);(·walk_at "ev");(·rfl);(·first|walk_at "evf"|rfl))
 |((with_reducible apply L3.c9);(·walk_at "ev");(·rfl);(·rfl);(·with_reducible assumption))
 |((with_reducible apply L3.cz);(·walk_at "ev");(·rfl);(·exact LV rfl))
 |((with_reducible apply L3.Av);(·walk_at "ev");(·rfl);(·exact LV rfl))
 |((with_reducible apply L3.mI);(·walk_at "ev");(·rfl);(·rfl))
 |((with_reducible apply L3.cf);(·walk_at "ev");(·rfl))
 |((with_reducible apply L3.gF);(·walk_at "ev");(·walk_at "ev");(·walk_at "ev");(·rfl);(·first|with_reducible assumption|rfl))
 |((with_reducible apply L3.gb);(·walk_at "ev"))
 |((with_reducible apply L3.qX);(·walk_at "ev");(·intro _;walk_at "ev"))
 |((with_reducible apply L3.mG);(·walk_at "ev");(·intro _;walk_at "ev"))
 |((with_reducible apply L3.DM);(·walk_at "ev"))
 |((with_reducible apply L3.wU);(·walk_at "ev");(·intro _;walk_at "ev"))
 |((with_reducible apply L3.WI);(·walk_at "ev");(·intro _;walk_at "ev"))
 |((with_reducible apply L3.jX);(·walk_at "ev");(·rfl);(·first|with_reducible assumption|rfl))
 |((with_reducible apply L3.cM);(·walk_at "ev");(·rfl);(·rfl))
 |((with_reducible apply L3.Ye);(·walk_at "ev");(·rfl);(·rfl))
 |((with_reducible apply L3.eV);(·rfl);(·walk_at "ev");(·rfl);(·rfl);(·first|with_reducible assumption|(simp only[OO,Lu,L3.ff] at*;omega));(·walk_at "nm"))
 |((with_reducible apply L3.aaz);(·rfl);(·walk_at "ev");(·rfl);(·rfl);(·with_reducible assumption);(·with_reducible assumption);(·with_reducible assumption);(·walk_at "nm"))
 |((with_reducible apply L3.qL);(·walk_at "ev");(·rfl);(·walk_at "nm"))
 |((with_reducible apply L3.qj);(·walk_at "ev"))
 |((with_reducible apply L3.vx);(·walk_at "ev");(·rfl)))
local macro_rules| `(tactic|walk_at "evb")=> `(tactic|first
 |((with_reducible apply L3.dN);(·walk_at "ev");(·walk_at "ev");(·rfl);(·rfl);(·walk_at "evf"))
 |((with_reducible apply L3.gW);(·walk_at "ev");(·rfl);(·rfl);(·with_reducible assumption))
 |((with_reducible apply L3.AE);(·walk_at "ev");(·rfl);(·first|walk_at "evf"|rfl))
 |walk_at "ev")
local macro_rules| `(tactic|walk_at "ev")=> `(tactic|first
 |with_reducible assumption
 |((with_reducible apply L3.wU);(·walk_at "ev");(·intro _;walk_at "evb"))
 |((with_reducible apply L3.WI);(·walk_at "ev");(·intro _;walk_at "evb"))
 |((with_reducible apply L3.Yk);(·walk_at "ev");(·walk_at "ev");(·walk_at "ev");(·rfl);(·rfl);(·rfl);(·walk_at "evf");(·intro _;walk_at "evf"))
 |((with_reducible apply L3.Zg);(·walk_at "ev");(·rfl);(·rfl);(·rfl)))
local macro_rules| `(tactic|walk_at "go")=> `(tactic|first
 |((with_reducible apply L3.aY);(·walk_at "ev");(·rfl);(·walk_at "nm");try walk_at "go")
 |((with_reducible apply L3.qV);(·walk_at "ev");try walk_at "go")
 |((with_reducible apply L3.Bj);try walk_at "go")
 |((with_reducible apply L3.cU);try walk_at "go")
 |((with_reducible apply L3.nv);(·walk_at "ev");(·rfl))
 |((with_reducible apply L3.jr);(·walk_at "ev"))
 |((with_reducible apply L3.Bo);(·walk_at "ev");(·rfl);(·walk_at "nm"))
 |((with_reducible apply L3.dD);(·walk_at "ev"))
 |((with_reducible apply L3.ci);(·walk_at "ev");(·rfl))
 |((with_reducible apply L3.iZ);(·walk_at "ev"))
 |(with_reducible apply L3.ei))
local macro_rules| `(tactic|walk_at "evp")=> `(tactic|((apply Eq.trans);(·walk_at "ev");(·rfl)))
local macro_rules| `(tactic|walk_at "sv")=> `(tactic|first
 |with_reducible assumption
 |((with_reducible apply L10.bG);rfl)
 |with_reducible exact L10.eU
 |((with_reducible apply L10.cu);(·walk_at "sv");(·walk_at "sv"))
 |((with_reducible apply L10.bf);walk_at "ev")
 |((with_reducible apply L10.sJ);walk_at "ev")
 |((with_reducible apply L10.Y0);(·walk_at "sv");(·walk_at "sv");(·walk_at "evf"))
 |((with_reducible apply L10.tU);(·walk_at "sv");(·walk_at "sv");(·(with_reducible apply L10.Ag);walk_at "evf"))
 |((with_reducible apply L10.d8);walk_at "sv")
 |((with_reducible apply L10.qu);walk_at "sv"))
namespace K63
open PySem L2 L3
noncomputable def iA:FS:=(cE (aG eO (aG bI (pD JQ (ae 0) (dB (ae 1)) (dB (aG bI (ae 1) (pC (.int 1))))) (eG (aa (pC (.int 0)) aq))) (pC (.int 0))))
noncomputable def bT:FN:=d7 2 iA
noncomputable def dH:FS:=(aA (aR (aG bI (aG bq (ae 0) (pC (.int 1000000007))) (aG eS (pC (.int 13)) (ae 1))) (gN 2))
 (aA (aR (aG bq (aG bI (aG bI (aG eS (ae 2) (aG bI (aG bI (ae 2) (aG eS (ae 1) (ae 1))) (pC (.int 11)))) (aG eS (pC (.int 40487)) (ae 1))) (pC (.int 7))) (pC (.int 1000000033))) (gN 2))
 (cE (aG cm (aG bq (aG bI (aG eS (ae 2) (aG bI (aG cm (ae 2) (pC (.int 7))) (pC (.int 31)))) (pC (.int 90001))) (pC (.int 999999937))) (pC (.int 3))))))
noncomputable def bA:FN:=d7 3 dH
noncomputable def d9:FS:=(aA (aR (eG aq) (gN 2))
 (aA (aR (gJ oX (aa (ae 0) (aa (aG nW (pC (.int 0)) (ae 0)) aq))) (gN 3))
 (aA (dW (gK dZ (aa (ae 1) aq)) (gN 4) (aA (aR (pC (.int 0)) (gN 5))
 (aA (dW (gK dZ (aa (pC (.int 3)) aq)) (gN 6) (aR (aG bI (aG eS (ae 5) (aG lw (pC (.int 10)) (pC (.int 8)))) (aG bq (cn bA 2 (aa (ae 0) (aa (aG bI (aG eS (pC (.int 3)) (ae 4)) (ae 6)) aq))) (aG lw (pC (.int 10)) (pC (.int 8))))) (gN 5)))
 (aA (jo (sI (aN (aG GG (ae 3) (pC (.int 0)))) (BO (aN (aG Iu (ae 0) (pC (.int 0)))) (aN (aG IK (ae 0) (aG lw (pC (.int 10)) (pC (.int 18))))))) (aA (aR (aG bq (ae 3) (aG lw (pC (.int 10)) (pC (.int 24)))) (gN 5))
 (aR (aG cm (ae 3) (aG lw (pC (.int 10)) (pC (.int 24)))) (gN 3))) bU)
 (cH (fE 2 (ae 5)))))))
 (cE (ae 2)))))
noncomputable def ej:FN:=d7 7 d9
noncomputable def dJ:FS:=(aA (aR (pC (.str "")) (gN 1))
 (aA (aR (aG bI (pC (.int 1)) (aG bq (ae 0) (pC (.int 8)))) (gN 2))
 (aA (aR (aG cm (ae 0) (pC (.int 8))) (gN 0))
 (aA (dW (gK dZ (aa (ae 2) aq)) (gN 3) (aA (aR (aG yE (ae 1) (aG Iq (pC (.str "abcdefghijklmnopqrstuvwxyz")) (aG bq (ae 0) (pC (.int 26))))) (gN 1))
 (aR (aG cm (ae 0) (pC (.int 26))) (gN 0))))
 (cE (ae 1))))))
noncomputable def dM:FN:=d7 4 dJ
noncomputable def cg:FS:=(aA (aR (aG bI (pC (.int 1)) (ae 0)) (gN 1))
 (aA (aR (eG aq) (gN 2))
 (aA (dW (gK dZ (aa (pC (.int 12)) aq)) (gN 3) (aA (jo (aN (aG lA (aG bq (ae 1) (pC (.int 2))) (pC (.int 1)))) (cH (fE 2 (ae 3))) bU)
 (aR (aG cm (ae 1) (pC (.int 2))) (gN 1))))
 (cE (gJ kr (aa (ae 2) aq))))))
noncomputable def cV:FN:=d7 4 cg
noncomputable def cS:FS:=(aA (aR (eG aq) (gN 1))
 (aA (dW (gK dZ (aa (aG bI (pC (.int 1)) (aG bq (aG eO (ae 0) (pC (.int 0))) (pC (.int 20)))) aq)) (gN 2) (aA (aR (cn dM 1 (aa (aG eO (ae 0) (aG bI (pC (.int 1)) (aG eS (pC (.int 2)) (ae 2)))) aq)) (gN 3))
 (aA (aR (eG aq) (gN 4))
 (aA (aR (aG cm (aG eO (ae 0) (aG bI (pC (.int 2)) (aG eS (pC (.int 2)) (ae 2)))) (pC (.int 6))) (gN 5))
 (aA (dW (gK dZ (aa (aG bI (pC (.int 1)) (aG bq (aG eO (ae 0) (aG bI (pC (.int 2)) (aG eS (pC (.int 2)) (ae 2)))) (pC (.int 6)))) aq)) (gN 6) (aA (cH (fE 4 (cn cV 1 (aa (aG bq (ae 5) (pC (.int 4095))) aq))))
 (aR (aG cm (ae 5) (pC (.int 4095))) (gN 5))))
 (jo (aN (aG EC (ae 3) (iB 2 [] (B5 1) (gT 2 (nU (gN 0) (nU (gN 1) zg))) eE (ae 0)))) (cH (fE 1 (bW (aa (ae 3) (aa (gJ kr (aa (ae 4) aq)) aq))))) bU))))))
 (cE (gJ kr (aa (ae 1) aq)))))
noncomputable def cW:FN:=d7 7 cS
noncomputable def eK:FS:=(aA (jo (BO (aN (aG Iu (ae 0) (pC (.int 0)))) (aN (aG IK (ae 0) (aG lw (pC (.int 10)) (pC (.int 18)))))) (cE (gJ oX (aa (ae 0) (aa (aG nW (pC (.int 0)) (ae 0)) aq)))) bU)
 (cE (cn bA 2 (aa (cn bA 2 (aa (ae 0) (aa (ae 1) aq))) (aa (pC (.int 3)) aq)))))
noncomputable def bS:FN:=d7 2 eK
noncomputable def e9:FS:=(aA (aR (pC (.str "abcdefghijklmnopqrstuvwxyz")) (gN 2))
 (aA (aR (aG Iq (ae 2) (aG bq (aG cm (ae 0) (pC (.int 3))) (pC (.int 26)))) (gN 3))
 (aA (jo (sI (aN (aG lA (aG bq (ae 0) (pC (.int 3))) (pC (.int 0)))) (aN (aG Iu (ae 1) (pC (.int 9))))) (cE (iB 1 [3] (gK dZ (aa (ae 1) aq)) (gN 0) eE (aG L9.uD (ae 1) (aG bI (ae 0) (pC (.int 1)))))) bU)
 (aA (aR (aG bq (aG cm (ae 0) (pC (.int 78))) (pC (.int 8))) (gN 4))
 (aA (aR (aG bq (aG cm (ae 0) (pC (.int 624))) (aG bI (ae 4) (pC (.int 1)))) (gN 5))
 (aA (aR (eG aq) (gN 6))
 (aA (dW (gK dZ (aa (ae 1) aq)) (gN 7) (aA (aR (aG Iq (ae 2) (aG bq (aG bI (aG eS (ae 7) (pC (.int 7))) (aG cm (ae 0) (pC (.int 5616)))) (pC (.int 26)))) (gN 8))
 (cH (fE 6 (aG yE (aG yE (aG L9.uD (ae 3) (ae 5)) (ae 8)) (aG L9.uD (ae 3) (aG nW (ae 4) (ae 5))))))))
 (cE (ae 6)))))))))
noncomputable def dS:FN:=d7 9 e9
noncomputable def eu:FS:=(aA (aR (eG (aa (bW (aa (pC (.int 0)) aq)) (aa (bW (aa (pC (.int 1)) aq)) (aa (bW (aa (pC (.int 0)) (aa (pC (.int 1)) aq))) (aa (bW (aa (pC (.int 2)) (aa (pC (.int 11)) aq))) aq))))) (gN 2))
 (aA (jo (aN (ae 1)) (aA (aR (aG cm (ae 0) (pC (.int 4))) (gN 3))
 (aA (aR (eG aq) (gN 4))
 (aA (dW (gK dZ (aa (pC (.int 12)) aq)) (gN 5) (aA (jo (aN (aG lA (aG bq (ae 3) (pC (.int 2))) (pC (.int 1)))) (cH (fE 4 (ae 5))) bU)
 (aR (aG cm (ae 3) (pC (.int 2))) (gN 3))))
 (jo (aN (aG GG (gJ dw (aa (ae 4) aq)) (pC (.int 0)))) (cE (gJ kr (aa (ae 4) aq))) bU)))) bU)
 (cE (aG eO (ae 2) (aG bq (ae 0) (pC (.int 4)))))))
noncomputable def cI:FN:=d7 6 eu
noncomputable def gc:FS:=(aA (aR (cn bT 2 (aa (ae 0) (aa (ae 1) aq))) (gN 2))
 (aA (jo (BO (aN (aG Iu (ae 2) (pC (.int 0)))) (aN (aG IK (ae 2) (aG lw (pC (.int 10)) (pC (.int 18)))))) (cE (cn cW 1 (aa (cn ej 2 (aa (ae 2) (aa (pC (.int 41)) aq))) aq))) bU)
 (aA (aR (cn bS 2 (aa (ae 2) (aa (pC (.int 1)) aq))) (gN 2))
 (aA (aR (aG bq (aG cm (ae 2) (pC (.int 6))) (pC (.int 4))) (gN 3))
 (aA (aR (aG bI (pC (.int 1)) (aG bq (ae 2) (pC (.int 6)))) (gN 4))
 (aA (aR (pC (.int 4)) (gN 5))
 (aA (jo (aN (aG lA (aG bq (aG cm (ae 2) (pC (.int 24))) (pC (.int 8))) (pC (.int 3)))) (aA (aR (aG bI (pC (.int 12)) (aG bq (aG cm (ae 2) (pC (.int 192))) (pC (.int 9)))) (gN 4))
 (aR (pC (.int 6)) (gN 5))) bU)
 (aA (aR (cn dS 2 (aa (cn bS 2 (aa (cn bT 2 (aa (ae 0) (aa (aG bI (ae 1) (pC (.int 1))) aq))) (aa (pC (.int 2)) aq))) (aa (ae 4) aq))) (gN 6))
 (aA (aR (eG aq) (gN 7))
 (aA (dW (gK dZ (aa (ae 4) aq)) (gN 8) (aA (aR (cn bS 2 (aa (cn bT 2 (aa (ae 0) (aa (aG bI (aG bI (ae 1) (pC (.int 2))) (aG bq (ae 8) (pC (.int 6)))) aq))) (aa (aG bI (pC (.int 3)) (ae 8)) aq))) (gN 9))
 (aA (aR (eG aq) (gN 10))
 (aA (dW (gK dZ (aa (aG bI (pC (.int 1)) (aG bq (ae 9) (ae 5))) aq)) (gN 11) (aA (aR (aG cm (ae 9) (pC (.int 4))) (gN 9))
 (cH (fE 10 (cn cI 2 (aa (aG eO (eG (aa (aG bq (ae 9) (pC (.int 2))) (aa (ae 9) (aa (ae 9) (aa (ae 9) aq))))) (ae 3)) (aa (aG lA (ae 3) (pC (.int 1))) aq)))))))
 (cH (fE 7 (bW (aa (aG eO (ae 6) (ae 8)) (aa (gJ kr (aa (ae 10) aq)) aq)))))))))
 (cE (gJ kr (aa (ae 7) aq)))))))))))))
noncomputable def fP:FN:=d7 12 gc
noncomputable def mV:FS:=(cE (aG lA (pD mE (ae 1) eI (dB (gJ dw (aa (ae 0) aq)))) (ae 0)))
noncomputable def eL:FN:=d7 2 mV
noncomputable def ie:FS:=(aA (aR (eG aq) (gN 1))
 (aA (dW (gX (ae 0)) (gT 2 (nU (gN 2) (nU (gN 3) zg))) (dW (gX (ae 0)) (gT 2 (nU (gN 4) (nU (gN 5) zg))) (jo (sI (aN (aG Ct (ae 2) (ae 4))) (aN (cn eL 2 (aa (ae 3) (aa (ae 5) aq))))) (cH (fE 1 (bW (aa (gJ dw (aa (ae 5) aq)) (aa (pD mE (ae 5) (dB (gJ dw (aa (ae 3) aq))) eI) (aa (bW (aa (ae 4) aq)) (aa (bW (aa (ae 2) aq)) aq))))))) bU)))
 (cE (ae 1))))
noncomputable def dE:FN:=d7 6 ie
noncomputable def iR:FS:=(aA (aR (aG eO (ae 1) (pC (.int 0))) (gN 2))
 (aA (aR (aG eO (ae 1) (pC (.int 1))) (gN 3))
 (aA (jo (aN (aG lA (ae 3) (bW aq))) (cE (eG aq)) bU)
 (aA (aR (eG aq) (gN 4))
 (aA (dW (gX (ae 0)) (gT 2 (nU (gN 5) (nU (gN 6) zg))) (jo (aN (cn eL 2 (aa (ae 6) (aa (ae 3) aq)))) (cH (fE 4 (bW (aa (ae 2) (aa (pD mE (ae 3) (dB (gJ dw (aa (ae 6) aq))) eI) (aa (aG eO (ae 1) (pC (.int 2))) (aa (aG bI (aG eO (ae 1) (pC (.int 3))) (bW (aa (ae 5) aq))) aq))))))) (jo (aN (cn eL 2 (aa (ae 3) (aa (ae 6) aq)))) (aA (aR (pD mE (ae 6) (dB (gJ dw (aa (ae 3) aq))) eI) (gN 7))
 (cH (fE 4 (bW (aa (aG bI (ae 2) (gJ dw (aa (ae 7) aq))) (aa (ae 7) (aa (aG bI (aG eO (ae 1) (pC (.int 3))) (bW (aa (ae 5) aq))) (aa (aG eO (ae 1) (pC (.int 2))) aq)))))))) bU)))
 (cE (ae 4)))))))
noncomputable def eP:FN:=d7 8 iR
noncomputable def hZ:FS:=(aA (aR (eG aq) (gN 1))
 (aA (dW (gX (ae 0)) (gT 2 (nU (gN 2) (nU (gN 3) zg))) (dW (gX (ae 0)) (gT 2 (nU (gN 4) (nU (gN 5) zg))) (jo (sI (aN (aG Ct (ae 2) (ae 4))) (aN (aG lA (pD mE (ae 5) eI (dB (gJ dw (aa (ae 3) aq)))) (ae 3)))) (cH (fE 1 (bW (aa (pD mE (ae 5) (dB (gJ dw (aa (ae 3) aq))) eI) (aa (gJ dw (aa (ae 5) aq)) aq))))) bU)))
 (cE (ae 1))))
noncomputable def eY:FN:=d7 6 hZ
noncomputable def iK:FS:=(aA (aR (eG aq) (gN 3))
 (aA (dW (gX (ae 0)) (gT 2 (nU (gN 4) (nU (gN 5) zg))) (aA (jo (aN (aG lA (pD mE (ae 1) eI (dB (gJ dw (aa (ae 5) aq)))) (ae 5))) (cH (fE 3 (bW (aa (pD mE (ae 1) (dB (gJ dw (aa (ae 5) aq))) eI) (aa (ae 2) aq))))) bU)
 (jo (aN (aG lA (pD mE (ae 5) eI (dB (gJ dw (aa (ae 1) aq)))) (ae 1))) (cH (fE 3 (bW (aa (pD mE (ae 5) (dB (gJ dw (aa (ae 1) aq))) eI) (aa (aG nW (aG bI (ae 2) (gJ dw (aa (ae 5) aq))) (gJ dw (aa (ae 1) aq))) aq))))) bU)))
 (cE (ae 3))))
noncomputable def gf:FN:=d7 6 iK
noncomputable def g9:FS:=(cE (zH (ou "int" (ae 0)) (Cy (ou "bool" (ae 0)))))
noncomputable def bR:FN:=d7 1 g9
noncomputable def fD:FS:=(aA (jo (mB (aN (ou "tuple" (ae 0)))) (cE (pC (.bool Lw))) bU)
 (aA (dW (gX (ae 0)) (gN 1) (jo (BO (mB (aN (ou "tuple" (ae 1)))) (mB (aN (gJ AN (aa (iB 1 [] (gX (ae 1)) (gN 0) eE (cn bR 1 (aa (ae 0) aq))) aq))))) (cE (pC (.bool Lw))) bU))
 (cE (pC (.bool Lk)))))
noncomputable def dI:FN:=d7 2 fD
noncomputable def gn:FS:=(aA (jo (mB (aN (ou "list" (ae 0)))) (cE (pC (.bool Lw))) bU)
 (aA (dW (gX (ae 0)) (gN 1) (jo (BO (mB (aN (ou "tuple" (ae 1)))) (BO (aN (aG Ct (gJ dw (aa (ae 1) aq)) (pC (.int 2)))) (BO (mB (aN (cn dI 1 (aa (aG eO (ae 1) (pC (.int 0))) aq)))) (mB (aN (cn bR 1 (aa (aG eO (ae 1) (pC (.int 1))) aq))))))) (cE (pC (.bool Lw))) bU))
 (aA (dW (gK zI (aa (pC (.int 1)) (aa (gJ dw (aa (ae 0) aq)) aq))) (gN 2) (jo (aN (aG LD.XY (aG eO (aG eO (ae 0) (aG nW (ae 2) (pC (.int 1)))) (pC (.int 0))) (aG eO (aG eO (ae 0) (ae 2)) (pC (.int 0))))) (cE (pC (.bool Lw))) bU))
 (cE (pC (.bool Lk))))))
noncomputable def eA:FN:=d7 3 gn
end K63
namespace K63
open PySem L2 L3 L10
noncomputable def lN:gM:=(C3 (wO (bV 1)) (lz 2) (cr (gz (aL (aG eO (ae 2) (pC (.int 1)))) (lz 3))
 (ny (bV 0) (aL (ae 3)) (EA wu (dF (aL (ae 2)) (dF (lW (bV 0) (aL (ae 3)) (aL (ae 2))) jC))))))
noncomputable def kf:pE:=lB 4 lN
noncomputable def dr:gM:=(cr (gz ri (lz 1))
 (cr (gz ri (lz 2))
 (cr (kY (pi kf 2 (dF (bV 2) (dF (aL (cn dE 1 (aa (ae 0) aq))) jC))))
 (cr (AR (gA (xF (bV 2))) (cr (gz (pK (bV 2)) (lz 3))
 (cr (ny (bV 1) (aL (aG eO (ae 3) (pC (.int 1)))) (qA (bV 2) (aL (aG eO (ae 3) (pC (.int 1))))))
 (kY (pi kf 2 (dF (bV 2) (dF (xR 1 [1] (mS (gX (cn eP 2 (aa (ae 0) (aa (ae 3) aq))))) (lz 0) (gA (lg Lk (aL (aG eO (ae 0) (pC (.int 1)))) (bV 1))) (aL (ae 0))) jC)))))))
 (lm (bV 1))))))
noncomputable def df:pE:=lB 4 dr
noncomputable def rT:gM:=(cr (gz (pi df 1 (dF (aL (ae 0)) jC)) (lz 1))
 (lm (LD.Tu (LD.RM 1))))
noncomputable def el:pE:=lB 2 rT
noncomputable def eg:gM:=(cr (gz (k8 el 1 (dF (aL (ae 0)) jC)) (lz 1))
 (cr (kA (zU (gA (DR eA 1 (dF (bV 1) jC)))) (lm (aL (pC .none))) kZ)
 (cr (gz (LD.UT (bV 1)) (lz 2))
 (cr (gz (yq (aL (cn eY 1 (aa (ae 0) aq)))) (lz 3))
 (cr (LD.Tw (bV 1) (Ka 2 (z5 (lz 4) (z5 (lz 5) GZ))) (kA (sw (aN (aG Ct (ae 4) (bW aq)))) (gz (yq (aL (aG bI (ae 3) (cn gf 3 (aa (ae 0) (aa (ae 4) (aa (ae 5) aq))))))) (lz 3)) kZ))
 (cr (C3 (mS (gX (ae 3))) (Ka 2 (z5 (lz 4) (z5 (lz 5) GZ))) (kA (IZ (gA (lg Lk (aL (ae 4)) (bV 2))) (gA (Es GG (qR (bV 2) (aL (ae 4))) (aL (ae 5))))) (lm (aL (pC .none))) kZ))
 (cr (gz (LD.UT (aL (iB 1 [] (gX (ae 3)) (gN 0) eE (bW (aa (ae 0) (aa (pC (.bool Lk)) aq)))))) (lz 6))
 (cr (kA (zU (gA (EA AN (dF (LD.Sd 1 [6] (bV 1) (lz 0) CW (lg Lw (aL (ae 0)) (bV 1))) jC)))) (lm (aL (pC .none))) kZ)
 (cr (gz (EA zj (dF (bV 1) jC)) (lz 7))
 (cr (kY (DH (bV 1) (aL (bW (aa (bW aq) (aa (pC (.int 0)) aq))))))
 (lm (bV 7))))))))))))
noncomputable def cJ:pE:=lB 8 eg
noncomputable def AC:gM:=(cr (gz (aL (cn fP 2 (aa (ae 0) (aa (pC (.int 0)) aq)))) (lz 1))
 (cr (gz (aL (gJ kr (aa (iB 2 [] (gX (aG AH (pD mE (ae 1) (dB (pC (.int 1))) eI) (pD mE (ae 1) eI (dB (pC (.int 1)))))) (gT 2 (nU (gN 0) (nU (gN 1) zg))) eE (bW (aa (ae 0) (aa (Io L9.Cr (ae 1)) aq)))) aq))) (lz 2))
 (cr (gz (k8 cJ 1 (dF (aL (ae 1)) jC)) (lz 3))
 (cr (kA (IZ (gA (Es uV (bV 3) (aL (pC .none)))) (gA (Es uV (k8 cJ 1 (dF (aL (ae 2)) jC)) (aL (pC .none))))) (lm (aL (pC (.bool Lw)))) kZ)
 (lm (Es lA (k8 el 1 (dF (aL (ae 1)) jC)) (bV 3)))))))
noncomputable def F_law:pE:=lB 4 AC
noncomputable def zw (ns:List Int) (lo hi:Option Int):List Int:=(ns.drop (HT.sIx ns.length 0 lo)).take (HT.sIx ns.length ns.length hi - HT.sIx ns.length 0 lo)
theorem qS (ns:List Int) (k:Int) (hk:0<=k) (hl:ns.length<=63):∃c:Int,bT [.list (ns.map .int),.int k]= .ok (.fz (.int c)):=by
 unfold bT iA;have e1:JQ (.list (ns.map .int)) (lD k) (lD (k+1))=lD (.ow (iq (ns.map .int) (lD k) (lD (k+1)))):=rfl;have hc:iq (ns.map Lg.int) (lD k) (lD (k+1))=(zw ns (lD k) (lD (k+1))).map .int:=by unfold iq zw;rw[Lh,Pz,QA]
 rw[hc] at e1;have hcl:(zw ns (lD k) (lD (k+1))).length<=63:=by unfold zw;rw[Ms,M6];omega
 generalize zw ns (lD k) (lD (k+1))=cs at e1 hcl;have e2:bI (.list (cs.map .int)) (.list [.int 0])=lD (.ow (cs.map .int++[.int 0])):=by show(if(cs.map Lg.int).length+1<=1000000 then _ else _)=_;rw[Lh,if_pos (by omega)]
 cases cs with
 |nil=>have e3:eO (.list (([]:List Int).map Lg.int++[.int 0])) (.int 0)=lD (.fz (.int 0)):=GQ;exact⟨0,gk (ρ:=[lD (.fz (.list (ns.map .int))),lD (.fz (.int k))]) rfl (ci (by walk_at "ev") rfl rfl)⟩
 |cons c r=>have e3:eO (.list ((c::r).map Lg.int++[.int 0])) (.int 0)=lD (.fz (.int c)):=GQ;exact⟨c,gk (ρ:=[lD (.fz (.list (ns.map .int))),lD (.fz (.int k))]) rfl (ci (by walk_at "ev") rfl rfl)⟩
theorem jG (c s:Int) (h0:0<=s) (h1:s<=1000):∃r:Int,0<=r/\bA [.int c,.int s]= .ok (.fz (.int r)):=by unfold bA dH;have b1:0<=c % 1000000007/\c % 1000000007<1000000007:=⟨L7 _ (by decide),Mc _ (by decide)⟩;have m1:bq (.int c) (.int 1000000007)=lD (.fz (.int (c % 1000000007))):=bE (by decide);have m2:eS (.int 13) (.int s)=lD (.fz (.int (13*s))):=fA ⟨by omega,by omega⟩;generalize c % 1000000007=x at b1 m1;have m3:eS (.int s) (.int s)=lD (.fz (.int (s*s))):=fA ⟨by omega,by omega⟩;generalize s*s=ss at m3;have m4:eS (.int (x+13*s)) (.int (x+13*s+ss+11))=lD (.fz (.int ((x+13*s)*(x+13*s+ss+11)))):=fA ⟨by omega,by omega⟩;generalize (x+13*s)*(x+13*s+ss+11)=y at m4;have m5:eS (.int 40487) (.int s)=lD (.fz (.int (40487*s))):=fA ⟨by omega,by omega⟩;have b2:0<=(y+40487*s+7) % 1000000033/\(y+40487*s+7) % 1000000033<1000000033:=⟨L7 _ (by decide),Mc _ (by decide)⟩;have m6:bq (.int (y+40487*s+7)) (.int 1000000033)=lD (.fz (.int ((y+40487*s+7) % 1000000033))):=bE (by decide);generalize (y+40487*s+7) % 1000000033=z at b2 m6;have m7:cm (.int z) (.int 7)=lD (.fz (.int (z/7))):=cL ⟨by omega,by omega⟩;have m8:eS (.int z) (.int (z/7+31))=lD (.fz (.int (z*(z/7+31)))):=fA ⟨by omega,by omega⟩;generalize z*(z/7+31)=u at m8;have b3:0<=(u+90001) % 999999937:=L7 _ (by decide);have m9:bq (.int (u+90001)) (.int 999999937)=lD (.fz (.int ((u+90001) % 999999937))):=bE (by decide);have m10:cm (.int ((u+90001) % 999999937)) (.int 3)=lD (.fz (.int ((u+90001) % 999999937/3))):=cL ⟨by omega,by omega⟩;refine⟨(u+90001) % 999999937/3,by omega,gk (ρ:=[lD (.fz (.int c)),lD (.fz (.int s)),Ld]) rfl (rH (Cg (by walk_at "ev") rfl (rH (Cg (by walk_at "ev") rfl (ci (by walk_at "ev") rfl rfl)))))⟩
theorem zZ (c:Int):0<=if 0 - c>c then 0 - c else c:=by split<;>omega
theorem rE (c s:Int) (h0:0<=s) (h1:s<=1000):∃r:Int,0<=r/\bS [.int c,.int s]= .ok (.fz (.int r)):=by
 unfold bS eK;obtain⟨r,hr,er⟩:=jG c s h0 h1;obtain⟨q,hq,eq⟩:=jG r 3 (by decide) (by decide);have em:oX [.int c,.int (0 - c)]=lD (.fz (.int (if 0 - c>c then 0 - c else c))):=rfl;have nn:=zZ c;generalize (if 0 - c>c then 0 - c else c)=mx at em nn;obtain⟨rv,e,t⟩:=ik (ds:=[.int c,.int s]) (ρ:=[lD (.fz (.int c)),lD (.fz (.int s))]) (n:=2) (g:=eK) (T:=fun v=>∃r:Int,0<=r/\v= .fz (.int r)) rfl
  (rH (iZ (by walk_at "ev") (fun _=>ci (by walk_at "ev") rfl ⟨mx,nn,rfl⟩) (fun _=>ei (ci (by walk_at "ev") rfl ⟨q,hq,rfl⟩))))
 obtain⟨r,h,rfl⟩:=t;exact⟨r,h,e⟩
theorem yp (c:Int):∃xs:List Int,xs.length=41/\(∀x∈xs,0<=x)/\ej [.int c,.int 41]= .ok (.ow (xs.map .int)):=by
 have nn:=zZ c;have em:oX [.int c,.int (0 - c)]=lD (.fz (.int (if 0 - c>c then 0 - c else c))):=rfl;generalize (if 0 - c>c then 0 - c else c)=mx at em nn;have p8:=Kc;have p24:=Jx;have r20:dZ [.int 41]=lD (nZ (Me 41)):=iH (n:=41) (by decide) (by decide);have r3:dZ [.int 3]=lD (nZ (Me 3)):=iH (n:=3) (by decide) (by decide);obtain⟨rv,e,xs,h1,h2,rfl⟩:=ik (ds:=[.int c,.int 41]) (ρ:=[lD (.fz (.int c)),lD (.fz (.int 41)),Ld,Ld,Ld,Ld,Ld]) (n:=7) (g:=d9) (T:=fun v=>∃xs:List Int,xs.length=41/\(∀x∈xs,0<=x)/\v= .ow (xs.map .int)) rfl (by
  unfold d9;walk_at "go"
  with_reducible apply cN (fun i ρ=>∃(xs:List Int) (l:Int) (t4 t5 t6:Option PV),ρ=[lD (.fz (.int c)),lD (.fz (.int 41)),lD (.ow (xs.map .int)),lD (.fz (.int l)),t4,t5,t6]/\xs.length=i/\(∀x∈xs,0<=x)/\0<=l)
  ·walk_at "ev"
  ·exact⟨[],mx,Ld,Ld,Ld,rfl,rfl,fun x h=>(by cases h),nn⟩
  ·rintro i d ρ hi ⟨xs,l,t4,t5,t6,rfl,ZG,hx,hl⟩
   obtain⟨k,hk,rfl⟩:=eB hi;have acH:k<41:=Nj.mp (LH hk);have adM:i<41:=by have:=(Lj.mp hk).1;simpa using this
   refine⟨_,rfl,?_⟩;walk_at "go"
   with_reducible apply cN (fun i ρ=>∃(x:Int) (t6:Option PV),ρ=[lD (.fz (.int c)),lD (.fz (.int 41)),lD (.ow (xs.map .int)),lD (.fz (.int l)),lD (.fz (nd k)),lD (.fz (.int x)),t6]/\0<=x)
   ·walk_at "ev"
   ·exact⟨0,t6,rfl,by decide⟩
   ·rintro j d ρ hj ⟨x,t6,rfl,Yr⟩;obtain⟨jj,XX,rfl⟩:=eB hj;have hj3:jj<3:=Nj.mp (LH XX);obtain⟨r,hr,er⟩:=jG c (3*(k:Int)+(jj:Int)) (by omega) (by omega);have m1:eS (.int 3) (nd k)=lD (.fz (.int (3*(k:Int)))):=fA ⟨by omega,by omega⟩;have m2:eS (.int x) (.int (10^8))=lD (.fz (.int (x*10^8))):=ti ⟨by decide,by decide⟩;have m3:bq (.int r) (.int (10^8))=lD (.fz (.int (r % 10^8))):=bE (by decide);have n3:0<=r % 10^8:=L7 _ (by decide);refine⟨_,rfl,?_⟩;walk_at "go";refine⟨x*10^8+r % 10^8,_,rfl,?_⟩;have:0<=x*10^8:=Int.mul_nonneg Yr (by decide);omega
   ·rintro ρ ⟨x,t6,rfl,Yr⟩
    have m3:bq (.int l) (.int (10^24))=lD (.fz (.int (l % 10^24))):=bE (by decide);have m4:cm (.int l) (.int (10^24))=lD (.fz (.int (l/10^24))):=cL ⟨by decide,by decide⟩;have n3:0<=l % 10^24:=L7 _ (by decide);have n4:0<=l/10^24:=NU hl (by decide)
    have fin:∀(x l:Int) (t6:Option PV),0<=x->0<=l->Go (cH (fE 2 (ae 5)) [lD (.fz (.int c)),lD (.fz (.int 41)),lD (.ow (xs.map .int)),lD (.fz (.int l)),lD (.fz (nd k)),lD (.fz (.int x)),t6])
      (fun ρ=>∃(xs:List Int) (l:Int) (t4 t5 t6:Option PV),ρ=[lD (.fz (.int c)),lD (.fz (.int 41)),lD (.ow (xs.map .int)),lD (.fz (.int l)),t4,t5,t6]/\xs.length=i+1/\(∀x∈xs,0<=x)/\0<=l)
      (fun ρ=>∃(xs:List Int) (l:Int) (t4 t5 t6:Option PV),ρ=[lD (.fz (.int c)),lD (.fz (.int 41)),lD (.ow (xs.map .int)),lD (.fz (.int l)),t4,t5,t6]/\xs.length=i+1/\(∀x∈xs,0<=x)/\0<=l)
      (fun v=>∃xs:List Int,xs.length=41/\(∀x∈xs,0<=x)/\v= .ow (xs.map .int)):=fun x l t6 h0 h1=>by
     have hlen:(xs.map Lg.int).length<1000000:=by rw[Lh];omega
     refine dD (by walk_at "ev") ⟨xs++[x],l,_,_,_,by rw[LW];rfl,by rw[Ln,ZG];rfl,fun y hy=> ?_,h1⟩;rcases LM.mp hy with z|z
     ·exact hx y z
     ·rw[Lx.mp z];exact h0
    have p18:=z9;walk_at "go"
    ·intro _;walk_at "go";exact fin _ _ _ n3 n4
    ·intro _;exact cU (fin _ _ _ Yr hl)
  ·rintro ρ ⟨xs,l,t4,t5,t6,rfl,ZG,hx,hl⟩;exact ci (by walk_at "ev") rfl ⟨xs,ZG,hx,rfl⟩)
 exact⟨xs,h1,h2,e⟩
noncomputable def tx (l:List Nat):Str:=⟨l.toArray⟩
theorem F0 (a b:List Nat):tx a++tx b=tx (a++b):=by show(⟨a.toArray++b.toArray⟩:Str)=⟨(a++b).toArray⟩;rw[List.append_toArray]
theorem kF (l:List Nat):(tx l).length=l.length:=by show l.toArray.size=_;rw[LC]
theorem oC {l:List Nat} (h:∀c∈l,c<1114112):Lg.strOk (tx l)=Lk:=by show l.toArray.all (fun c=>decide (c<0x110000))=Lk;rw[<-UA,Mu];exact fun c hc=>decide_eq_true (h c hc)
theorem HG {a b:List Nat} (h:tx a=tx b):a=b:=congrArg (fun z:Str=>z.cps.toList) h
theorem r8 {a b:List Nat} (h:a.length+b.length<=1000):yE (.str (tx a)) (.str (tx b))=lD (.fz (.str (tx (a++b)))):=by show(if(tx a).length+(tx b).length<=1000000 then lD (RV.fz (.str (tx a++tx b))) else Ld)=_;rw[kF,kF,if_pos (by omega),F0]
theorem wb (c:Nat):∀(n:Nat) (a:Array Nat),(Lq n (#[c]:Array Nat)).foldl (·++·) a=a++(Lq n c).toArray
 |0,a=>by simp
 |n+1,a=>by rw[Mz,P7,wb c n,Mz];apply Array.toList_inj.mp;simp
theorem GB (c:Nat) (n:Nat):Txt.mul (tx [c]) (n:Int)=tx (Lq n c):=by
 unfold Txt.mul;by_cases h0:n=0
 ·subst h0;rfl
 rw[if_neg (by omega)];by_cases h1:n=1
 ·subst h1;rfl
 rw[if_neg (by intro z;have z:(((n:Int)==1)||((tx [c]).length==0))=Lk:=z;rw[kF] at z;simp at z;omega)];show(⟨(Lq (n:Int).toNat (#[c]:Array Nat)).foldl (·++·) #[]⟩:Str)=_;rw[wb,MV];simp;rfl
theorem pP {c:Nat} {i:Int} (h0:0<=i) (h1:i<=1000):L9.uD (.str (tx [c])) (.int i)=lD (.fz (.str (tx (Lq i.toNat c)))):=by show(if(tx [c]).length<=1000/\0<=i/\i<=1000 then lD (RV.fz (.str (Txt.mul (tx [c]) i))) else Ld)=_;rw[if_pos ⟨by rw[kF];exact LV rfl,h0,h1⟩];obtain⟨n,rfl⟩:∃n:Nat,i=(n:Int):=⟨i.toNat,by omega⟩;rw[GB,MV]
theorem yx (x:Str) (l u:Option Int):∀c∈(Txt.slice x l u).cps.toList,c∈x.cps.toList:=by
 unfold Txt.slice;split
 ·exact fun c h=>h
 ·intro c h;obtain⟨i,_,hi⟩:=M5.mp (show c∈List.filterMap (fun i=>x.cps[i]?) _ from h);exact Array.mem_toList_iff.mpr (Array.mem_of_getElem? hi)
theorem Ii {l:List Nat} (h:l.length<=1000) (lo hi:Option Int):∃m:List Nat,m.length<=l.length/\(∀c∈m,c∈l)/\Gn (.str (tx l)) lo hi=lD (.fz (.str (tx m))):=by
 refine⟨(Txt.slice (tx l) lo hi).cps.toList,?_,yx (tx l) lo hi,?_⟩
 ·have:=Txt.slice_le (tx l) lo hi;rw[kF] at this;exact this
 ·show(if(tx l).length<=1000000 then lD (RV.fz (.str (Txt.slice (tx l) lo hi))) else Ld)=_;rw[kF,if_pos (by omega)];rfl
abbrev Wd:=List Nat×List (List Int)
noncomputable def kD (ks:List Int):D:= .tuple (ks.map .int)
noncomputable def wD (e:Wd):D:= .tuple [.str (tx e.1),.tuple (e.2.map kD)]
noncomputable def bx (B:List Wd):D:= .tuple (B.map wD)
theorem p9 {α:Type} {f g:α->D} {gt:FG} {fe:FE} {ρ0:aI} (I:aI->Prop) (xs:List α) (hl:xs.length<=1000000) (h0:I ρ0) (hs:∀x∈xs,∀ρ,I ρ->∃ρ',kW gt eE fe (f x) ρ= .ok (lD (g x),ρ')/\I ρ'):kz (dC gt eE fe (xs.map f) ρ0 [])= .ok (xs.map g):=by
 obtain⟨ys,h1,h2,h3⟩:=zA (gt:=gt) (ft:=eE) (fe:=fe) (ds:=xs.map f) (ρ:=ρ0) I (fun i y=>∃x,xs[i]? =lD x/\y=g x) h0 (by rw[Lh];exact hl) (by
  intro i d hi ρ hI;rw[Ls] at hi;cases q:xs[i]? with
  |none=>rw[q] at hi;cases hi
  |some x=>
   obtain rfl:d=f x:=by rw[q] at hi;exact(LZ hi).symm
   obtain⟨ρ',e,hI'⟩:=hs x (LH q) ρ hI;exact⟨_,_,e,hI',x,rfl,rfl⟩)
 rw[h1];congr 1;refine Pr fun i=> ?_;rw[Ls];cases q:ys[i]? with
 |none=>
  have:xs.length<=i:=by have:=List.getElem?_eq_none_iff.mp q;rw[h2,Lh] at this;exact this
  rw[SW this];rfl
 |some y=>obtain⟨x,h4,rfl⟩:=h3 i y q;rw[h4];rfl
theorem pM {α:Type} {f g:α->D} {fe:FE} {cp:aI} (xs:List α) (hl:xs.length<=1000000) (hc:cP cp=cp) (he:∀x∈xs,fe (lD (.fz (f x))::cp)= .ok (.fz (g x),lD (.fz (f x))::cp)):kz (dC (gN 0) eE fe (xs.map f) (Ld::cp) [])= .ok (xs.map g):=by
 refine p9 (fun ρ=>∃o,ρ=o::cp) xs hl ⟨Ld,rfl⟩ ?_;rintro x hx ρ ⟨o,rfl⟩;have fg:cP (lD (PV.fz (f x))::cp)=lD (.fz (f x))::cp:=by show AQ _::cP cp=_;rw[hc];rfl
 exact⟨_,G7 rfl rfl (he x hx) rfl fg,_,rfl⟩
theorem sL {α:Type} (p:α->Bool):∀l:List α,qm (l.map fun c=>Lg.bool (p c))=lD (l.map p)
 |[]=>rfl
 |c::r=>by show(qm (r.map fun c=>Lg.bool (p c))).map (p c::·)=_;rw[sL p r];rfl
theorem tM {α:Type} (p:α->Bool) (l:List α):AN [.list (l.map fun c=>Lg.bool (p c))]=lD (.fz (.bool (l.all p))):=by show(qm _).map (fun bs=>RV.fz (.bool (bs.all id)))=_;rw[sL];show lD (RV.fz (.bool _))=_;rw[List.all_map];rfl
noncomputable def yt (ks:List Int):Bool:=(ks.zip (ks.drop 1)).all fun p=>decide (p.1<p.2)
noncomputable def KC (k:Int):Bool:=decide (0<=k)&&decide (k<12)
noncomputable def ze (ks:List Int):Bool:=decide ((ks.length:Int)≥1)&&(yt ks&&ks.all KC)
theorem xM (a b:List Nat):Lg.eqv (.str (tx a)) (.str (tx b))=decide (a=b):=by show decide (tx a=tx b)=_;exact decide_eq_decide.mpr ⟨HG,fun h=>by rw[h]⟩
theorem pL:∀{L:List (List Nat)},(∀l∈L,∀c∈l,c<1114112)->Lg.canLayAll0 (L.map fun l=>Lg.str (tx l))=Lk
 |[],_=>rfl
 |l::r,h=>by show(Lg.strOk (tx l)&&Lg.canLayAll0 (r.map fun l=>Lg.str (tx l)))=Lk;rw[oC (h l LG),pL fun m hm=>h m (Ly _ hm)];rfl
theorem p7 (w:List Nat):∀L:List (List Nat),((L.map fun l=>Lg.str (tx l)).any fun e=>Lg.eqv e (.str (tx w)))=decide (w∈L)
 |[]=>rfl
 |l::r=>by
  rw[Lo,List.any_cons,p7 w r,xM];by_cases h:l=w
  ·subst h;simp
  ·have:¬w=l:=fun z=>h z.symm;simp[h,this]
theorem Ki {w:List Nat} {L:List (List Nat)} (hw:∀c∈w,c<1114112) (hL:∀l∈L,∀c∈l,c<1114112):KT (.str (tx w)) (.list (L.map fun l=>Lg.str (tx l)))=lD (.fz (.bool (decide (w∈L)))):=by show(if((Lg.strOk (tx w)&&decide (0<=64))&&Lg.canLayAll0 (L.map fun l=>Lg.str (tx l)))=Lk then lD (RV.fz (.bool ((L.map fun l=>Lg.str (tx l)).any fun e=>Lg.eqv e (.str (tx w))))) else Ld)=_;rw[oC hw,pL hL,p7];rfl
theorem D5 {w:List Nat} {L:List (List Nat)} (hw:∀c∈w,c<1114112) (hL:∀l∈L,∀c∈l,c<1114112):EC (.str (tx w)) (.list (L.map fun l=>Lg.str (tx l)))=lD (.fz (.bool (!decide (w∈L)))):=by show(if((Lg.strOk (tx w)&&decide (0<=64))&&Lg.canLayAll0 (L.map fun l=>Lg.str (tx l)))=Lk then lD (RV.fz (.bool (!(L.map fun l=>Lg.str (tx l)).any fun e=>Lg.eqv e (.str (tx w))))) else Ld)=_;rw[oC hw,pL hL,p7];rfl
section
variable {n:Nat} {B:List Wd}
theorem KU (B:List Wd):dw [bx B]=lD (.fz (.int (B.length:Int))):=by show lD (RV.fz (.int ((B.map wD).length:Int)))=_;rw[Lh]
end
theorem uf:∀ks:List Int,yt ks=Lk↔ks.Pairwise (·<·)
 |[]=>by simp[yt]
 |[a]=>by simp[yt]
 |a::b::r=>by
  have ih:=uf (b::r);have e:yt (a::b::r)=(decide (a<b)&&yt (b::r)):=rfl;rw[e,LU,decide_eq_true_iff,ih];constructor
  ·rintro⟨h1,h2⟩
   refine Nx.mpr ⟨fun x hx=> ?_,h2⟩;rcases LN.mp hx with rfl|hx
   ·exact h1
   ·exact XN h1 ((Nx.mp h2).1 x hx)
  ·exact fun h=>have z:=Nx.mp h;⟨z.1 b LG,z.2⟩
theorem KN:∀ks:List Int,Lg.canLayAll0 (ks.map Lg.int)=Lk
 |[]=>rfl
 |k::r=>by show(Lk&&Lg.canLayAll0 (r.map Lg.int))=Lk;rw[KN r];rfl
theorem Jj:∀ks:List Int,Lg.depthAll (ks.map Lg.int)=0
 |[]=>rfl
 |k::r=>by show max 0 (Lg.depthAll (r.map Lg.int))=0;rw[Jj r];rfl
theorem F3:∀a b:List Int,Lg.eqvAll (a.map Lg.int) (b.map Lg.int)=decide (a=b)
 |[],[]=>rfl
 |[],_::_=>rfl
 |_::_,[]=>rfl
 |x::r,y::t=>by show(decide (x=y)&&Lg.eqvAll (r.map Lg.int) (t.map Lg.int))=_;rw[F3 r t];by_cases h:x=y<;>by_cases g:r=t<;>simp[h,g]
section
variable {n:Nat} {B:List Wd}
theorem kQ:∀ss:List (List Int),Lg.canLayAll0 (ss.map kD)=Lk
 |[]=>rfl
 |ks::r=>by show(Lg.canLayAll0 (ks.map Lg.int)&&Lg.canLayAll0 (r.map kD))=Lk;rw[KN,kQ r];rfl
theorem iX:∀ss:List (List Int),Lg.depthAll (ss.map kD)<=1
 |[]=>Mr _
 |ks::r=>by show max (Lg.depthAll (ks.map Lg.int)+1) (Lg.depthAll (r.map kD))<=1;rw[Jj];have:=iX r;omega
end
theorem rQ {i:Int} (h0:0<=i) (h1:i<26):Iq (.str "abcdefghijklmnopqrstuvwxyz") (.int i)=lD (.fz (.str (tx [97+i.toNat]))):=by
 have tab:∀c,c<26->(("abcdefghijklmnopqrstuvwxyz":Str).cps.toList)[c]? =lD (97+c):=by decide+kernel
 have ln:("abcdefghijklmnopqrstuvwxyz":Str).length<=1000000:=by decide+kernel
 show(if("abcdefghijklmnopqrstuvwxyz":Str).length<=1000000 then(oE ("abcdefghijklmnopqrstuvwxyz":Str).cps.toList i).map (fun c=>RV.fz (.str ⟨#[c]⟩)) else Ld)=_;rw[if_pos ln,xN h0 (tab i.toNat (by omega))];rfl
def zn (l:List Nat):Prop:=∀c∈l,97<=c/\c<=122
theorem qM {a b:List Nat} (h:zn a) (g:zn b):zn (a++b):=fun c hc=>by
 rcases LM.mp hc with z|z
 ·exact h c z
 ·exact g c z
theorem v7 {i:Int} (h0:0<=i) (h1:i<26):zn [97+i.toNat]:=fun c hc=>by rw[Lx.mp hc];omega
theorem Ek {i:Int} (h0:0<=i) (h1:i<26) (n:Nat):zn (Lq n (97+i.toNat)):=fun c hc=>by rw[(List.mem_replicate.mp hc).2];omega
theorem EI:(Lg.str "")= .str (tx []):=by
 have:("":Str)=tx []:=by decide+kernel
 rw[this]
theorem vt {x:Int} (hx:0<=x):∃l:List Nat,zn l/\1<=l.length/\l.length<=8/\dM [.int x]= .ok (.fz (.str (tx l))):=by
 have b1:0<=x % 8/\x % 8<8:=⟨L7 _ (by decide),Mc _ (by decide)⟩;have m1:bq (.int x) (.int 8)=lD (.fz (.int (x % 8))):=bE (by decide);have m2:cm (.int x) (.int 8)=lD (.fz (.int (x/8))):=cL ⟨by decide,by decide⟩;have r1:dZ [.int (1+x % 8)]=lD (nZ (Me (1+x % 8).toNat)):=iH (by omega) (by omega);have n2:0<=x/8:=NU hx (by decide);generalize x/8=x8 at m2 n2;generalize x % 8=xm at m1 b1 r1;obtain⟨rv,e,l,h1,h2,h3,rfl⟩:=ik (ds:=[.int x]) (ρ:=[lD (.fz (.int x)),Ld,Ld,Ld]) (n:=4) (g:=dJ) (T:=fun v=>∃l:List Nat,zn l/\1<=l.length/\l.length<=8/\v= .fz (.str (tx l))) rfl (by
  unfold dJ;rw[EI];walk_at "go"
  with_reducible apply cN (fun i ρ=>∃(y:Int) (l:List Nat) (t3:Option PV),ρ=[lD (.fz (.int y)),lD (.fz (.str (tx l))),lD (.fz (.int (1+xm))),t3]/\l.length=i/\zn l/\0<=y)
  ·walk_at "ev"
  ·exact⟨x8,[],Ld,rfl,rfl,(fun c h=>by cases h),n2⟩
  ·rintro i d ρ hi ⟨y,l,t3,rfl,hl,hL,hy⟩
   obtain⟨k,hk,rfl⟩:=eB hi;have hi8:i<(1+xm).toNat:=by have:=(Lj.mp hk).1;simpa using this
   have b2:0<=y % 26/\y % 26<26:=⟨L7 _ (by decide),Mc _ (by decide)⟩;have m3:bq (.int y) (.int 26)=lD (.fz (.int (y % 26))):=bE (by decide);have m4:cm (.int y) (.int 26)=lD (.fz (.int (y/26))):=cL ⟨by decide,by decide⟩;have n4:0<=y/26:=NU hy (by decide);have al:=rQ b2.1 b2.2;have o1:=v7 b2.1 b2.2;have ad:=r8 (a:=l) (b:=[97+(y % 26).toNat]) (by rw[Mx];omega);generalize 97+(y % 26).toNat=c at al o1 ad;refine⟨_,rfl,?_⟩;walk_at "go";exact⟨y/26,l++[c],_,rfl,by rw[Ln,hl];rfl,qM hL o1,n4⟩
  ·rintro ρ ⟨y,l,t3,rfl,hl,hL,hy⟩;rw[ff,L8] at hl;exact ci (af rfl) rfl ⟨l,hL,by omega,by omega,rfl⟩)
 exact⟨l,h1,h2,h3,e⟩
structure Ti (i:Nat) (ks:List Int):Prop where
 pw:ks.Pairwise (·<·)
 lo:∀k∈ks,0<=k/\k<i
theorem Ti.nil:Ti 0 []:=⟨RF,fun k h=>by cases h⟩
theorem Ti.same {i:Nat} {ks:List Int} (h:Ti i ks):Ti (i+1) ks:=⟨h.pw,fun k hk=>by have:=h.lo k hk;omega⟩
theorem Ti.snoc {i:Nat} {ks:List Int} (h:Ti i ks):Ti (i+1) (ks++[(i:Int)]):=by
 refine⟨Mn.mpr ⟨h.pw,Sw _ _,fun a ha b hb=> ?_⟩,fun k hk=> ?_⟩
 ·rw[Lx.mp hb];exact(h.lo a ha).2
 ·rcases LM.mp hk with z|z
  ·have:=h.lo k z;omega
  ·rw[Lx.mp z];omega
theorem Af:∀{ks:List Int} {a b:Int},ks.Pairwise (·<·)->(∀k∈ks,a<=k/\k<b)->a<=b->(ks.length:Int)<=b - a
 |[],a,b,_,_,h=>by rw[OO];omega
 |k::r,a,b,hp,hk,h=>by obtain⟨h1,h2⟩:=Nx.mp hp;have h3:=hk k LG;have:=Af (a:=k+1) (b:=b) h2 (fun x hx=>⟨by have:=h1 x hx;omega,(hk x (Ly _ hx)).2⟩) (by omega);rw[Lu];omega
theorem Ti.len {i:Nat} {ks:List Int} (h:Ti i ks):ks.length<=i:=by have:=Af h.pw h.lo (by omega);omega
theorem Ti.st {ks:List Int} (h:Ti 12 ks) (OK:1<=ks.length):ze ks=Lk:=by
 unfold ze;rw[decide_eq_true (by omega),(uf ks).mpr h.pw,Mu.mpr fun k hk=> ?_]
 ·rfl
 ·have:=h.lo k hk;unfold KC;rw[decide_eq_true this.1,decide_eq_true (show k<12 by omega)];rfl
theorem IR (m:Int):lA (.int (m % 2)) (.int 1)=lD (.fz (.bool (decide (m % 2=1)))):=jd _ _
theorem se {x:Int} (hx:0<=x) (Wh:x<4095):∃ks:List Int,ze ks=Lk/\ks.length<=12/\cV [.int x]= .ok (.fz (kD ks)):=by
 have r1:dZ [.int 12]=lD (nZ (Me 12)):=iH (n:=12) (by decide) (by decide);obtain⟨rv,e,ks,h1,h2,rfl⟩:=ik (ds:=[.int x]) (ρ:=[lD (.fz (.int x)),Ld,Ld,Ld]) (n:=4) (g:=cg) (T:=fun v=>∃ks:List Int,ze ks=Lk/\ks.length<=12/\v= .fz (kD ks)) rfl (by
  unfold cg;walk_at "go"
  with_reducible apply cN (fun i ρ=>∃(m:Int) (ks:List Int) (t3:Option PV),ρ=[lD (.fz (.int x)),lD (.fz (.int m)),lD (.ow (ks.map .int)),t3]/\Ti i ks/\0<=m/\m<2^(12 - i)/\(1<=ks.length\/1<=m))
  ·walk_at "ev"
  ·exact⟨1+x,[],Ld,rfl,.nil,by omega,by show 1+x<4096;omega,.inr (by omega)⟩
  ·rintro i d ρ hi ⟨m,ks,t3,rfl,hU,h0,hm,OK⟩
   obtain⟨k,hk,rfl⟩:=eB hi;obtain⟨hl,e⟩:=Lj.mp hk;rw[NR] at e;subst e;rw[L8] at hl;have m1:bq (.int m) (.int 2)=lD (.fz (.int (m % 2))):=bE (by decide);have m2:cm (.int m) (.int 2)=lD (.fz (.int (m/2))):=cL ⟨by decide,by decide⟩;have e2:=IR m;have hp:(2:Int)^(12 - i)=2*2^(12 - (i+1)):=by rw[show 12 - i=(12 - (i+1))+1 by omega,Int.pow_succ,Int.mul_comm]
   rw[hp] at hm;generalize (2:Int)^(12 - (i+1))=p at hm;have hlen:(ks.map Lg.int).length<1000000:=by rw[Lh];have:=hU.len;omega
   refine⟨_,rfl,?_⟩;walk_at "go"
   ·intro q;have q:=of_decide_eq_true q;walk_at "go";exact⟨m/2,ks++[(i:Int)],_,by rw[LW];rfl,hU.snoc,by omega,by omega,.inl (by rw[Ln,Mx];omega)⟩
   ·intro q;have q:=of_decide_eq_false q;refine cU ?_;walk_at "go";exact⟨m/2,ks,_,rfl,hU.same,by omega,by omega,OK.imp id fun z=>by omega⟩
  ·rintro ρ ⟨m,ks,t3,rfl,hU,h0,hm,OK⟩;rw[ff,L8] at hm hU;have hm:m<1:=hm;exact ci (pv:= .fz (kD ks)) (b7 (rv:= .fz (kD ks)) (am (dA rfl) ay) rfl rfl) rfl ⟨ks,hU.st (by omega),hU.len,rfl⟩)
 exact⟨ks,h1,h2,e⟩
theorem yO {c:Int} (hc:0<=c) (w:Bool):∃ks:List Int,ze ks=Lk/\ks.length<=12/\cI [.int c,.bool w]= .ok (.fz (kD ks)):=by
 have r1:dZ [.int 12]=lD (nZ (Me 12)):=iH (n:=12) (by decide) (by decide);have m0:cm (.int c) (.int 4)=lD (.fz (.int (c/4))):=cL ⟨by decide,by decide⟩;have m4:bq (.int c) (.int 4)=lD (.fz (.int (c % 4))):=bE (by decide);have b4:0<=c % 4/\c % 4<4:=⟨L7 _ (by decide),Mc _ (by decide)⟩;obtain⟨ZM,k1,k2,ix⟩:∃ks:List Int,ze ks=Lk/\ks.length<=12/\eO (.list [kD [0],kD [1],kD [0,1],kD [2,11]]) (.int (c % 4))=lD (.fz (kD ks)):=by
  generalize c % 4=j at b4;obtain⟨n,rfl⟩:∃n:Nat,j=(n:Int):=⟨j.toNat,by omega⟩
  match n,b4 with
  |0,_=>exact⟨[0],rfl,by decide,C8 (i:=0) rfl⟩
  |1,_=>exact⟨[1],rfl,by decide,C8 (i:=1) rfl⟩
  |2,_=>exact⟨[0,1],rfl,by decide,C8 (i:=2) rfl⟩
  |3,_=>exact⟨[2,11],rfl,by decide,C8 (i:=3) rfl⟩
  |n+4,h=>omega
 have last:∀(t3 t4 t5:Option PV),Go (cE (aG eO (ae 2) (aG bq (ae 0) (pC (.int 4)))) [lD (.fz (.int c)),lD (.fz (.bool w)),lD (.ow [kD [0],kD [1],kD [0,1],kD [2,11]]),t3,t4,t5]) (fun _=>∃ks:List Int,ze ks=Lk/\ks.length<=12/\RV.fz Lg.none= .fz (kD ks)) (fun _=>False) (fun v=>∃ks:List Int,ze ks=Lk/\ks.length<=12/\v= .fz (kD ks)):=fun t3 t4 t5=>
  ci (pv:= .fz (kD ZM)) (aZ (rv:= .fz (kD ZM)) (dA rfl) (by walk_at "ev") rfl rfl ix) rfl ⟨ZM,k1,k2,rfl⟩
 obtain⟨rv,e,ks,h1,h2,rfl⟩:=ik (ds:=[.int c,.bool w]) (ρ:=[lD (.fz (.int c)),lD (.fz (.bool w)),Ld,Ld,Ld,Ld]) (n:=6) (g:=eu) (T:=fun v=>∃ks:List Int,ze ks=Lk/\ks.length<=12/\v= .fz (kD ks)) rfl (by
  unfold eu;refine aY (pv:= .ow [kD [0],kD [1],kD [0,1],kD [2,11]]) (ρ3:=[lD (.fz (.int c)),lD (.fz (.bool w)),lD (.ow [kD [0],kD [1],kD [0,1],kD [2,11]]),Ld,Ld,Ld]) (by walk_at "ev") rfl rfl ?_;refine jr (bp (af rfl) rfl) (fun _=> ?_) fun _=>cU (last _ _ _);walk_at "go"
  with_reducible apply cN (fun i ρ=>∃(m:Int) (ks:List Int) (t5:Option PV),ρ=[lD (.fz (.int c)),lD (.fz (.bool w)),lD (.ow [kD [0],kD [1],kD [0,1],kD [2,11]]),lD (.fz (.int m)),lD (.ow (ks.map .int)),t5]/\Ti i ks)
  ·walk_at "ev"
  ·exact⟨c/4,[],Ld,rfl,.nil⟩
  ·rintro i d ρ hi ⟨m,ks,t5,rfl,hU⟩
   obtain⟨k,hk,rfl⟩:=eB hi;obtain⟨hl,e⟩:=Lj.mp hk;rw[NR] at e;subst e;rw[L8] at hl;have m1:bq (.int m) (.int 2)=lD (.fz (.int (m % 2))):=bE (by decide);have m2:cm (.int m) (.int 2)=lD (.fz (.int (m/2))):=cL ⟨by decide,by decide⟩;have e2:=IR m;have hlen:(ks.map Lg.int).length<1000000:=by rw[Lh];have:=hU.len;omega
   refine⟨_,rfl,?_⟩;walk_at "go"
   ·intro _;walk_at "go";exact⟨m/2,ks++[(i:Int)],_,by rw[LW];rfl,hU.snoc⟩
   ·intro _;refine cU ?_;walk_at "go";exact⟨m/2,ks,_,rfl,hU.same⟩
  ·rintro ρ ⟨m,ks,t5,rfl,hU⟩
   rw[ff,L8] at hU;have ln:dw [.list (ks.map Lg.int)]=lD (.fz (.int (ks.length:Int))):=by show lD (RV.fz (.int ((ks.map Lg.int).length:Int)))=_;rw[Lh]
   refine jr (b:=decide ((ks.length:Int)>0)) (bp (dN (dx:= .int (ks.length:Int)) (dy:= .int 0) (b7 (rv:= .fz (.int (ks.length:Int))) (am (dA rfl) ay) rfl ln) cR rfl rfl (Bw _ _)) rfl) (fun q=> ?_) fun _=>cU (last _ _ _);have q:=of_decide_eq_true q;exact nv (pv:= .fz (kD ks)) (b7 (rv:= .fz (kD ks)) (am (dA rfl) ay) rfl rfl) rfl ⟨ks,hU.st (by omega),hU.len,rfl⟩)
 exact⟨ks,h1,h2,e⟩
structure GE (e:Wd):Prop where
 wd:zn e.1
 w1:1<=e.1.length
 w8:e.1.length<=8
 s1:1<=e.2.length
 s6:e.2.length<=6
 st:∀ks∈e.2,ze ks=Lk/\ks.length<=12
structure Bk (B:List Wd):Prop where
 l1:1<=B.length
 SN:B.length<=20
 ge:∀e∈B,GE e
 nd:(B.map (·.1)).Nodup
theorem Ej {α:Type} {l:List α} {a:α} (h:l.Nodup) (ha:a∉l):(l++[a]).Nodup:=Ou.mpr ⟨h,MJ.mpr ⟨PR,N9⟩,fun x hx y hy z=>by rw[Lx.mp hy] at z;subst z;exact ha hx⟩
noncomputable abbrev dU (l:List Nat):D:= .str (tx l)
theorem Km {s o p:Nat} {a b:Nat} (h:Lq a s++[o]++Lq b s=Lq a s++[p]++Lq b s):o=p:=by rw[LP,LP] at h;have:=List.append_cancel_left h;exact(OZ this).1
theorem Ac {c:Int} (hc:0<=c) {m:Nat} (hm:m<=20):∃N:List (List Nat),N.length=m/\N.Nodup/\(∀l∈N,zn l/\1<=l.length/\l.length<=8)/\dS [.int c,nd m]= .ok (.ow (N.map dU)):=by
 have Ym:0<=c/3 % 26/\c/3 % 26<26:=⟨L7 _ (by decide),Mc _ (by decide)⟩;have d3:cm (.int c) (.int 3)=lD (.fz (.int (c/3))):=cL ⟨by decide,by decide⟩;have m26:bq (.int (c/3)) (.int 26)=lD (.fz (.int (c/3 % 26))):=bE (by decide);have al:=rQ Ym.1 Ym.2;have rp:=Ek Ym.1 Ym.2;generalize c/3 % 26=j at Ym m26 al rp;generalize 97+j.toNat=s at al rp;have m3:bq (.int c) (.int 3)=lD (.fz (.int (c % 3))):=bE (by decide);have e3:lA (.int (c % 3)) (.int 0)=lD (.fz (.bool (decide (c % 3=0)))):=jd _ _;have rm:=wS (n:=m) (by omega);have d78:cm (.int c) (.int 78)=lD (.fz (.int (c/78))):=cL ⟨by decide,by decide⟩;have m8:bq (.int (c/78)) (.int 8)=lD (.fz (.int (c/78 % 8))):=bE (by decide);have b8:0<=c/78 % 8/\c/78 % 8<8:=⟨L7 _ (by decide),Mc _ (by decide)⟩;generalize c/78 % 8=sz at m8 b8;have acR:cm (.int c) (.int 624)=lD (.fz (.int (c/624))):=cL ⟨by decide,by decide⟩;have mat:bq (.int (c/624)) (.int (sz+1))=lD (.fz (.int (c/624 % (sz+1)))):=bE (by omega);have bat:0<=c/624 % (sz+1)/\c/624 % (sz+1)<sz+1:=⟨L7 _ (by omega),Mc _ (by omega)⟩;generalize c/624 % (sz+1)=a at mat bat;have d56:cm (.int c) (.int 5616)=lD (.fz (.int (c/5616))):=cL ⟨by decide,by decide⟩;have n56:0<=c/5616:=NU hc (by decide);generalize c/5616=dd at d56 n56;have mu1:=pP (c:=s) bat.1 (show a<=1000 by omega);have mu2:=pP (c:=s) (show 0<=sz - a by omega) (show sz - a<=1000 by omega);obtain⟨rv,e,N,h1,h2,h3,rfl⟩:=ik (ds:=[.int c,nd m]) (ρ:=[lD (.fz (.int c)),lD (.fz (nd m)),Ld,Ld,Ld,Ld,Ld,Ld,Ld]) (n:=9) (g:=e9) (T:=fun v=>∃N:List (List Nat),N.length=m/\N.Nodup/\(∀l∈N,zn l/\1<=l.length/\l.length<=8)/\v= .ow (N.map dU)) rfl (by
  unfold e9;refine aY (pv:= .fz (.str "abcdefghijklmnopqrstuvwxyz")) (ρ3:=[lD (.fz (.int c)),lD (.fz (nd m)),lD (.fz (.str "abcdefghijklmnopqrstuvwxyz")),Ld,Ld,Ld,Ld,Ld,Ld]) cR rfl rfl ?_;refine aY (pv:= .fz (dU [s])) (ρ3:=[lD (.fz (.int c)),lD (.fz (nd m)),lD (.fz (.str "abcdefghijklmnopqrstuvwxyz")),lD (.fz (dU [s])),Ld,Ld,Ld,Ld,Ld]) (aZ (rv:= .fz (dU [s])) (af rfl) (by walk_at "ev") rfl rfl al) rfl rfl ?_;refine jr (b:=decide (c % 3=0)&&decide ((m:Int)<9)) (by walk_at "ev") (fun q=> ?_) fun _=>cU ?_
  ·rw[LU,decide_eq_true_iff,decide_eq_true_iff] at q
   have cmp:kz (dC (gN 0) eE (aG L9.uD (ae 1) (aG bI (ae 0) (pC (.int 1)))) ((Me m).map nd) [Ld,lD (.fz (dU [s]))] [])= .ok ((Me m).map fun k=>dU (Lq (k+1) s)):=by refine pM (Me m) (by rw[L8];omega) rfl fun k hk=> ?_;have hk:=Nj.mp hk;have mu:=pP (c:=s) (i:=(k:Int)+1) (by omega) (by omega);rw[show((k:Int)+1).toNat=k+1 by omega] at mu;exact aZ (rv:= .fz (dU (Lq (k+1) s))) (af rfl) (aZ (rv:= .fz (.int ((k:Int)+1))) (af rfl) cR rfl rfl (qC _ _)) rfl rfl mu
   refine nv (jT (xs:=(Me m).map fun k=>dU (Lq (k+1) s)) (jX (ds:=[nd m]) (am (af rfl) ay) rfl rm) rfl cmp) rfl ⟨(Me m).map fun k=>Lq (k+1) s,by rw[Lh,L8],?_,fun l hl=> ?_,by rw[Mq];rfl⟩
   ·refine RG.mpr (Ov.mpr (Vo.imp fun{x y} OK z=>OK ?_));have:=congrArg NP z;rw[LI,LI] at this;omega
   ·obtain⟨k,hk,rfl⟩:=Lz.mp hl;have hk:=Nj.mp hk;rw[LI];exact⟨rp _,by omega,by omega⟩
  ·refine aY (pv:= .fz (.int sz)) (ρ3:=[lD (.fz (.int c)),lD (.fz (nd m)),lD (.fz (.str "abcdefghijklmnopqrstuvwxyz")),lD (.fz (dU [s])),lD (.fz (.int sz)),Ld,Ld,Ld,Ld]) (by walk_at "evp") rfl rfl ?_
   refine aY (pv:= .fz (.int a)) (ρ3:=[lD (.fz (.int c)),lD (.fz (nd m)),lD (.fz (.str "abcdefghijklmnopqrstuvwxyz")),lD (.fz (dU [s])),lD (.fz (.int sz)),lD (.fz (.int a)),Ld,Ld,Ld]) (by walk_at "evp") rfl rfl ?_;refine aY (pv:= .ow []) (ρ3:=[lD (.fz (.int c)),lD (.fz (nd m)),lD (.fz (.str "abcdefghijklmnopqrstuvwxyz")),lD (.fz (dU [s])),lD (.fz (.int sz)),lD (.fz (.int a)),lD (.ow []),Ld,Ld]) (by walk_at "evp") rfl rfl ?_;refine cN (fun i ρ=>∃(t7 t8:Option PV),ρ=[lD (.fz (.int c)),lD (.fz (nd m)),lD (.fz (.str "abcdefghijklmnopqrstuvwxyz")),lD (.fz (dU [s])),lD (.fz (.int sz)),lD (.fz (.int a)),lD (.ow (((Me i).map fun k:Nat=>Lq a.toNat s++[97+(((k:Int)*7+dd) % 26).toNat]++Lq (sz - a).toNat s).map dU)),t7,t8]) (ds:=nZ (Me m)) (ρ1:=[lD (.fz (.int c)),lD (.fz (nd m)),lD (.fz (.str "abcdefghijklmnopqrstuvwxyz")),lD (.fz (dU [s])),lD (.fz (.int sz)),lD (.fz (.int a)),lD (.ow []),Ld,Ld]) (jX (ds:=[nd m]) (am (af rfl) ay) rfl rm) ⟨Ld,Ld,rfl⟩ ?_ ?_
   ·rintro i d ρ hi ⟨t7,t8,rfl⟩
    obtain⟨k,hk,rfl⟩:=eB hi;obtain⟨hl,e⟩:=Lj.mp hk;rw[NR] at e;subst e;rw[L8] at hl;have bo:0<=((i:Int)*7+dd) % 26/\((i:Int)*7+dd) % 26<26:=⟨L7 _ (by decide),Mc _ (by decide)⟩;have mu:eS (nd i) (.int 7)=lD (.fz (.int ((i:Int)*7))):=ti ⟨by decide,by decide⟩;have mo:bq (.int ((i:Int)*7+dd)) (.int 26)=lD (.fz (.int (((i:Int)*7+dd) % 26))):=bE (by decide);have ao:=rQ bo.1 bo.2;rw[List.range_succ,LW,LW];show∃ρ1,_/\Go _ (fun ρ=>∃(t7 t8:Option PV),ρ=[_,_,_,_,_,_,lD (.ow (_++[dU (Lq a.toNat s++[97+(((i:Int)*7+dd) % 26).toNat]++Lq (sz - a).toNat s)])),t7,t8]) _ _;have hlen:(((Me i).map fun k:Nat=>Lq a.toNat s++[97+(((k:Int)*7+dd) % 26).toNat]++Lq (sz - a).toNat s).map dU).length<1000000:=by rw[Lh,Lh,L8];omega
    generalize ((Me i).map fun k:Nat=>Lq a.toNat s++[97+(((k:Int)*7+dd) % 26).toNat]++Lq (sz - a).toNat s).map dU=pre at hlen;generalize 97+(((i:Int)*7+dd) % 26).toNat=o at ao;have a1:=r8 (a:=Lq a.toNat s) (b:=[o]) (by rw[LI,Mx];omega);have a2:=r8 (a:=Lq a.toNat s++[o]) (b:=Lq (sz - a).toNat s) (by rw[Ln,LI,LI,Mx];omega);generalize Lq a.toNat s=ra at mu1 a1 a2;generalize Lq (sz - a).toNat s=rb at mu2 a2;refine⟨_,rfl,?_⟩;refine aY (pv:= .fz (dU [o])) (ρ3:=[lD (.fz (.int c)),lD (.fz (nd m)),lD (.fz (.str "abcdefghijklmnopqrstuvwxyz")),lD (.fz (dU [s])),lD (.fz (.int sz)),lD (.fz (.int a)),lD (.ow pre),lD (.fz (nd i)),lD (.fz (dU [o]))]) (aZ (rv:= .fz (dU [o])) (af rfl) (aZ (rv:= .fz (.int (((i:Int)*7+dd) % 26))) (aZ (rv:= .fz (.int ((i:Int)*7+dd))) (aZ (rv:= .fz (.int ((i:Int)*7))) (af rfl) cR rfl rfl mu) (aZ (rv:= .fz (.int dd)) (af rfl) cR rfl rfl d56) rfl rfl (qC _ _)) cR rfl rfl mo) rfl rfl ao) rfl rfl ?_;exact dD (eV (d:=dU (ra++[o]++rb)) (x:=[lD (.fz (.int c)),lD (.fz (nd m)),lD (.fz (.str "abcdefghijklmnopqrstuvwxyz")),lD (.fz (dU [s])),lD (.fz (.int sz)),lD (.fz (.int a)),lD (.ow (pre++[dU (ra++[o]++rb)])),lD (.fz (nd i)),lD (.fz (dU [o]))]) rfl (aZ (rv:= .fz (dU (ra++[o]++rb))) (aZ (rv:= .fz (dU (ra++[o]))) (aZ (rv:= .fz (dU ra)) (af rfl) (af rfl) rfl rfl mu1) (af rfl) rfl rfl a1) (aZ (rv:= .fz (dU rb)) (af rfl) (by walk_at "ev") rfl rfl mu2) rfl rfl a2) rfl rfl hlen rfl) ⟨_,_,rfl⟩
   ·rintro ρ ⟨t7,t8,rfl⟩
    rw[ff,L8];refine ci (dA rfl) rfl ⟨(Me m).map fun k:Nat=>Lq a.toNat s++[97+(((k:Int)*7+dd) % 26).toNat]++Lq (sz - a).toNat s,by rw[Lh,L8],?_,fun l hl=> ?_,rfl⟩
    ·refine RG.mpr (Ov.mpr ?_);refine XO ?_ (Vo (n:=m));intro x y hx hy OK z;have hx:=Nj.mp hx;have hy:=Nj.mp hy;have:=Km z;apply OK;omega
    ·obtain⟨k,hk,rfl⟩:=Lz.mp hl;have bo:0<=((k:Int)*7+dd) % 26/\((k:Int)*7+dd) % 26<26:=⟨L7 _ (by decide),Mc _ (by decide)⟩;refine⟨qM (qM (rp _) (v7 bo.1 bo.2)) (rp _),?_,?_⟩<;>rw[Ln,Ln,LI,LI,Mx]<;>omega)
 exact⟨N,h1,h2,h3,e⟩
theorem pU {xs:List Int} {i:Int} (h0:0<=i) (h:i.toNat<xs.length):eO (.list (xs.map .int)) (.int i)=lD (.fz (.int xs[i.toNat])):=HQ h0 (by rw[Ls,LB h];rfl)
theorem pH (xs:List Int) (hl:xs.length=41) (hx:∀x∈xs,0<=x):∃B,Bk B/\cW [.list (xs.map .int)]= .ok (.fz (bx B)):=by
 have e0:eO (.list (xs.map .int)) (.int 0)=lD (.fz (.int xs[0])):=pU (i:=0) (by decide) (by rw[hl];decide);have Yr:0<=xs[0]:=hx _ (Nv _);generalize xs[0]=x0 at e0 Yr;have m1:bq (.int x0) (.int 20)=lD (.fz (.int (x0 % 20))):=bE (by decide);have b1:0<=x0 % 20/\x0 % 20<20:=⟨L7 _ (by decide),Mc _ (by decide)⟩;generalize x0 % 20=xm at m1 b1;have r1:dZ [.int (1+xm)]=lD (nZ (Me (1+xm).toNat)):=iH (by omega) (by omega);obtain⟨rv,e,B,hB,rfl⟩:=ik (ds:=[.list (xs.map .int)]) (ρ:=[lD (.fz (.list (xs.map .int))),Ld,Ld,Ld,Ld,Ld,Ld]) (n:=7) (g:=cS) (T:=fun v=>∃B,Bk B/\v= .fz (bx B)) rfl (by
  unfold cS;refine aY (pv:= .ow []) (ρ3:=[lD (.fz (.list (xs.map .int))),lD (.ow []),Ld,Ld,Ld,Ld,Ld]) (by walk_at "evp") rfl rfl ?_;refine cN (fun i ρ=>∃(B:List Wd) (t2 t3 t4 t5 t6:Option PV),ρ=[lD (.fz (.list (xs.map .int))),lD (.ow (B.map wD)),t2,t3,t4,t5,t6]/\B.length<=i/\(1<=i->1<=B.length)/\(∀e∈B,GE e)/\(B.map (·.1)).Nodup) (ds:=nZ (Me (1+xm).toNat)) (ρ1:=[lD (.fz (.list (xs.map .int))),lD (.ow []),Ld,Ld,Ld,Ld,Ld]) (by walk_at "ev") ⟨[],Ld,Ld,Ld,Ld,Ld,rfl,Ll _,(fun h=>absurd h (by decide)),(fun e h=>by cases h),N9⟩ ?_ ?_
  ·rintro i d ρ hi ⟨B,t2,t3,t4,t5,t6,rfl,YY,ZJ,hG,hN⟩
   obtain⟨k,hk,rfl⟩:=eB hi;obtain⟨ZT,e⟩:=Lj.mp hk;rw[NR] at e;subst e;rw[L8] at ZT;have mu:eS (.int 2) (nd i)=lD (.fz (.int (2*(i:Int)))):=fA ⟨by decide,by decide⟩;have ix1:=pU (xs:=xs) (i:=1+2*(i:Int)) (by omega) (by omega);have hx1:0<=xs[(1+2*(i:Int)).toNat]:=hx _ (Nv _);generalize xs[(1+2*(i:Int)).toNat]=y1 at ix1 hx1;obtain⟨w,hw,w1,w8,en⟩:=vt hx1;have ix2:=pU (xs:=xs) (i:=2+2*(i:Int)) (by omega) (by omega);have Wh:0<=xs[(2+2*(i:Int)).toNat]:=hx _ (Nv _);generalize xs[(2+2*(i:Int)).toNat]=y2 at ix2 Wh;have d6:cm (.int y2) (.int 6)=lD (.fz (.int (y2/6))):=cL ⟨by decide,by decide⟩;have m6:bq (.int y2) (.int 6)=lD (.fz (.int (y2 % 6))):=bE (by decide);have b6:0<=y2 % 6/\y2 % 6<6:=⟨L7 _ (by decide),Mc _ (by decide)⟩;have n6:0<=y2/6:=NU Wh (by decide);generalize y2/6=z6 at d6 n6;generalize y2 % 6=zm at m6 b6;have r6:dZ [.int (1+zm)]=lD (nZ (Me (1+zm).toNat)):=iH (by omega) (by omega);refine⟨_,rfl,?_⟩;refine aY (pv:= .fz (dU w)) (ρ3:=[lD (.fz (.list (xs.map .int))),lD (.ow (B.map wD)),lD (.fz (nd i)),lD (.fz (dU w)),t4,t5,t6]) (c9 (rv:= .fz (dU w)) (by walk_at "ev") rfl rfl en) rfl rfl ?_;refine aY (pv:= .ow []) (ρ3:=[lD (.fz (.list (xs.map .int))),lD (.ow (B.map wD)),lD (.fz (nd i)),lD (.fz (dU w)),lD (.ow []),t5,t6]) (by walk_at "evp") rfl rfl ?_;refine aY (pv:= .fz (.int z6)) (ρ3:=[lD (.fz (.list (xs.map .int))),lD (.ow (B.map wD)),lD (.fz (nd i)),lD (.fz (dU w)),lD (.ow []),lD (.fz (.int z6)),t6]) (by walk_at "evp") rfl rfl ?_;refine cN (fun j ρ=>∃(ss:List (List Int)) (r:Int) (t6:Option PV),ρ=[lD (.fz (.list (xs.map .int))),lD (.ow (B.map wD)),lD (.fz (nd i)),lD (.fz (dU w)),lD (.ow (ss.map kD)),lD (.fz (.int r)),t6]/\ss.length=j/\0<=r/\∀ks∈ss,ze ks=Lk/\ks.length<=12) (ds:=nZ (Me (1+zm).toNat)) (ρ1:=[lD (.fz (.list (xs.map .int))),lD (.ow (B.map wD)),lD (.fz (nd i)),lD (.fz (dU w)),lD (.ow []),lD (.fz (.int z6)),t6]) (by walk_at "ev") ⟨[],z6,t6,rfl,rfl,n6,fun ks h=>by cases h⟩ ?_ ?_
   ·rintro j d ρ hj ⟨ss,r,t6,rfl,VF,hr,Se⟩
    obtain⟨k,hk,rfl⟩:=eB hj;have hjl:j<(1+zm).toNat:=by have:=(Lj.mp hk).1;simpa using this
    have b4:0<=r % 4095/\r % 4095<4095:=⟨L7 _ (by decide),Mc _ (by decide)⟩;have m4:bq (.int r) (.int 4095)=lD (.fz (.int (r % 4095))):=bE (by decide);have d4:cm (.int r) (.int 4095)=lD (.fz (.int (r/4095))):=cL ⟨by decide,by decide⟩;have n4:0<=r/4095:=NU hr (by decide);obtain⟨ks,k1,k2,ek⟩:=se b4.1 b4.2;have hlen:(ss.map kD).length<1000000:=by rw[Lh];omega
    refine⟨_,rfl,?_⟩;refine qV (eV (d:=kD ks) (x:=[lD (.fz (.list (xs.map .int))),lD (.ow (B.map wD)),lD (.fz (nd i)),lD (.fz (dU w)),lD (.ow (ss.map kD++[kD ks])),lD (.fz (.int r)),lD (.fz (nd k))]) rfl (c9 (rv:= .fz (kD ks)) (by walk_at "ev") rfl rfl ek) rfl rfl hlen rfl) ?_;refine Bo (pv:= .fz (.int (r/4095))) (ρ3:=[lD (.fz (.list (xs.map .int))),lD (.ow (B.map wD)),lD (.fz (nd i)),lD (.fz (dU w)),lD (.ow (ss.map kD++[kD ks])),lD (.fz (.int (r/4095))),lD (.fz (nd k))]) (by walk_at "evp") rfl rfl ⟨ss++[ks],r/4095,_,by rw[LW];rfl,by rw[Ln,VF];rfl,n4,fun Zc SR=> ?_⟩;rcases LM.mp SR with z|z
    ·exact Se Zc z
    ·rw[Lx.mp z];exact⟨k1,k2⟩
   ·rintro ρ ⟨ss,r,t6,rfl,VF,hr,Se⟩
    rw[ff,L8] at VF;have VD:∀l∈B.map (·.1),∀c∈l,c<1114112:=fun l hl c hc=>by obtain⟨e,he,rfl⟩:=Lz.mp hl;have:=(hG e he).wd c hc;omega
    have nin:=D5 (w:=w) (fun c hc=>by have:=hw c hc;omega) VD;have cmp:kz (dC (gT 2 (nU (gN 0) (nU (gN 1) zg))) eE (ae 0) (B.map wD) [Ld,Ld] [])= .ok ((B.map (·.1)).map fun l=>Lg.str (tx l)):=by rw[Mq];refine p9 (fun ρ=>∃o p,ρ=[o,p]) B (by omega) ⟨Ld,Ld,rfl⟩ ?_;rintro e _ ρ ⟨o,p,rfl⟩;exact⟨_,G7 rfl rfl (af rfl) rfl rfl,_,_,rfl⟩
    have hlen:(B.map wD).length<1000000:=by rw[Lh];omega
    refine iZ (b:= !decide (w∈B.map (·.1))) (bp (dN (dx:= .str (tx w)) (dy:= .list ((B.map (·.1)).map fun l=>Lg.str (tx l))) (af rfl) (jT (ds:=B.map wD) rfl rfl cmp) rfl rfl nin) rfl) (fun q=> ?_) fun q=> ?_
    ·have q:w∉B.map (·.1):=by simpa using q
     refine dD (eV (d:=wD (w,ss)) (x:=[lD (.fz (.list (xs.map .int))),lD (.ow (B.map wD++[wD (w,ss)])),lD (.fz (nd i)),lD (.fz (dU w)),lD (.ow (ss.map kD)),lD (.fz (.int r)),t6]) rfl (cz (ds:=[dU w,.tuple (ss.map kD)]) (am (af rfl) (am (b7 (rv:= .fz (.tuple (ss.map kD))) (am (dA rfl) ay) rfl rfl) ay)) rfl (LV rfl)) rfl rfl hlen rfl) ⟨B++[(w,ss)],_,_,_,_,_,by rw[LW];rfl,by rw[Ln,Mx];omega,fun _=>by rw[Ln,Mx];omega,fun e he=> ?_,?_⟩
     ·rcases LM.mp he with z|z
      ·exact hG e z
      ·rw[Lx.mp z];exact⟨hw,w1,w8,by show 1<=ss.length;omega,by show ss.length<=6;omega,Se⟩
     ·rw[LW];exact Ej hN q
    ·refine ei ⟨B,_,_,_,_,_,rfl,by omega,fun _=> ?_,hG,hN⟩
     have q:w∈B.map (·.1):=by simpa using q
     have:=SK q;rw[Lh] at this;exact this
  ·rintro ρ ⟨B,t2,t3,t4,t5,t6,rfl,YY,ZJ,hG,hN⟩;rw[ff,L8] at YY ZJ;exact ci (pv:= .fz (bx B)) (b7 (rv:= .fz (bx B)) (am (dA rfl) ay) rfl rfl) rfl ⟨B,⟨ZJ (by omega),by omega,hG,hN⟩,rfl⟩)
 exact⟨B,hB,e⟩
theorem Jh {c:Int} (hc:0<=c) {s:Int} (h0:0<=s) (h4:s<4):∃x:Int,0<=x/\eO (.list [.int (c % 2),.int c,.int c,.int c]) (.int s)=lD (.fz (.int x)):=by
 obtain⟨n,rfl⟩:∃n:Nat,s=(n:Int):=⟨s.toNat,by omega⟩
 match n,h4 with
 |0,_=>exact⟨c % 2,L7 _ (by decide),C8 (i:=0) rfl⟩
 |1,_=>exact⟨c,hc,C8 (i:=1) rfl⟩
 |2,_=>exact⟨c,hc,C8 (i:=2) rfl⟩
 |3,_=>exact⟨c,hc,C8 (i:=3) rfl⟩
 |n+4,h=>omega
noncomputable abbrev KW:FS:=(aA (aR (cn dS 2 (aa (cn bS 2 (aa (cn bT 2 (aa (ae 0) (aa (aG bI (ae 1) (pC (.int 1))) aq))) (aa (pC (.int 2)) aq))) (aa (ae 4) aq))) (gN 6))
 (aA (aR (eG aq) (gN 7))
 (aA (dW (gK dZ (aa (ae 4) aq)) (gN 8) (aA (aR (cn bS 2 (aa (cn bT 2 (aa (ae 0) (aa (aG bI (aG bI (ae 1) (pC (.int 2))) (aG bq (ae 8) (pC (.int 6)))) aq))) (aa (aG bI (pC (.int 3)) (ae 8)) aq))) (gN 9))
 (aA (aR (eG aq) (gN 10))
 (aA (dW (gK dZ (aa (aG bI (pC (.int 1)) (aG bq (ae 9) (ae 5))) aq)) (gN 11) (aA (aR (aG cm (ae 9) (pC (.int 4))) (gN 9))
 (cH (fE 10 (cn cI 2 (aa (aG eO (eG (aa (aG bq (ae 9) (pC (.int 2))) (aa (ae 9) (aa (ae 9) (aa (ae 9) aq))))) (ae 3)) (aa (aG lA (ae 3) (pC (.int 1))) aq)))))))
 (cH (fE 7 (bW (aa (aG eO (ae 6) (ae 8)) (aa (gJ kr (aa (ae 10) aq)) aq)))))))))
 (cE (gJ kr (aa (ae 7) aq))))))
theorem za (ns:List Int) (SS:ns.length<=63) {a:Int} (ha:0<=a) {x2 so:Int} (hs0:0<=so) (hs4:so<4) {m:Nat} (hm1:1<=m) (hm:m<=20) {mo:Int} (hmo:1<=mo) (adN:mo<=6) {N C:aI->Prop}:
  Go (KW [lD (.fz (.list (ns.map .int))),lD (.fz (.int a)),lD (.fz (.int x2)),lD (.fz (.int so)),lD (.fz (nd m)),lD (.fz (.int mo)),Ld,Ld,Ld,Ld,Ld,Ld]) N C (fun v=>∃B,Bk B/\v= .fz (bx B)):=by
 obtain⟨c1,e1⟩:=qS ns (a+1) (by omega) SS;obtain⟨v1,hv1,ZI⟩:=rE c1 2 (by decide) (by decide);obtain⟨Nm,n1,n2,n3,en⟩:=Ac hv1 hm;have rm:=wS (n:=m) (by omega);have q1:lA (.int so) (.int 1)=lD (.fz (.bool (decide (so=1)))):=jd _ _;generalize hLD:Lg.list (ns.map Lg.int)=LD at*;refine aY (pv:= .ow (Nm.map dU)) (ρ3:=[lD (.fz LD),lD (.fz (.int a)),lD (.fz (.int x2)),lD (.fz (.int so)),lD (.fz (nd m)),lD (.fz (.int mo)),lD (.ow (Nm.map dU)),Ld,Ld,Ld,Ld,Ld]) (c9 (rv:= .ow (Nm.map dU)) (by walk_at "ev") rfl rfl en) rfl rfl ?_;refine aY (pv:= .ow []) (ρ3:=[lD (.fz LD),lD (.fz (.int a)),lD (.fz (.int x2)),lD (.fz (.int so)),lD (.fz (nd m)),lD (.fz (.int mo)),lD (.ow (Nm.map dU)),lD (.ow []),Ld,Ld,Ld,Ld]) (by walk_at "evp") rfl rfl ?_;refine cN (fun i ρ=>∃(B:List Wd) (t8 t9 Ze Um:Option PV),ρ=[lD (.fz LD),lD (.fz (.int a)),lD (.fz (.int x2)),lD (.fz (.int so)),lD (.fz (nd m)),lD (.fz (.int mo)),lD (.ow (Nm.map dU)),lD (.ow (B.map wD)),t8,t9,Ze,Um]/\B.map (·.1)=Nm.take i/\∀e∈B,GE e) (ds:=nZ (Me m)) (ρ1:=[lD (.fz LD),lD (.fz (.int a)),lD (.fz (.int x2)),lD (.fz (.int so)),lD (.fz (nd m)),lD (.fz (.int mo)),lD (.ow (Nm.map dU)),lD (.ow []),Ld,Ld,Ld,Ld]) (jX (ds:=[nd m]) (am (af rfl) ay) rfl rm) ⟨[],Ld,Ld,Ld,Ld,rfl,rfl,fun e h=>by cases h⟩ ?_ ?_
 ·rintro i d ρ hi ⟨B,t8,t9,Ze,Um,rfl,VD,hG⟩
  obtain⟨k,hk,rfl⟩:=eB hi;obtain⟨ZT,e⟩:=Lj.mp hk;rw[NR] at e;subst e;rw[L8] at ZT;have YY:B.length=i:=by have:=congrArg NP VD;rw[Lh,Ms] at this;omega
  have m6:bq (nd i) (.int 6)=lD (.fz (.int ((i:Int) % 6))):=bE (by decide);have b6:0<=(i:Int) % 6:=L7 _ (by decide);obtain⟨c2,e2⟩:=qS ns (a+2+(i:Int) % 6) (by omega) SS;rw[hLD] at e2;obtain⟨v2,hv2,Z8⟩:=rE c2 (3+(i:Int)) (by omega) (by omega);have mm:bq (.int v2) (.int mo)=lD (.fz (.int (v2 % mo))):=bE (by omega);have bm:0<=v2 % mo/\v2 % mo<mo:=⟨L7 _ (by omega),Mc _ (by omega)⟩;generalize v2 % mo=vm at mm bm;have r6:dZ [.int (1+vm)]=lD (nZ (Me (1+vm).toNat)):=iH (by omega) (by omega);have hNi:i<Nm.length:=by omega
  have ixn:eO (.list (Nm.map dU)) (nd i)=lD (.fz (dU Nm[i])):=C8 (by rw[Ls,LB hNi];rfl);have hw:=n3 _ (Nv hNi);have tk:Nm.take (i+1)=Nm.take i++[Nm[i]]:=by rw[List.take_succ,LB hNi];rfl
  generalize Nm[i]=w at ixn hw tk;refine⟨_,rfl,?_⟩;refine aY (pv:= .fz (.int v2)) (ρ3:=[lD (.fz LD),lD (.fz (.int a)),lD (.fz (.int x2)),lD (.fz (.int so)),lD (.fz (nd m)),lD (.fz (.int mo)),lD (.ow (Nm.map dU)),lD (.ow (B.map wD)),lD (.fz (nd i)),lD (.fz (.int v2)),Ze,Um]) (c9 (rv:= .fz (.int v2)) (by walk_at "ev") rfl rfl Z8) rfl rfl ?_;refine aY (pv:= .ow []) (ρ3:=[lD (.fz LD),lD (.fz (.int a)),lD (.fz (.int x2)),lD (.fz (.int so)),lD (.fz (nd m)),lD (.fz (.int mo)),lD (.ow (Nm.map dU)),lD (.ow (B.map wD)),lD (.fz (nd i)),lD (.fz (.int v2)),lD (.ow []),Um]) (by walk_at "evp") rfl rfl ?_;refine cN (fun j ρ=>∃(ss:List (List Int)) (r:Int) (Um:Option PV),ρ=[lD (.fz LD),lD (.fz (.int a)),lD (.fz (.int x2)),lD (.fz (.int so)),lD (.fz (nd m)),lD (.fz (.int mo)),lD (.ow (Nm.map dU)),lD (.ow (B.map wD)),lD (.fz (nd i)),lD (.fz (.int r)),lD (.ow (ss.map kD)),Um]/\ss.length=j/\0<=r/\∀ks∈ss,ze ks=Lk/\ks.length<=12) (ds:=nZ (Me (1+vm).toNat)) (ρ1:=[lD (.fz LD),lD (.fz (.int a)),lD (.fz (.int x2)),lD (.fz (.int so)),lD (.fz (nd m)),lD (.fz (.int mo)),lD (.ow (Nm.map dU)),lD (.ow (B.map wD)),lD (.fz (nd i)),lD (.fz (.int v2)),lD (.ow []),Um]) (by walk_at "ev") ⟨[],v2,Um,rfl,rfl,hv2,fun ks h=>by cases h⟩ ?_ ?_
  ·rintro j d ρ hj ⟨ss,r,Um,rfl,VF,hr,Se⟩
   obtain⟨k,hk,rfl⟩:=eB hj;have hjl:j<(1+vm).toNat:=by have:=(Lj.mp hk).1;simpa using this
   have d4:cm (.int r) (.int 4)=lD (.fz (.int (r/4))):=cL ⟨by decide,by decide⟩;have n4:0<=r/4:=NU hr (by decide);generalize r/4=r4 at d4 n4;have m2:bq (.int r4) (.int 2)=lD (.fz (.int (r4 % 2))):=bE (by decide);obtain⟨px,hpx,ixp⟩:=Jh n4 hs0 hs4;obtain⟨ks,k1,k2,ek⟩:=yO hpx (decide (so=1));have hlen:(ss.map kD).length<1000000:=by rw[Lh];omega
   refine⟨_,rfl,?_⟩;refine aY (pv:= .fz (.int r4)) (ρ3:=[lD (.fz LD),lD (.fz (.int a)),lD (.fz (.int x2)),lD (.fz (.int so)),lD (.fz (nd m)),lD (.fz (.int mo)),lD (.ow (Nm.map dU)),lD (.ow (B.map wD)),lD (.fz (nd i)),lD (.fz (.int r4)),lD (.ow (ss.map kD)),lD (.fz (nd k))]) (by walk_at "evp") rfl rfl ?_;refine dD (eV (d:=kD ks) (x:=[lD (.fz LD),lD (.fz (.int a)),lD (.fz (.int x2)),lD (.fz (.int so)),lD (.fz (nd m)),lD (.fz (.int mo)),lD (.ow (Nm.map dU)),lD (.ow (B.map wD)),lD (.fz (nd i)),lD (.fz (.int r4)),lD (.ow (ss.map kD++[kD ks])),lD (.fz (nd k))]) rfl (c9 (ds:=[.int px,.bool (decide (so=1))]) (rv:= .fz (kD ks)) (am (aZ (rv:= .fz (.int px)) (Av (ds:=[.int (r4 % 2),.int r4,.int r4,.int r4]) (by walk_at "ev") rfl (LV rfl)) (af rfl) rfl rfl ixp) (am (dN (dx:= .int so) (dy:= .int 1) (af rfl) cR rfl rfl q1) ay)) rfl rfl ek) rfl rfl hlen rfl) ⟨ss++[ks],r4,_,by rw[LW];rfl,by rw[Ln,VF];rfl,n4,fun Zc SR=> ?_⟩;rcases LM.mp SR with z|z
   ·exact Se Zc z
   ·rw[Lx.mp z];exact⟨k1,k2⟩
  ·rintro ρ ⟨ss,r,Um,rfl,VF,hr,Se⟩
   rw[ff,L8] at VF;have hlen:(B.map wD).length<1000000:=by rw[Lh];omega
   refine dD (eV (d:=wD (w,ss)) (x:=[lD (.fz LD),lD (.fz (.int a)),lD (.fz (.int x2)),lD (.fz (.int so)),lD (.fz (nd m)),lD (.fz (.int mo)),lD (.ow (Nm.map dU)),lD (.ow (B.map wD++[wD (w,ss)])),lD (.fz (nd i)),lD (.fz (.int r)),lD (.ow (ss.map kD)),Um]) rfl (cz (ds:=[dU w,.tuple (ss.map kD)]) (am (aZ (rv:= .fz (dU w)) (dA rfl) (af rfl) rfl rfl ixn) (am (b7 (rv:= .fz (.tuple (ss.map kD))) (am (dA rfl) ay) rfl rfl) ay)) rfl (LV rfl)) rfl rfl hlen rfl) ⟨B++[(w,ss)],_,_,_,_,by rw[LW];rfl,by rw[LW,VD,tk];rfl,fun e he=> ?_⟩;rcases LM.mp he with z|z
   ·exact hG e z
   ·rw[Lx.mp z];exact⟨hw.1,hw.2.1,hw.2.2,by show 1<=ss.length;omega,by show ss.length<=6;omega,Se⟩
 ·rintro ρ ⟨B,t8,t9,Ze,Um,rfl,VD,hG⟩
  rw[ff,L8] at VD;have VD:B.map (·.1)=Nm:=by rw[VD,<-n1,M7]
  have YY:B.length=m:=by have:=congrArg NP VD;rw[Lh] at this;omega
  exact ci (pv:= .fz (bx B)) (b7 (rv:= .fz (bx B)) (am (dA rfl) ay) rfl rfl) rfl ⟨B,⟨by omega,by omega,hG,by rw[VD];exact n2⟩,rfl⟩
theorem Ep (ns:List Int) (SS:ns.length<=63) {a:Int} (ha:0<=a):∃B,Bk B/\fP [.list (ns.map .int),.int a]= .ok (.fz (bx B)):=by
 obtain⟨c0,e0⟩:=qS ns a ha SS;obtain⟨xs,x1,x2,ex⟩:=yp c0;obtain⟨B0,hB0,eb0⟩:=pH xs x1 x2;obtain⟨v0,hv0,ev0⟩:=rE c0 1 (by decide) (by decide);have p18:=z9;have d6:cm (.int v0) (.int 6)=lD (.fz (.int (v0/6))):=cL ⟨by decide,by decide⟩;have m4:bq (.int (v0/6)) (.int 4)=lD (.fz (.int (v0/6 % 4))):=bE (by decide);have b4:0<=v0/6 % 4/\v0/6 % 4<4:=⟨L7 _ (by decide),Mc _ (by decide)⟩;generalize v0/6 % 4=so at m4 b4;have m6:bq (.int v0) (.int 6)=lD (.fz (.int (v0 % 6))):=bE (by decide);have b6:0<=v0 % 6/\v0 % 6<6:=⟨L7 _ (by decide),Mc _ (by decide)⟩;generalize v0 % 6=v6 at m6 b6;have d24:cm (.int v0) (.int 24)=lD (.fz (.int (v0/24))):=cL ⟨by decide,by decide⟩;have m8:bq (.int (v0/24)) (.int 8)=lD (.fz (.int (v0/24 % 8))):=bE (by decide);have q8:lA (.int (v0/24 % 8)) (.int 3)=lD (.fz (.bool (decide (v0/24 % 8=3)))):=jd _ _;generalize v0/24 % 8=v8 at m8 q8;have acg:cm (.int v0) (.int 192)=lD (.fz (.int (v0/192))):=cL ⟨by decide,by decide⟩;have m9:bq (.int (v0/192)) (.int 9)=lD (.fz (.int (v0/192 % 9))):=bE (by decide);have b9:0<=v0/192 % 9/\v0/192 % 9<9:=⟨L7 _ (by decide),Mc _ (by decide)⟩;generalize v0/192 % 9=v9 at m9 b9;have f1:(Lg.int (1+v6))=nd (1+v6).toNat:=by show Lg.int _= .int _;congr 1;omega
 have f2:(Lg.int (12+v9))=nd (12+v9).toNat:=by show Lg.int _= .int _;congr 1;omega
 obtain⟨rv,e,B,hB,rfl⟩:=ik (ds:=[.list (ns.map .int),.int a]) (ρ:=[lD (.fz (.list (ns.map .int))),lD (.fz (.int a)),Ld,Ld,Ld,Ld,Ld,Ld,Ld,Ld,Ld,Ld]) (n:=12) (g:=gc) (T:=fun v=>∃B,Bk B/\v= .fz (bx B)) rfl (by
  unfold gc;have tl:=fun(x2 mo:Int) (m:Nat) (h1:1<=m) (h2:m<=20) (h3:1<=mo) (h4:mo<=6)=>za ns SS ha (x2:=x2) b4.1 b4.2 h1 h2 h3 h4 (N:=fun _=>∃B,Bk B/\RV.fz Lg.none= .fz (bx B)) (C:=fun _=>False);refine aY (pv:= .fz (.int c0)) (ρ3:=[lD (.fz (.list (ns.map .int))),lD (.fz (.int a)),lD (.fz (.int c0)),Ld,Ld,Ld,Ld,Ld,Ld,Ld,Ld,Ld]) (c9 (rv:= .fz (.int c0)) (by walk_at "ev") rfl rfl e0) rfl rfl ?_;refine jr (by walk_at "ev") (fun _=> ?_) fun _=>cU ?_
  ·exact nv (pv:= .fz (bx B0)) (c9 (ds:=[.list (xs.map .int)]) (rv:= .fz (bx B0)) (am (c9 (rv:= .ow (xs.map .int)) (by walk_at "ev") rfl rfl ex) ay) rfl rfl eb0) rfl ⟨B0,hB0,rfl⟩
  refine aY (pv:= .fz (.int v0)) (ρ3:=[lD (.fz (.list (ns.map .int))),lD (.fz (.int a)),lD (.fz (.int v0)),Ld,Ld,Ld,Ld,Ld,Ld,Ld,Ld,Ld]) (c9 (rv:= .fz (.int v0)) (by walk_at "ev") rfl rfl ev0) rfl rfl ?_;refine aY (pv:= .fz (.int so)) (ρ3:=[lD (.fz (.list (ns.map .int))),lD (.fz (.int a)),lD (.fz (.int v0)),lD (.fz (.int so)),Ld,Ld,Ld,Ld,Ld,Ld,Ld,Ld]) (by walk_at "evp") rfl rfl ?_;refine aY (pv:= .fz (.int (1+v6))) (ρ3:=[lD (.fz (.list (ns.map .int))),lD (.fz (.int a)),lD (.fz (.int v0)),lD (.fz (.int so)),lD (.fz (.int (1+v6))),Ld,Ld,Ld,Ld,Ld,Ld,Ld]) (by walk_at "evp") rfl rfl ?_;refine aY (pv:= .fz (.int 4)) (ρ3:=[lD (.fz (.list (ns.map .int))),lD (.fz (.int a)),lD (.fz (.int v0)),lD (.fz (.int so)),lD (.fz (.int (1+v6))),lD (.fz (.int 4)),Ld,Ld,Ld,Ld,Ld,Ld]) (by walk_at "evp") rfl rfl ?_;refine jr (by walk_at "ev") (fun _=> ?_) fun _=>cU ?_
  ·refine Bj ?_;refine aY (pv:= .fz (.int (12+v9))) (ρ3:=[lD (.fz (.list (ns.map .int))),lD (.fz (.int a)),lD (.fz (.int v0)),lD (.fz (.int so)),lD (.fz (.int (12+v9))),lD (.fz (.int 4)),Ld,Ld,Ld,Ld,Ld,Ld]) (by walk_at "evp") rfl rfl ?_;refine aY (pv:= .fz (.int 6)) (ρ3:=[lD (.fz (.list (ns.map .int))),lD (.fz (.int a)),lD (.fz (.int v0)),lD (.fz (.int so)),lD (.fz (.int (12+v9))),lD (.fz (.int 6)),Ld,Ld,Ld,Ld,Ld,Ld]) (by walk_at "evp") rfl rfl ?_;rw[f2];exact tl _ 6 _ (by omega) (by omega) (by decide) (by decide)
  ·rw[f1];exact tl _ 4 _ (by omega) (by omega) (by decide) (by decide))
 exact⟨B,hB,e⟩
theorem Hz (xs ys:List D) (h:xs.length+ys.length<=1000):AH (.tuple xs) (.tuple ys)=lD (.fz (.tuple (xs++ys))):=by
 cases xs with
 |nil=>rfl
 |cons x r=>show(if x::r≠[]/\(x::r).length+ys.length<=1000000 then lD (RV.fz (.tuple (x::r++ys))) else Ld)=_;rw[if_pos ⟨List.cons_ne_nil x r,by omega⟩]
theorem uF (xs:List D) (p:Nat):mE (.tuple xs) Ld (lD (p:Int))=lD (.fz (.tuple (xs.take p))):=by show lD (RV.fz (.tuple (iq xs Ld (lD (p:Int)))))=_;unfold iq;rw[HT.sIx_none,Wa,HT.sIx_nat,XH];congr 3;rw[List.take_eq_take_iff];omega
theorem ur (xs:List D) (p:Nat):mE (.tuple xs) (lD (p:Int)) Ld=lD (.fz (.tuple (xs.drop p))):=by
 show lD (RV.fz (.tuple (iq xs (lD (p:Int)) Ld)))=_;unfold iq;rw[HT.sIx_none,HT.sIx_nat];congr 3;by_cases h:p<=xs.length
 ·rw[RA h,MX (by rw[M6];exact Ll _)]
 ·rw[Q9 (by omega),QZ,Pa,List.drop_of_length_le (by omega)]
noncomputable def sD (ss:List (List Int)):D:= .tuple (ss.map kD)
noncomputable def tD (w:List Nat):D:= .str (tx w)
theorem pX:∀a b:List (List Int),Lg.eqvAll (a.map kD) (b.map kD)=decide (a=b)
 |[],[]=>rfl
 |[],_::_=>rfl
 |_::_,[]=>rfl
 |x::r,y::t=>by
  show(Lg.eqvAll (x.map Lg.int) (y.map Lg.int)&&Lg.eqvAll (r.map kD) (t.map kD))=_;rw[F3,pX r t];by_cases h1:x=y
  ·by_cases h2:r=t
   ·rw[decide_eq_true h1,decide_eq_true h2,decide_eq_true (by rw[h1,h2])];rfl
   ·rw[decide_eq_false h2,decide_eq_false (fun z=>h2 (OZ z).2),V9]
  ·rw[decide_eq_false h1,decide_eq_false (fun z=>h1 (OZ z).1)];rfl
theorem FJ (a b:List (List Int)):(C7 (sD a)&&(sD b).canLay0)=Lk:=by show((Lg.canLayAll0 (a.map kD)&&decide (Lg.depthAll (a.map kD)+1<=64))&&Lg.canLayAll0 (b.map kD))=Lk;have:=iX a;rw[kQ,kQ,decide_eq_true (by omega)];rfl
theorem mO (a b:List (List Int)):lA (sD a) (sD b)=lD (.fz (.bool (decide (a=b)))):=by unfold lA;rw[if_pos (FJ a b),show Lg.eqv (sD a) (sD b)=_ from pX a b]
theorem HM (a b:List (List Int)):Ct (sD a) (sD b)=lD (.fz (.bool (!decide (a=b)))):=by unfold Ct;rw[if_pos (FJ a b),show Lg.eqv (sD a) (sD b)=_ from pX a b]
theorem gv (a:List (List Int)):dw [sD a]=lD (.fz (nd a.length)):=by show lD (RV.fz (.int ((a.map kD).length:Int)))=_;rw[Lh]
theorem Kd {α:Type} (xs:List α) (p q:Nat) (h:p<=q):(xs.drop (min p xs.length)).take (min q xs.length - min p xs.length)=(xs.drop p).take (q - p):=by
 by_cases h1:p<xs.length
 ·rw[RA (MU h1)]
  by_cases h2:q<=xs.length
  ·rw[RA h2]
  ·rw[Q9 (by omega),MX (l:=xs.drop p) (by rw[M6];omega),MX (by rw[M6];omega)]
 ·rw[Q9 (a:=p) (by omega),Nb (Ll _),Nb (by omega),Ww,Ww]
theorem KS (a:List (List Int)) (p q:Nat) (h:p<=q):mE (sD a) (lD (p:Int)) (lD (q:Int))=lD (.fz (sD ((a.drop p).take (q - p)))):=by show lD (RV.fz (.tuple (iq (a.map kD) (lD (p:Int)) (lD (q:Int)))))=_;unfold iq;rw[HT.sIx_nat,HT.sIx_nat,Kd _ _ _ h,<-QA,<-Pz];rfl
noncomputable def jn:List Wd->List Nat->Option (List (List Int))
 |[],_=>Ld
 |e::r,w=>if e.1=w then lD e.2 else jn r w
theorem Ip (e:Wd) (r:List Wd) (w:List Nat):jn (e::r) w=if e.1=w then lD e.2 else jn r w:=rfl
noncomputable def wr (B:List Wd) (ws:List (List Nat)):List (List Int):=(ws.map fun w=>(jn B w).getD []).flatten
theorem mM:∀{B:List Wd} {w:List Nat} {s:List (List Int)},jn B w=lD s->(w,s)∈B
 |e::r,w,s,h=>by
  unfold jn at h;by_cases q:e.1=w
  ·rw[if_pos q] at h;cases h;rw[<-q];exact LG
  ·rw[if_neg q] at h;exact Ly _ (mM h)
theorem lV:∀{B:List Wd} {e:Wd},(B.map (·.1)).Nodup->e∈B->jn B e.1=lD e.2
 |a::r,e,hn,h=>by
  rw[Lo,MJ] at hn;unfold jn;rcases LN.mp h with h|h
  ·subst h;rw[if_pos rfl]
  ·rw[if_neg (fun z=>hn.1 (by rw[z];exact Lz.mpr ⟨e,h,rfl⟩))];exact lV hn.2 h
theorem yC:∀{B:List Wd} {w:List Nat},w∉B.map (·.1)->jn B w=Ld
 |[],_,_=>rfl
 |a::r,w,h=>by rw[Lo,LN,not_or] at h;unfold jn;rw[if_neg (fun z=>h.1 z.symm)];exact yC h.2
theorem Dg {B:List Wd} {w:List Nat} (h:w∈B.map (·.1)):∃s,jn B w=lD s:=by
 cases q:jn B w with
 |some s=>exact⟨s,rfl⟩
 |none=>
  exfalso;revert h q
  induction B with
  |nil=>intro h;simp at h
  |cons a r ih=>
   intro h q;unfold jn at q;by_cases z:a.1=w
   ·rw[if_pos z] at q;cases q
   ·rw[if_neg z] at q;rw[Lo,LN] at h;exact ih (h.resolve_left fun y=>z y.symm) q
theorem Ai (B:List Wd):wr B []=[]:=rfl
theorem Dt (B:List Wd) (ws:List (List Nat)) (w:List Nat):wr B (ws++[w])=wr B ws++(jn B w).getD []:=by unfold wr;rw[LW,List.flatten_append,List.map_singleton,List.flatten_singleton]
theorem lU (B:List Wd) (ws:List (List Nat)) (w:List Nat):wr B (w::ws)=(jn B w).getD []++wr B ws:=rfl
def JA (B:List Wd) (ws:List (List Nat)):Prop:=∀w∈ws,w∈B.map (·.1)
structure BB (B:List Wd):Prop where
 SN:B.length<=20
 nd:(B.map (·.1)).Nodup
 s1:∀e∈B,1<=e.2.length
 s6:∀e∈B,e.2.length<=6
 wc:∀e∈B,∀c∈e.1,c<1114112
theorem Bk.bb {B:List Wd} (h:Bk B):BB B:=⟨h.SN,h.nd,fun e he=>(h.ge e he).s1,fun e he=>(h.ge e he).s6,fun e he c hc=>by have:=(h.ge e he).wd c hc;omega⟩
theorem BB.rev {B:List Wd} (h:BB B):BB B.reverse:=⟨by rw[Od];exact h.SN,by rw[Vp];exact(List.pairwise_reverse.mpr (h.nd.imp fun z y=>z y.symm)),fun e he=>h.s1 e (PU.mp he),fun e he=>h.s6 e (PU.mp he),fun e he=>h.wc e (PU.mp he)⟩
theorem G6 {B:List Wd} (h:BB B):∀ws:List (List Nat),(wr B ws).length<=6*ws.length
 |[]=>Mr _
 |w::r=>by
  rw[lU,Ln,Lu];have ih:=G6 h r;cases q:jn B w with
  |none=>show 0+_<=_;omega
  |some s=>have:s.length<=6:=h.s6 _ (mM q);show s.length+_<=_;omega
abbrev Rs:=List (List Int)
structure Wy where
 p:Nat
 r:Rs
 lo:List (List Nat)
 sh:List (List Nat)
noncomputable def bg (a b:Rs):Bool:=decide (b.take a.length=a)
noncomputable def a9 (e f:Wd):Option Wy:=if e.1≠f.1/\bg e.2 f.2=Lk then lD ⟨f.2.length,f.2.drop e.2.length,[f.1],[e.1]⟩ else Ld
noncomputable def bN (B:List Wd):List Wy:=B.flatMap fun e=>B.filterMap (a9 e)
noncomputable def nx (w:Wy) (e:Wd):Option Wy:=if bg e.2 w.r=Lk then lD ⟨w.p,w.r.drop e.2.length,w.lo,w.sh++[e.1]⟩ else if bg w.r e.2=Lk then lD ⟨w.p+(e.2.drop w.r.length).length,e.2.drop w.r.length,w.sh++[e.1],w.lo⟩ else Ld
noncomputable def c8 (B:List Wd) (w:Wy):List Wy:=if w.r=[] then[] else B.filterMap (nx w)
theorem kL {a b:Rs}:bg a b=Lk↔∃c,b=a++c:=by
 unfold bg;rw[decide_eq_true_iff];constructor
 ·intro h;exact⟨b.drop a.length,by have:=OE a.length b;rw[h] at this;exact this.symm⟩
 ·rintro⟨c,rfl⟩;simp
noncomputable def bD (w:Wy):D:= .tuple [nd w.p,sD w.r,.tuple (w.lo.map tD),.tuple (w.sh.map tD)]
theorem vV:∀a b:List Int,∃r,LD.Nu (a.map Lg.int) (b.map Lg.int)=lD r
 |[],[]=>⟨_,by rw[LY,LD.Nu]⟩
 |[],_::_=>⟨_,by rw[LY,Lo,LD.Nu]⟩
 |_::_,[]=>⟨_,by rw[LY,Lo,LD.Nu]⟩
 |x::a,y::b=>by
  obtain⟨r,h⟩:=vV a b;rw[Lo,Lo,LD.Nu];split
  ·exact⟨r,h⟩
  ·exact⟨_,by rw[LD.Ot]⟩
theorem Fx:∀a b:Rs,∃r,LD.Nu (a.map kD) (b.map kD)=lD r
 |[],[]=>⟨_,by rw[LY,LD.Nu]⟩
 |[],_::_=>⟨_,by rw[LY,Lo,LD.Nu]⟩
 |_::_,[]=>⟨_,by rw[LY,Lo,LD.Nu]⟩
 |x::a,y::b=>by
  obtain⟨r,h⟩:=Fx a b;rw[Lo,Lo,LD.Nu];split
  ·exact⟨r,h⟩
  ·obtain⟨q,hq⟩:=vV x y;exact⟨q,by unfold kD;rw[LD.Ot];exact hq⟩
theorem uY:∀a b:List (List Nat),∃r,LD.Nu (a.map tD) (b.map tD)=lD r
 |[],[]=>⟨_,by rw[LY,LD.Nu]⟩
 |[],_::_=>⟨_,by rw[LY,Lo,LD.Nu]⟩
 |_::_,[]=>⟨_,by rw[LY,Lo,LD.Nu]⟩
 |x::a,y::b=>by
  obtain⟨r,h⟩:=uY a b;rw[Lo,Lo,LD.Nu];split
  ·exact⟨r,h⟩
  ·exact⟨_,by unfold tD;rw[LD.Ot]⟩
theorem BQ (a b:Wy):∃r,LD.Ot (bD a) (bD b)=lD r/\(r=Lk->a.p<=b.p)/\(r=Lw->b.p<=a.p):=by
 unfold bD;rw[LD.Ot,LD.Nu];by_cases e:a.p=b.p
 ·rw[e]
  have:Lg.eqv (nd b.p) (nd b.p)=Lk:=by unfold nd;rw[Lg.eqv];simp
  rw[if_pos this];have rest:∃r,LD.Nu [sD a.r,.tuple (a.lo.map tD),.tuple (a.sh.map tD)] [sD b.r,.tuple (b.lo.map tD),.tuple (b.sh.map tD)]=lD r:=by
   rw[LD.Nu];split
   ·rw[LD.Nu]
    split
    ·rw[LD.Nu]
     split
     ·exact⟨_,by rw[LD.Nu]⟩
     ·rw[LD.Ot];exact uY _ _
    ·rw[LD.Ot];exact uY _ _
   ·unfold sD;rw[LD.Ot];exact Fx _ _
  obtain⟨r,h⟩:=rest;exact⟨r,h,fun _=>Ll _,fun _=>Ll _⟩
 ·have:¬Lg.eqv (nd a.p) (nd b.p)=Lk:=by unfold nd;rw[Lg.eqv];simp;omega
  rw[if_neg this];refine⟨decide ((a.p:Int)<b.p),by unfold nd;rw[LD.Ot],fun h=> ?_,fun h=> ?_⟩
  ·have:=of_decide_eq_true h;omega
  ·have:=of_decide_eq_false h;omega
noncomputable def km (a b:Wy):Wy:=if LD.Ot (bD b) (bD a)=lD Lk then b else a
theorem xD (a b:Wy):km a b=a\/km a b=b:=by unfold km;split<;>simp
theorem wt (a b:Wy):(km a b).p<=a.p/\(km a b).p<=b.p:=by
 obtain⟨r,h,h1,h2⟩:=BQ b a;unfold km;rw[h];cases r with
 |true=>rw[if_pos rfl];exact⟨h1 rfl,Ll _⟩
 |false=>rw[if_neg (by simp)];exact⟨Ll _,h2 rfl⟩
abbrev Mp:=List (Rs×Wy)
noncomputable def jy (M:Mp) (r:Rs):Option Wy:=(M.find? fun q=>decide (q.1=r)).map (·.2)
noncomputable def jw (M:Mp) (r:Rs) (w:Wy):Mp:=if(M.find? fun q=>decide (q.1=r)).isSome=Lk then M.map (fun q=>if q.1=r then(q.1,w) else q) else M++[(r,w)]
noncomputable def fU (M:Mp) (r:Rs):Mp:=M.filter fun q=> !decide (q.1=r)
def Gt (M:Mp) (r:Rs) (p:Nat):Prop:=∃q∈M,q.1=r/\q.2.p<=p
noncomputable def jv (O:Mp) (w:Wy):Mp:=jw O w.r (km w ((jy O w.r).getD w))
theorem kj {M:Mp} {r:Rs} {w:Wy} (h:jy M r=lD w):(r,w)∈M:=by unfold jy at h;obtain⟨q,h1,h2⟩:=Mo.mp h;have h3:=VL h1;have h4:=RT h1;have h5:q.1=r:=of_decide_eq_true h3;obtain⟨q1,q2⟩:=q;dsimp only at h2 h5;subst h2 h5;exact h4
theorem yU {M:Mp} {r:Rs} (h:(M.find? fun q=>decide (q.1=r)).isSome≠Lk):∀q∈M,q.1≠r:=fun q hq e=>h (by rw[NY];exact⟨q,hq,decide_eq_true e⟩)
theorem Eo {M:Mp} {r:Rs} {w:Wy} {q:Rs×Wy} (h:q∈jw M r w):q=(r,w)\/(q∈M/\q.1≠r):=by
 unfold jw at h;split at h
 ·obtain⟨z,hz,e⟩:=Lz.mp h
  by_cases k:z.1=r
  ·rw[if_pos k] at e;subst e;exact .inl (by rw[k])
  ·rw[if_neg k] at e;subst e;exact .inr ⟨hz,k⟩
 ·rename_i hn
  rcases LM.mp h with h|h
  ·exact .inr ⟨h,yU hn q h⟩
  ·exact .inl (Lx.mp h)
theorem qh {M:Mp} {r:Rs} {w:Wy}:(r,w)∈jw M r w/\∀q∈M,q.1≠r->q∈jw M r w:=by
 unfold jw;split
 ·rename_i h;rw[NY] at h;obtain⟨z,hz,e⟩:=h;have e:=of_decide_eq_true e;exact⟨Lz.mpr ⟨z,hz,by rw[if_pos e,e]⟩,fun q hq k=>Lz.mpr ⟨q,hq,by rw[if_neg k]⟩⟩
 ·exact⟨LO _ (Lx.mpr rfl),fun q hq _=>Mm _ hq⟩
theorem Cz (M:Mp) (r:Rs) (w:Wy):(jw M r w).map (·.1)=if r∈M.map (·.1) then M.map (·.1) else M.map (·.1)++[r]:=by
 unfold jw;have hk:(M.find? fun q=>decide (q.1=r)).isSome=Lk↔r∈M.map (·.1):=by rw[NY,Lz];exact⟨fun⟨q,h1,h2⟩=>⟨q,h1,of_decide_eq_true h2⟩,fun⟨q,h1,h2⟩=>⟨q,h1,decide_eq_true h2⟩⟩
 by_cases h:r∈M.map (·.1)
 ·rw[if_pos (hk.mpr h),if_pos h,Mq];apply Qw;intro q _;show(if q.1=r then(q.1,w) else q).1=q.1;split<;>rfl
 ·rw[if_neg (fun z=>h (hk.mp z)),if_neg h,LW];rfl
theorem Gh {M:Mp} {r:Rs} {w:Wy} (h:(M.map (·.1)).Nodup):((jw M r w).map (·.1)).Nodup:=by
 rw[Cz];split
 ·exact h
 ·rename_i hn;exact Ou.mpr ⟨h,MJ.mpr ⟨PR,N9⟩,fun a ha b hb e=>hn (by rw[<-Lx.mp hb,<-e];exact ha)⟩
theorem DK {M:Mp} {r:Rs} {w:Wy} (h:r∉M.map (·.1)):jw M r w=M++[(r,w)]:=by unfold jw;rw[if_neg];rw[NY];rintro⟨q,h1,h2⟩;exact h (Lz.mpr ⟨q,h1,of_decide_eq_true h2⟩)
theorem uT {M:Mp} (h:(M.map (·.1)).Nodup) {a b:Rs×Wy} (ha:a∈M) (hb:b∈M) (e:a.1=b.1):a=b:=by
 induction M with
 |nil=>cases ha
 |cons c r ih=>
  rw[Lo,MJ] at h;rcases LN.mp ha with ka|ka<;>rcases LN.mp hb with kb|kb
  ·rw[ka,kb]
  ·exact absurd (Lz.mpr ⟨b,kb,by rw[<-e,ka]⟩) h.1
  ·exact absurd (Lz.mpr ⟨a,ka,by rw[e,kb]⟩) h.1
  ·exact ih h.2 ka kb
structure Vw (B:List Wd) (q:Rs×Wy):Prop where
 k:q.2.r=q.1
 p:q.2.p=(wr B q.2.lo).length
 i:JA B q.2.lo
 j:JA B q.2.sh
 s:∃e∈B,∃c,e.2=c++q.1
 e:wr B q.2.lo=wr B q.2.sh++q.1
 n:q.2.lo≠[]/\q.2.sh≠[]
structure Iv (B:List Wd) (W O:Mp):Prop where
 wk:∀q∈W,Vw B q
 ok:∀q∈O,Vw B q
 wn:(W.map (·.1)).Nodup
 on:(O.map (·.1)).Nodup
 dj:∀a∈W,∀b∈O,a.1≠b.1
 le:∀a∈W,∀b∈O,a.2.p<=b.2.p
theorem GR {O:Mp} {w:Wy} (hn:(O.map (·.1)).Nodup):Gt (jv O w) w.r w.p/\∀r p,Gt O r p->Gt (jv O w) r p:=by
 unfold jv;refine⟨⟨_,qh.1,rfl,(wt _ _).1⟩,?_⟩;rintro r p ⟨q,hq,rfl,hp⟩;by_cases e:q.1=w.r
 ·refine⟨_,qh.1,e.symm,?_⟩
  cases g:jy O w.r with
  |none=>exfalso;unfold jy at g;rw[Option.map_eq_none_iff,List.find?_eq_none] at g;exact g q hq (decide_eq_true e)
  |some z=>have:=uT hn hq (kj g) e;subst this;exact LF (wt _ _).2 hp
 ·exact⟨q,qh.2 q hq e,rfl,hp⟩
theorem jQ {O:Mp} {w:Wy} {q:Rs×Wy} (h:q∈jv O w):q=(w.r,w)\/q∈O:=by
 unfold jv at h;rcases Eo h with h|h
 ·cases g:jy O w.r with
  |none=>
   rw[g] at h;have:km w (Option.getD (Ld:Option Wy) w)=w:=by rcases xD w w with z|z<;>exact z
   rw[this] at h;exact .inl h
  |some z=>
   rw[g] at h;have:km w ((lD z:Option Wy).getD w)=w\/km w ((lD z:Option Wy).getD w)=z:=xD w z;rcases this with e|e
   ·rw[e] at h;exact .inl h
   ·rw[e] at h;subst h;exact .inr (kj g)
 ·exact .inr h.1
noncomputable def gi (O:Mp) (ws:List Wy):Mp:=ws.foldl jv O
theorem rF {B:List Wd} {W:Mp}:∀{ws:List Wy} {O:Mp},Iv B W O->(∀w∈ws,Vw B (w.r,w)/\(∀a∈W,a.1≠w.r)/\∀a∈W,a.2.p<=w.p)->Iv B W (gi O ws)/\(∀w∈ws,Gt (gi O ws) w.r w.p)/\∀r p,Gt O r p->Gt (gi O ws) r p
 |[],O,h,_=>⟨h,fun _ z=>(by cases z),fun _ _ z=>z⟩
 |w::ws,O,h,g=>by
  obtain⟨g1,g2,g3⟩:=g w (LG ..);have iv:Iv B W (jv O w):=by
   refine⟨h.wk,fun q hq=> ?_,h.wn,Gh h.on,fun a ha b hb=> ?_,fun a ha b hb=> ?_⟩
   ·rcases jQ hq with e|e
    ·subst e;exact g1
    ·exact h.ok q e
   ·rcases jQ hb with e|e
    ·subst e;exact g2 a ha
    ·exact h.dj a ha b e
   ·rcases jQ hb with e|e
    ·subst e;exact g3 a ha
    ·exact h.le a ha b e
  obtain⟨k1,k2⟩:=GR (O:=O) (w:=w) h.on;obtain⟨i1,i2,i3⟩:=rF (ws:=ws) iv fun z hz=>g z (Ly _ hz);refine⟨i1,fun z hz=> ?_,fun r p z=>i3 r p (k2 r p z)⟩;rcases LN.mp hz with e|e
  ·subst e;exact i3 _ _ k1
  ·exact i2 z e
theorem kH {B:List Wd} (hB:BB B) {w:Wy} (h:w∈bN B):Vw B (w.r,w):=by
 obtain⟨e,he,h⟩:=Nw.mp h;obtain⟨f,hf,h⟩:=M5.mp h;unfold a9 at h;split at h
 ·rename_i hb
  cases h;obtain⟨c,hc⟩:=kL.mp hb.2;have lf:=lV hB.nd hf;have le:=lV hB.nd he;have wf:wr B [f.1]=f.2:=by rw[lU,lf,Ai,L6];rfl
  have we:wr B [e.1]=e.2:=by rw[lU,le,Ai,L6];rfl
  refine⟨rfl,by show f.2.length=_;rw[wf],fun x hx=> ?_,fun x hx=> ?_,⟨f,hf,e.2,?_⟩,?_,⟨by simp,by simp⟩⟩
  ·rw[Lx.mp hx];exact Lz.mpr ⟨f,hf,rfl⟩
  ·rw[Lx.mp hx];exact Lz.mpr ⟨e,he,rfl⟩
  ·show f.2=e.2++f.2.drop e.2.length;rw[hc,Ow]
  ·show wr B [f.1]=wr B [e.1]++f.2.drop e.2.length;rw[wf,we,hc,Ow]
 ·cases h
theorem nS {B:List Wd} (hB:BB B) {a w:Wy} (ha:Vw B (a.r,a)) (h:w∈c8 B a):Vw B (w.r,w)/\a.p<=w.p:=by
 unfold c8 at h;split at h
 ·cases h
 ·obtain⟨e,he,h⟩:=M5.mp h
  have le:=lV hB.nd he;obtain⟨a1,a2,a3,a4,⟨g,hg,c,hc⟩,a6,a7⟩:=ha;dsimp only at a2 a3 a4 hc a6 a7;have wsn:wr B (a.sh++[e.1])=wr B a.sh++e.2:=by rw[Dt,le];rfl
  have isn:JA B (a.sh++[e.1]):=fun x hx=>by
   rcases LM.mp hx with hx|hx
   ·exact a4 x hx
   ·rw[Lx.mp hx];exact Lz.mpr ⟨e,he,rfl⟩
  unfold nx at h;split at h
  ·rename_i hb
   cases h;obtain⟨o,ho⟩:=kL.mp hb;refine⟨⟨rfl,a2,a3,isn,⟨g,hg,c++e.2,?_⟩,?_,⟨a7.1,by simp⟩⟩,Ll _⟩
   ·show g.2=c++e.2++a.r.drop e.2.length;rw[hc,ho,Ow,LP]
   ·show wr B a.lo=wr B (a.sh++[e.1])++a.r.drop e.2.length;rw[a6,wsn,ho,Ow,LP]
  ·split at h
   ·rename_i hb
    cases h;obtain⟨o,ho⟩:=kL.mp hb;have ed:e.2.drop a.r.length=o:=by rw[ho,Ow]
    have wl:wr B (a.sh++[e.1])=wr B a.lo++o:=by rw[wsn,ho,a6,LP]
    refine⟨⟨rfl,?_,isn,a3,⟨e,he,a.r,?_⟩,?_,⟨by simp,a7.1⟩⟩,Ra _ _⟩
    ·show a.p+(e.2.drop a.r.length).length=_;rw[ed];show a.p+o.length=(wr B (a.sh++[e.1])).length;rw[wl,Ln,a2]
    ·show e.2=a.r++e.2.drop a.r.length;rw[ed];exact ho
    ·show wr B (a.sh++[e.1])=wr B a.lo++e.2.drop a.r.length;rw[ed];exact wl
   ·cases h
structure Full (B:List Wd) (W O:Mp):Prop where
 iv:Iv B W O
 fst:∀f∈bN B,Gt (W++O) f.r f.p
 Xv:∀a∈W,∀n∈c8 B a.2,Gt (W++O) n.r n.p
theorem Gt.app {W O O':Mp} (h:∀r p,Gt O r p->Gt O' r p) {r:Rs} {p:Nat} (g:Gt (W++O) r p):Gt (W++O') r p:=by
 obtain⟨q,hq,e,l⟩:=g;rcases LM.mp hq with hq|hq
 ·exact⟨q,Mm _ hq,e,l⟩
 ·obtain⟨z,hz,e2,l2⟩:=h r p ⟨q,hq,e,l⟩;exact⟨z,LO _ hz,e2,l2⟩
theorem Aj {B:List Wd} (hB:BB B):Full B [] (gi [] (bN B)):=by have iv0:Iv B [] []:=⟨fun _ z=>(by cases z),fun _ z=>(by cases z),N9,N9,fun _ z=>(by cases z),fun _ z=>(by cases z)⟩;obtain⟨i1,i2,i3⟩:=rF (ws:=bN B) iv0 fun w hw=>⟨kH hB hw,fun _ z=>(by cases z),fun _ z=>(by cases z)⟩;exact⟨i1,fun f hf=>i2 f hf,fun _ z=>(by cases z)⟩
noncomputable def vD (B:List Wd) (W:Mp) (b:Rs×Wy):List Wy:=(c8 B b.2).filter fun n=> !decide (n.r∈(W++[b]).map (·.1))
theorem Dl {B:List Wd} (hB:BB B) {W O:Mp} (h:Full B W O) {b:Rs×Wy} (hb:b∈O) (hm:∀q∈O,b.2.p<=q.2.p):Full B (W++[b]) (gi (fU O b.1) (vD B W b)):=by
 have kb:=h.iv.ok b hb;have iv1:Iv B (W++[b]) (fU O b.1):=by
  have dm:∀q∈fU O b.1,q∈O/\q.1≠b.1:=fun q hq=>by obtain⟨h1,h2⟩:=MQ.mp hq;exact⟨h1,fun e=>by rw[decide_eq_true e] at h2;cases h2⟩
  refine⟨fun q hq=> ?_,fun q hq=>h.iv.ok q (dm q hq).1,?_,h.iv.on.sublist ((TJ).map _),fun a ha c hc=> ?_,fun a ha c hc=> ?_⟩
  ·rcases LM.mp hq with hq|hq
   ·exact h.iv.wk q hq
   ·rw[Lx.mp hq];exact kb
  ·rw[LW];exact Ou.mpr ⟨h.iv.wn,MJ.mpr ⟨PR,N9⟩,fun x hx y hy e=>by obtain⟨a,ha,rfl⟩:=Lz.mp hx;have hy:y=b.1:=Lx.mp hy;exact h.iv.dj a ha b hb (e.trans hy)⟩
  ·rcases LM.mp ha with ha|ha
   ·exact h.iv.dj a ha c (dm c hc).1
   ·rw[Lx.mp ha];exact Ne.symm (dm c hc).2
  ·rcases LM.mp ha with ha|ha
   ·exact h.iv.le a ha c (dm c hc).1
   ·rw[Lx.mp ha];exact hm c (dm c hc).1
 have kb2:Vw B (b.2.r,b.2):=by rw[kb.k];exact kb
 obtain⟨i1,i2,i3⟩:=rF (ws:=vD B W b) iv1 fun w hw=>by
  obtain⟨h1,h2⟩:=MQ.mp hw;obtain⟨o1,o2⟩:=nS hB kb2 h1;refine⟨o1,fun a ha e=> ?_,fun a ha=>LF ?_ o2⟩
  ·rw[decide_eq_true (Lz.mpr ⟨a,ha,e⟩)] at h2;cases h2
  ·rcases LM.mp ha with ha|ha
   ·exact h.iv.le a ha b hb
   ·rw[Lx.mp ha];exact Ll _
 have mv:∀r p,Gt (W++O) r p->Gt (W++[b]++gi (fU O b.1) (vD B W b)) r p:=fun r p g=>by
  refine Gt.app i3 ?_;obtain⟨q,hq,e,l⟩:=g;rcases LM.mp hq with hq|hq
  ·exact⟨q,Mm _ (Mm _ hq),e,l⟩
  ·by_cases z:q.1=b.1
   ·have:=uT h.iv.on hq hb z;subst this;exact⟨q,Mm _ (LO _ (Lx.mpr rfl)),e,l⟩
   ·exact⟨q,LO _ (MQ.mpr ⟨hq,by rw[decide_eq_false z];rfl⟩),e,l⟩
 refine⟨i1,fun f hf=>mv _ _ (h.fst f hf),fun a ha n hn=> ?_⟩;rcases LM.mp ha with ha|ha
 ·exact mv _ _ (h.Xv a ha n hn)
 ·rw[Lx.mp ha] at hn
  obtain⟨_,o2⟩:=nS hB kb2 hn;by_cases z:n.r∈(W++[b]).map (·.1)
  ·obtain⟨q,hq,e⟩:=Lz.mp z
   refine⟨q,Mm _ hq,e,LF ?_ o2⟩;rcases LM.mp hq with hq|hq
   ·exact h.iv.le q hq b hb
   ·rw[Lx.mp hq];exact Ll _
  ·obtain⟨q,hq,e,l⟩:=i2 n (MQ.mpr ⟨hn,by rw[decide_eq_false z];rfl⟩);exact⟨q,LO _ hq,e,l⟩
noncomputable def uW (B:List Wd):List Rs:=B.flatMap fun e=>[e.2,e.2.drop 1,e.2.drop 2,e.2.drop 3,e.2.drop 4,e.2.drop 5,e.2.drop 6]
theorem vS {B:List Wd} (hB:BB B) {q:Rs×Wy} (h:Vw B q):q.1∈uW B:=by
 obtain⟨e,he,c,hc⟩:=h.s;have h3:=hB.s6 e he;have ed:q.1=e.2.drop c.length:=by rw[hc,Ow]
 have hl:c.length<=6:=by rw[hc,Ln] at h3;omega
 refine Nw.mpr ⟨e,he,?_⟩;rw[ed]
 match c.length,hl with
 |0,_=>simp
 |1,_=>simp
 |2,_=>simp
 |3,_=>simp
 |4,_=>simp
 |5,_=>simp
 |6,_=>simp
 |n+7,h=>omega
theorem ul {α:Type} [DecidableEq α]:∀{a b:List α},a.Nodup->(∀x∈a,x∈b)->a.length<=b.length
 |[],_,_,_=>Mr _
 |x::a,b,hn,hs=>by rw[MJ] at hn;have:=ul (a:=a) (b:=b.erase x) hn.2 fun y hy=>(List.mem_erase_of_ne (fun e:y=x=>hn.1 (by rw[<-e];exact hy))).mpr (hs y (Ly _ hy));have hx:=hs x (LG ..);rw[List.length_erase_of_mem hx] at this;have:0<b.length:=SK hx;rw[Lu];omega
theorem tK:∀B:List Wd,(uW B).length=7*B.length
 |[]=>rfl
 |e::r=>by have:=tK r;unfold uW at*;rw[UB,Ln,this,Lu];simp;omega
theorem sf {B:List Wd} (hB:BB B) {W O:Mp} (h:Iv B W O):W.length+O.length<=140:=by
 have nd:((W++O).map (·.1)).Nodup:=by rw[LW];refine Ou.mpr ⟨h.wn,h.on,fun x hx y hy e=> ?_⟩;obtain⟨a,ha,rfl⟩:=Lz.mp hx;obtain⟨b,hb,rfl⟩:=Lz.mp hy;exact h.dj a ha b hb e
 have:=ul (b:=uW B) nd fun x hx=>by
  obtain⟨q,hq,rfl⟩:=Lz.mp hx;rcases LM.mp hq with hq|hq
  ·exact vS hB (h.wk q hq)
  ·exact vS hB (h.ok q hq)
 rw[tK,Lh,Ln] at this;have:=hB.SN;omega
theorem kC (a b:Rs):eL [sD a,sD b]= .ok (.fz (.bool (bg a b))):=by
 unfold eL mV;have ln:=gv a;have ct:mE (sD b) Ld (lD (a.length:Int))=lD (.fz (sD (b.take a.length))):=by unfold sD;rw[uF,Pz]
 have eq:=mO (b.take a.length) a;exact gk (ρ:=[lD (.fz (sD a)),lD (.fz (sD b))]) rfl (ci (dN (b:=bg a b) (gF (rv:= .fz (sD (b.take a.length))) (af rfl) b5 (cf (b7 (rv:= .fz (nd a.length)) (am (af rfl) ay) rfl ln) rfl) rfl ct) (af rfl) rfl rfl eq) rfl rfl)
theorem je (b:Rs) (n:Nat):mE (sD b) (lD (n:Int)) Ld=lD (.fz (sD (b.drop n))):=by unfold sD;rw[ur,QA]
theorem E2 {a b:List Nat} (ha:∀c∈a,c<1114112) (hb:∀c∈b,c<1114112):Ct (tD a) (tD b)=lD (.fz (.bool (!decide (a=b)))):=by unfold Ct tD;rw[if_pos,xM];unfold C7;rw[Lg.canLay0,Lg.canLay0,oC ha,oC hb];rfl
theorem kE {B:List Wd} {i:Nat} {d:D} (h:(B.map wD)[i]? =lD d):∃e,B[i]? =lD e/\d=wD e:=by rw[Ls] at h;obtain⟨e,h1,h2⟩:=Mo.mp h;exact⟨e,h1,h2.symm⟩
theorem eC {α:Type} {l:List α} {i:Nat} {e:α} (h:l[i]? =lD e):l.take (i+1)=l.take i++[e]:=by rw[QQ,h];rfl
theorem jK {α β:Type} (f:α->Option β) (l:List α):(l.filterMap f).length<=l.length:=List.length_filterMap_le f l
theorem vH {α β:Type} (f:α->Option β) (x:α):[x].filterMap f=match f x with|some w=>[w]|none=>[]:=by rw[NH,QI];cases f x<;>rfl
theorem fM {α β:Type} (f:α->List β) (n:Nat) (h:∀x,(f x).length<=n):∀l:List α,(l.flatMap f).length<=n*l.length
 |[]=>by simp
 |x::r=>by have:=fM f n h r;have:=h x;rw[UB,Ln,Lu,Nat.mul_add,Nat.mul_one];omega
theorem nR {B:List Wd} (hB:BB B):(bN B).length<=400:=by have:=fM (fun e=>B.filterMap (a9 e)) B.length (fun e=>jK _ _) B;have h4:=hB.SN;have:B.length*B.length<=20*20:=Oz h4 h4;unfold bN;omega
theorem zD {B:List Wd} (hB:BB B):dE [bx B]= .ok (.ow ((bN B).map bD)):=by
 refine gk (ρ:=[lD (.fz (bx B)),Ld,Ld,Ld,Ld,Ld]) rfl ?_;unfold ie;refine aY (pv:= .ow []) (ρ3:=[lD (.fz (bx B)),lD (.ow []),Ld,Ld,Ld,Ld]) (by walk_at "evp") rfl rfl ?_;refine cN (fun i ρ=>∃t2 t3 t4 t5,ρ=[lD (.fz (bx B)),lD (.ow (((B.take i).flatMap fun e=>B.filterMap (a9 e)).map bD)),t2,t3,t4,t5]) (ds:=B.map wD) (ρ1:=[lD (.fz (bx B)),lD (.ow []),Ld,Ld,Ld,Ld]) (cM (d:=bx B) (af rfl) rfl rfl) ⟨Ld,Ld,Ld,Ld,rfl⟩ ?_ ?_
 ·rintro i d ρ hd ⟨t2,t3,t4,t5,rfl⟩
  obtain⟨e,he,rfl⟩:=kE hd;have me:=LH he;refine⟨_,rfl,?_⟩;have lP:((B.take i).flatMap fun e=>B.filterMap (a9 e)).length<=400:=by
   have h1:=fM (fun e=>B.filterMap (a9 e)) B.length (fun e=>jK _ _) (B.take i);have h4:=hB.SN;have h5:(B.take i).length<=20:=by rw[Ms];omega
   have:B.length*(B.take i).length<=20*20:=Oz h4 h5;omega
  have eT:(B.take (i+1)).flatMap (fun e=>B.filterMap (a9 e))=((B.take i).flatMap fun e=>B.filterMap (a9 e))++B.filterMap (a9 e):=by rw[eC he,OS];simp
  generalize ((B.take i).flatMap fun e=>B.filterMap (a9 e))=P at lP eT;refine uR (fun j ρ=>∃t4 t5,ρ=[lD (.fz (bx B)),lD (.ow ((P++(B.take j).filterMap (a9 e)).map bD)),lD (.fz (tD e.1)),lD (.fz (sD e.2)),t4,t5]) (ds:=B.map wD) (ρ1:=[lD (.fz (bx B)),lD (.ow (P.map bD)),lD (.fz (tD e.1)),lD (.fz (sD e.2)),t4,t5]) (cM (d:=bx B) (af rfl) rfl rfl) ⟨t4,t5,by rw[Pa,QI,L6]⟩ ?_ ?_
  ·rintro j d ρ hd ⟨t4,t5,rfl⟩
   obtain⟨f,hf,rfl⟩:=kE hd;have mf:=LH hf;refine⟨_,rfl,?_⟩;have eJ:P++(B.take (j+1)).filterMap (a9 e)=P++(B.take j).filterMap (a9 e)++(match a9 e f with|some w=>[w]|none=>[]):=by rw[eC hf,Qj,LP];rw[vH];cases a9 e f<;>rfl
   have lJ:(P++(B.take j).filterMap (a9 e)).length<=420:=by
    have h1:=jK (a9 e) (B.take j);have h4:=hB.SN;have h5:(B.take j).length<=20:=by rw[Ms];omega
    rw[Ln];omega
   generalize P++(B.take j).filterMap (a9 e)=M at eJ lJ;have ne:=E2 (hB.wc e me) (hB.wc f mf);have be:=kC e.2 f.2;refine iZ (b:= !decide (e.1=f.1)&&bg e.2 f.2) (qX (bp (dN (af rfl) (af rfl) rfl rfl ne) rfl) fun _=>bp (gW (am (af rfl) (am (af rfl) ay)) rfl rfl be) rfl) (fun hb=> ?_) fun hb=> ?_
   ·rw[LU,UC,decide_eq_false_iff_not] at hb
    have eF:a9 e f=lD ⟨f.2.length,f.2.drop e.2.length,[f.1],[e.1]⟩:=by unfold a9;rw[if_pos hb]
    rw[eF] at eJ;have l1:=gv f.2;have l2:=gv e.2;have ct:=je f.2 e.2.length;refine dD (eV (d:=bD ⟨f.2.length,f.2.drop e.2.length,[f.1],[e.1]⟩) (x:=[lD (.fz (bx B)),lD (.ow (M.map bD++[bD ⟨f.2.length,f.2.drop e.2.length,[f.1],[e.1]⟩])),lD (.fz (tD e.1)),lD (.fz (sD e.2)),lD (.fz (tD f.1)),lD (.fz (sD f.2))]) rfl (cz (ds:=[nd f.2.length,sD (f.2.drop e.2.length),.tuple [tD f.1],.tuple [tD e.1]]) (am (b7 (rv:= .fz (nd f.2.length)) (am (af rfl) ay) rfl l1) (am (gF (rv:= .fz (sD (f.2.drop e.2.length))) (af rfl) (cf (b7 (rv:= .fz (nd e.2.length)) (am (af rfl) ay) rfl l2) rfl) b5 rfl ct) (am (cz (ds:=[tD f.1]) (am (af rfl) ay) rfl (LV rfl)) (am (cz (ds:=[tD e.1]) (am (af rfl) ay) rfl (LV rfl)) ay)))) rfl (LV rfl)) rfl rfl (by rw[Lh];omega) rfl) ⟨_,_,by rw[eJ,LW];rfl⟩
   ·have eF:a9 e f=Ld:=by
     unfold a9;rw[if_neg];rintro⟨h1,h2⟩;rw[decide_eq_false h1,h2] at hb;cases hb
    rw[eF] at eJ;exact ei ⟨_,_,by rw[eJ,L6];rfl⟩
  ·rintro ρ ⟨t4,t5,rfl⟩;refine⟨lD (.fz (tD e.1)),lD (.fz (sD e.2)),t4,t5,?_⟩;rw[eT,Lh,M7]
 ·rintro ρ ⟨t2,t3,t4,t5,rfl⟩;rw[Lh,M7];exact ci (dA rfl) rfl rfl
theorem JJ (w:Wy):eO (bD w) (.int 0)=lD (.fz (nd w.p))/\eO (bD w) (.int 1)=lD (.fz (sD w.r))/\eO (bD w) (.int 2)=lD (.fz (.tuple (w.lo.map tD)))/\eO (bD w) (.int 3)=lD (.fz (.tuple (w.sh.map tD))):=⟨rfl,rfl,rfl,rfl⟩
theorem AG (a b:Nat):bI (nd a) (nd b)=lD (.fz (nd (a+b))):=rfl
theorem Dx {B:List Wd} (hB:BB B) {w:Wy} (h1:w.sh≠[]) (h2:w.sh.length<=1000):eP [bx B,bD w]= .ok (.ow ((c8 B w).map bD)):=by
 obtain⟨x0,x1,x2,x3⟩:=JJ w;refine gk (ρ:=[lD (.fz (bx B)),lD (.fz (bD w)),Ld,Ld,Ld,Ld,Ld,Ld]) rfl ?_;unfold iR;refine aY (pv:= .fz (nd w.p)) (ρ3:=[lD (.fz (bx B)),lD (.fz (bD w)),lD (.fz (nd w.p)),Ld,Ld,Ld,Ld,Ld]) (aZ (rv:= .fz (nd w.p)) (af rfl) cR rfl rfl x0) rfl rfl ?_;refine aY (pv:= .fz (sD w.r)) (ρ3:=[lD (.fz (bx B)),lD (.fz (bD w)),lD (.fz (nd w.p)),lD (.fz (sD w.r)),Ld,Ld,Ld,Ld]) (aZ (rv:= .fz (sD w.r)) (af rfl) cR rfl rfl x1) rfl rfl ?_;have en:=mO w.r [];refine jr (b:=decide (w.r=[])) (bp (dN (dy:=sD []) (af rfl) (cz (ds:=[]) ay rfl (Mr _)) rfl rfl en) rfl) (fun hb=> ?_) fun hb=>cU ?_
 ·have e:c8 B w=[]:=by unfold c8;rw[if_pos (of_decide_eq_true hb)]
  rw[e];exact nv (pv:= .ow []) (by walk_at "evp") rfl rfl
 have eN:c8 B w=B.filterMap (nx w):=by unfold c8;rw[if_neg (of_decide_eq_false hb)]
 rw[eN];refine aY (pv:= .ow []) (ρ3:=[lD (.fz (bx B)),lD (.fz (bD w)),lD (.fz (nd w.p)),lD (.fz (sD w.r)),lD (.ow []),Ld,Ld,Ld]) (by walk_at "evp") rfl rfl ?_;refine cN (fun i ρ=>∃t5 t6 t7,ρ=[lD (.fz (bx B)),lD (.fz (bD w)),lD (.fz (nd w.p)),lD (.fz (sD w.r)),lD (.ow (((B.take i).filterMap (nx w)).map bD)),t5,t6,t7]) (ds:=B.map wD) (ρ1:=[lD (.fz (bx B)),lD (.fz (bD w)),lD (.fz (nd w.p)),lD (.fz (sD w.r)),lD (.ow []),Ld,Ld,Ld]) (cM (d:=bx B) (af rfl) rfl rfl) ⟨Ld,Ld,Ld,rfl⟩ ?_ ?_
 ·rintro i d ρ hd ⟨t5,t6,t7,rfl⟩
  obtain⟨e,he,rfl⟩:=kE hd;refine⟨_,rfl,?_⟩;have eJ:(B.take (i+1)).filterMap (nx w)=(B.take i).filterMap (nx w)++(match nx w e with|some w=>[w]|none=>[]):=by rw[eC he,Qj];rw[vH];cases nx w e<;>rfl
  have lJ:((B.take i).filterMap (nx w)).length<=20:=by have h1:=jK (nx w) (B.take i);have h4:=hB.SN;rw[Ms] at h1;omega
  generalize (B.take i).filterMap (nx w)=M at eJ lJ;have b1:=kC e.2 w.r;have b2:=kC w.r e.2;have l1:=gv e.2;have l2:=gv w.r;have c1:=je w.r e.2.length;have c2:=je e.2 w.r.length;have l3:=gv (e.2.drop w.r.length);have ad:bI (.tuple (w.sh.map tD)) (.tuple [tD e.1])=lD (.fz (.tuple ((w.sh++[e.1]).map tD))):=by show(if w.sh.map tD≠[]/\(w.sh.map tD).length+1<=1000000 then _ else _)=_;rw[if_pos ⟨by intro z;exact h1 (List.map_eq_nil_iff.mp z),by rw[Lh];omega⟩,LW];rfl
  have ap:=AG w.p (e.2.drop w.r.length).length;refine iZ (b:=bg e.2 w.r) (bp (gW (am (af rfl) (am (af rfl) ay)) rfl rfl b1) rfl) (fun hb=> ?_) fun hb=> ?_
  ·have eF:nx w e=lD ⟨w.p,w.r.drop e.2.length,w.lo,w.sh++[e.1]⟩:=by unfold nx;rw[if_pos hb]
   rw[eF] at eJ;refine dD (eV (d:=bD ⟨w.p,w.r.drop e.2.length,w.lo,w.sh++[e.1]⟩) (x:=[lD (.fz (bx B)),lD (.fz (bD w)),lD (.fz (nd w.p)),lD (.fz (sD w.r)),lD (.ow (M.map bD++[bD ⟨w.p,w.r.drop e.2.length,w.lo,w.sh++[e.1]⟩])),lD (.fz (tD e.1)),lD (.fz (sD e.2)),t7]) rfl (cz (ds:=[nd w.p,sD (w.r.drop e.2.length),.tuple (w.lo.map tD),.tuple ((w.sh++[e.1]).map tD)]) (am (af rfl) (am (gF (rv:= .fz (sD (w.r.drop e.2.length))) (af rfl) (cf (b7 (rv:= .fz (nd e.2.length)) (am (af rfl) ay) rfl l1) rfl) b5 rfl c1) (am (aZ (rv:= .fz (.tuple (w.lo.map tD))) (af rfl) cR rfl rfl x2) (am (aZ (rv:= .fz (.tuple ((w.sh++[e.1]).map tD))) (dx:= .tuple (w.sh.map tD)) (dy:= .tuple [tD e.1]) (aZ (rv:= .fz (.tuple (w.sh.map tD))) (af rfl) cR rfl rfl x3) (cz (ds:=[tD e.1]) (am (af rfl) ay) rfl (LV rfl)) rfl rfl ad) ay)))) rfl (LV rfl)) rfl rfl (by rw[Lh];omega) rfl) ⟨_,_,_,by rw[eJ,LW];rfl⟩
  ·refine iZ (b:=bg w.r e.2) (bp (gW (am (af rfl) (am (af rfl) ay)) rfl rfl b2) rfl) (fun TZ=> ?_) fun TZ=> ?_
   ·have eF:nx w e=lD ⟨w.p+(e.2.drop w.r.length).length,e.2.drop w.r.length,w.sh++[e.1],w.lo⟩:=by unfold nx;rw[if_neg (by rw[hb];simp),if_pos TZ]
    rw[eF] at eJ;refine aY (pv:= .fz (sD (e.2.drop w.r.length))) (ρ3:=[lD (.fz (bx B)),lD (.fz (bD w)),lD (.fz (nd w.p)),lD (.fz (sD w.r)),lD (.ow (M.map bD)),lD (.fz (tD e.1)),lD (.fz (sD e.2)),lD (.fz (sD (e.2.drop w.r.length)))]) (gF (rv:= .fz (sD (e.2.drop w.r.length))) (af rfl) (cf (b7 (rv:= .fz (nd w.r.length)) (am (af rfl) ay) rfl l2) rfl) b5 rfl c2) rfl rfl ?_;refine dD (eV (d:=bD ⟨w.p+(e.2.drop w.r.length).length,e.2.drop w.r.length,w.sh++[e.1],w.lo⟩) (x:=[lD (.fz (bx B)),lD (.fz (bD w)),lD (.fz (nd w.p)),lD (.fz (sD w.r)),lD (.ow (M.map bD++[bD ⟨w.p+(e.2.drop w.r.length).length,e.2.drop w.r.length,w.sh++[e.1],w.lo⟩])),lD (.fz (tD e.1)),lD (.fz (sD e.2)),lD (.fz (sD (e.2.drop w.r.length)))]) rfl (cz (ds:=[nd (w.p+(e.2.drop w.r.length).length),sD (e.2.drop w.r.length),.tuple ((w.sh++[e.1]).map tD),.tuple (w.lo.map tD)]) (am (aZ (rv:= .fz (nd (w.p+(e.2.drop w.r.length).length))) (af rfl) (b7 (rv:= .fz (nd (e.2.drop w.r.length).length)) (am (af rfl) ay) rfl l3) rfl rfl ap) (am (af rfl) (am (aZ (rv:= .fz (.tuple ((w.sh++[e.1]).map tD))) (dx:= .tuple (w.sh.map tD)) (dy:= .tuple [tD e.1]) (aZ (rv:= .fz (.tuple (w.sh.map tD))) (af rfl) cR rfl rfl x3) (cz (ds:=[tD e.1]) (am (af rfl) ay) rfl (LV rfl)) rfl rfl ad) (am (aZ (rv:= .fz (.tuple (w.lo.map tD))) (af rfl) cR rfl rfl x2) ay)))) rfl (LV rfl)) rfl rfl (by rw[Lh];omega) rfl) ⟨_,_,_,by rw[eJ,LW];rfl⟩
   ·have eF:nx w e=Ld:=by unfold nx;rw[if_neg (by rw[hb];simp),if_neg (by rw[TZ];simp)]
    rw[eF] at eJ;exact ei ⟨_,_,_,by rw[eJ,L6];rfl⟩
 ·rintro ρ ⟨t5,t6,t7,rfl⟩;rw[Lh,M7];exact ci (dA rfl) rfl rfl
noncomputable def KM:Option D->SV->SV
 |some d,_=> .fz d
 |none,z=>z
section
variable {ρ ρ1:aQ} {ω ω1 ω2 ω3:aX} {x y z:SV} {i:Nat} {d:D} {Mj:List (D×D)}
theorem jq (h:ω[i]? =lD (.dd Mj)):gB ω (.rf i)=lD (i,Mj):=by unfold gB;dsimp only;rw[h]
theorem pS {neg:Bool} {fk fd:c7} {k:D} (hk:fk ρ ω= .ok x ω1) (hd:fd ρ ω1= .ok (.rf i) ω2) (h1:fX x=lD k) (h2:ω2[i]? =lD (.dd Mj)):lg neg fk fd ρ ω= .ok (.fz (.bool ((bw Mj k).isSome !=neg))) ω2:=by unfold lg;rw[hk,RS.bind_ok,hd,RS.bind_ok,h1];show((RS.ME ω2 (gB ω2 (.rf i))).bind _)=_;rw[jq h2];rfl
theorem zr {fd fk:c7} {k:D} (hd:fd ρ ω= .ok (.rf i) ω1) (hk:fk ρ ω1= .ok x ω2) (h1:fX x=lD k) (h2:ω2[i]? =lD (.dd Mj)) (h3:bw Mj k=lD d):qR fd fk ρ ω= .ok (.fz d) ω2:=by unfold qR;rw[hd,RS.bind_ok,hk,RS.bind_ok,h1];show((RS.ME ω2 (gB ω2 (.rf i))).bind _)=_;rw[jq h2];show((RS.ME ω2 (bw Mj k)).bind _)=_;rw[h3];rfl
theorem tX {fd fk fv:c7} {k:D} (hv:fv ρ ω= .ok (.fz d) ω1) (hd:fd ρ ω1= .ok (.rf i) ω2) (hk:fk ρ ω2= .ok x ω3) (h1:fX x=lD k) (h2:ω3[i]? =lD (.dd Mj)) (hl:Mj.length<1000000):ny fd fk fv ρ ω= .ok (.nx ρ) (ω3.set i (.dd (fS Mj k d))):=by unfold ny;rw[hv,RS.bind_ok,hd,RS.bind_ok,hk,RS.bind_ok,h1];show((RS.ME ω3 (gB ω3 (.rf i))).bind _)=_;rw[jq h2];show(if Mj.length<1000000 then _ else _)=_;rw[if_pos hl]
theorem yY {fd fk fx:c7} {k:D} {U0:List (D×D)} (hd:fd ρ ω= .ok (.rf i) ω1) (h0:ω1[i]? =lD (.dd U0)) (hk:fk ρ ω1= .ok x ω2) (hx:fx ρ ω2= .ok z ω3) (h1:fX x=lD k) (h2:ω3[i]? =lD (.dd Mj)):lW fd fk fx ρ ω= .ok (KM (bw Mj k) z) ω3:=by unfold lW;rw[hd,RS.bind_ok,jq h0];show((fk ρ ω1).bind _)=_;rw[hk,RS.bind_ok,hx,RS.bind_ok,h1];show((RS.ME ω3 (gB ω3 (.rf i))).bind _)=_;rw[jq h2];show RS.ok (match bw Mj k with|some d=>SV.fz d|none=>z) ω3=_;cases bw Mj k<;>rfl
theorem A5 {fd fk:c7} {k:D} {U0:List (D×D)} (hd:fd ρ ω= .ok (.rf i) ω1) (h0:ω1[i]? =lD (.dd U0)) (hk:fk ρ ω1= .ok x ω2) (h1:fX x=lD k) (h2:ω2[i]? =lD (.dd Mj)) (h3:bw Mj k=lD d):qA fd fk ρ ω= .ok (.fz d) (ω2.set i (.dd (jF Mj k))):=by unfold qA;rw[hd,RS.bind_ok,jq h0];show((fk ρ ω1).bind _)=_;rw[hk,RS.bind_ok,h1];show((RS.ME ω2 (gB ω2 (.rf i))).bind _)=_;rw[jq h2];show((RS.ME ω2 (bw Mj k)).bind _)=_;rw[h3];rfl
theorem Ea {fd:c7} (hd:fd ρ ω= .ok (.rf i) ω1) (h2:ω1[i]? =lD (.dd Mj)):xF fd ρ ω= .ok (.fz (.bool (!Mj.isEmpty))) ω1:=by unfold xF;rw[hd,RS.bind_ok,jq h2];rfl
theorem CN {fd:c7} (hd:fd ρ ω= .ok (.rf i) ω1) (h2:ω1[i]? =lD (.dd Mj)) (ho:LD.RJ (Mj.map (·.2))=Lk) (hm:(Mj.map (·.2))[LD.SD (Mj.map (·.2))]? =lD d):pK fd ρ ω= .ok (.fz d) ω1:=by unfold pK;rw[hd,RS.bind_ok,jq h2];show(if LD.RJ (Mj.map (·.2))=Lk then((RS.ME ω1 ((Mj.map (·.2))[LD.SD (Mj.map (·.2))]?)).bind _) else _)=_;rw[if_pos ho,hm];rfl
theorem rZ {F:pE} {n:Nat} {fa:yX} {xs:List SV} (ha:fa ρ ω= .ok xs ω1) (hn:xs.length=n) (hF:F xs ω1= .ok x ω2):pi F n fa ρ ω= .ok x ω2:=by unfold pi;rw[ha,RS.bind_ok,if_pos hn,hF,tH]
end
noncomputable def eR (M:Mp):List (D×D):=M.map fun q=>(sD q.1,bD q.2)
theorem gu (a b:Rs):Lg.eqv (sD a) (sD b)=decide (a=b):=by unfold sD;rw[Lg.eqv];exact pX a b
theorem lZ (M:Mp) (r:Rs):bw (eR M) (sD r)=(jy M r).map bD:=by
 unfold bw jy eR
 induction M with
 |nil=>rfl
 |cons q M ih=>
  rw[Lo,Mw,Mw,gu];by_cases e:q.1=r
  ·rw[decide_eq_true e];rfl
  ·rw[decide_eq_false e];exact ih
theorem Br (M:Mp) (r:Rs):((eR M).find? fun kv=>Lg.eqv kv.1 (sD r)).isSome=(M.find? fun q=>decide (q.1=r)).isSome:=by
 unfold eR
 induction M with
 |nil=>rfl
 |cons q M ih=>
  rw[Lo,Mw,Mw,gu];by_cases e:q.1=r
  ·rw[decide_eq_true e];rfl
  ·rw[decide_eq_false e];exact ih
theorem wI (M:Mp) (r:Rs) (w:Wy):fS (eR M) (sD r) (bD w)=eR (jw M r w):=by
 unfold fS jw;rw[Br];split
 ·unfold eR
  rw[Mq,Mq];apply Qw;intro q _;show(if Lg.eqv (sD q.1) (sD r)=Lk then(sD q.1,bD w) else(sD q.1,bD q.2))=_;rw[gu];by_cases e:q.1=r
  ·rw[if_pos (decide_eq_true e)];show _=(sD (if q.1=r then(q.1,w) else q).1,bD (if q.1=r then(q.1,w) else q).2);rw[if_pos e]
  ·rw[if_neg (by simpa using e)];show _=(sD (if q.1=r then(q.1,w) else q).1,bD (if q.1=r then(q.1,w) else q).2);rw[if_neg e]
 ·unfold eR;rw[LW];rfl
theorem A8 (M:Mp) (r:Rs):jF (eR M) (sD r)=eR (fU M r):=by unfold jF fU eR;rw[List.filter_map];congr 1;apply List.filter_congr;intro q _;show(!Lg.eqv (sD q.1) (sD r))=_;rw[gu]
theorem xP:∀l:List Int,LD.kds (l.map Lg.int)=Lk
 |[]=>by rw[LY,LD.kds]
 |i::r=>by rw[Lo,LD.kds,LD.kd,xP r];rfl
theorem Cm:∀l:Rs,LD.kds (l.map kD)=Lk
 |[]=>by rw[LY,LD.kds]
 |i::r=>by rw[Lo,LD.kds,Cm r];unfold kD;rw[LD.kd,xP];rfl
theorem iV (r:Rs):fX (.fz (sD r))=lD (sD r):=by show(if LD.keyD (sD r)=Lk then lD (sD r) else Ld)=_;rw[if_pos];unfold sD;rw[LD.keyD,Cm,Oe];apply decide_eq_true;rw[Lg.depth];have:=iX r;omega
theorem r0:∀{L:List (List Nat)},(∀l∈L,∀c∈l,c<1114112)->Lg.canLayAll0 (L.map tD)=Lk
 |[],_=>by rw[LY,Lg.canLayAll0]
 |l::r,h=>by rw[Lo,Lg.canLayAll0,r0 fun x hx=>h x (Ly _ hx)];unfold tD;rw[Lg.canLay0,oC (h l (LG ..))];rfl
theorem qG:∀L:List (List Nat),Lg.depthAll (L.map tD)=0
 |[]=>by rw[LY,Lg.depthAll]
 |l::r=>by rw[Lo,Lg.depthAll,qG r];unfold tD;rw[Lg.depth];rfl
def kB (L:List (List Nat)):Prop:=∀l∈L,∀c∈l,c<1114112
theorem iO {B:List Wd} (hB:BB B) {L:List (List Nat)} (h:JA B L):kB L:=fun l hl c hc=>by obtain⟨e,he,rfl⟩:=Lz.mp (h l hl);exact hB.wc e he c hc
theorem Gw {w:Wy} (h1:kB w.lo) (h2:kB w.sh):(bD w).canLay0=Lk/\(bD w).depth<=32:=by
 unfold bD sD nd;constructor
 ·rw[Lg.canLay0,Lg.canLayAll0,Lg.canLayAll0,Lg.canLayAll0,Lg.canLayAll0,Lg.canLayAll0,Lg.canLay0,Lg.canLay0,Lg.canLay0,Lg.canLay0,kQ,r0 h1,r0 h2];rfl
 ·rw[Lg.depth,Lg.depthAll,Lg.depthAll,Lg.depthAll,Lg.depthAll,Lg.depthAll,Lg.depth,Lg.depth,Lg.depth,Lg.depth,qG,qG];have:=iX w.r;omega
theorem AU {L:List Wy} (h:∀w∈L,kB w.lo/\kB w.sh):LD.RJ (L.map bD)=Lk:=by unfold LD.RJ;rw[Mu];intro a ha;obtain⟨w,hw,rfl⟩:=Lz.mp ha;obtain⟨h1,h2⟩:=Gw (h w hw).1 (h w hw).2;rw[h1,decide_eq_true h2,Oe,Oe,Mu];intro b hb;obtain⟨v,_,rfl⟩:=Lz.mp hb;obtain⟨r,hr,_⟩:=BQ w v;rw[hr];rfl
theorem wX (L:List Wy):∀k,k<L.length->∃(m:Nat) (b:Wy),argBest (LD.Sk (L.map bD)) k=m/\m<=k/\L[m]? =lD b/\∀(j:Nat) (w:Wy),j<=k->L[j]? =lD w->b.p<=w.p
 |0,h=>⟨0,L[0],rfl,Ll _,LB h,fun j w hj e=>by
   have:j=0:=by omega
   subst this;rw[LB h] at e;cases e;exact Ll _⟩
 |k+1,h=>by
  obtain⟨m,b,e1,e2,e3,e4⟩:=wX L k (by omega);have ek:L[k+1]? =lD L[k+1]:=LB h;have bt:LD.Sk (L.map bD) (k+1) m=(LD.Ot (bD L[k+1]) (bD b)).getD Lw:=by unfold LD.Sk;rw[N8,N8,Ls,Ls,ek,e3];rfl
  obtain⟨r,hr,r1,r2⟩:=BQ L[k+1] b;rw[hr] at bt;have ea:argBest (LD.Sk (L.map bD)) (k+1)=if r=Lk then k+1 else m:=by show(if LD.Sk (L.map bD) (k+1) (argBest (LD.Sk (L.map bD)) k)=Lk then k+1 else argBest (LD.Sk (L.map bD)) k)=_;rw[e1,bt];rfl
  cases r with
  |true=>
   rw[if_pos rfl] at ea;refine⟨k+1,L[k+1],ea,Ll _,ek,fun j w hj e=> ?_⟩;by_cases z:j=k+1
   ·subst z;rw[ek] at e;cases e;exact Ll _
   ·exact LF (r1 rfl) (e4 j w (by omega) e)
  |false=>
   rw[if_neg (by simp)] at ea;refine⟨m,b,ea,by omega,e3,fun j w hj e=> ?_⟩;by_cases z:j=k+1
   ·subst z;rw[ek] at e;cases e;exact r2 rfl
   ·exact e4 j w (by omega) e
theorem HX {O:Mp} (hO:O≠[]):∃b∈O,((eR O).map (·.2))[LD.SD ((eR O).map (·.2))]? =lD (bD b.2)/\∀q∈O,b.2.p<=q.2.p:=by
 have ec:(eR O).map (·.2)=(O.map (·.2)).map bD:=by unfold eR;rw[Mq,Mq];rfl
 rw[ec];have hl:0<O.length:=List.length_pos_iff.mpr hO;obtain⟨m,b,e1,e2,e3,e4⟩:=wX (O.map (·.2)) (O.length - 1) (by rw[Lh];omega);rw[Ls] at e3;obtain⟨q,hq,rfl⟩:=Mo.mp e3;refine⟨q,LH hq,?_,fun z hz=> ?_⟩
 ·unfold LD.SD;rw[Lh,Lh,e1,Ls,Ls,hq];rfl
 ·obtain⟨j,hj⟩:=OD.mp hz;have:=(Lj.mp hj).1;exact e4 j z.2 (by omega) (by rw[Ls,hj];rfl)
theorem qI (M:Mp):(eR M).length=M.length:=by unfold eR;rw[Lh]
theorem Bu (M:Mp) (r:Rs) (w:Wy):(jw M r w).length<=M.length+1:=by
 unfold jw;split
 ·rw[Lh];omega
 ·rw[Ln];exact Ll _
theorem tP:∀(ws:List Wy) (O:Mp),(gi O ws).length<=O.length+ws.length
 |[],O=>Ll _
 |w::ws,O=>by have h1:=tP ws (jv O w);have h2:=Bu O w.r (km w ((jy O w.r).getD w));show(gi (jv O w) ws).length<=_;unfold jv at h1⊢;rw[Lu];omega
theorem fN {α:Type} {l:List α} {i j:Nat} {x:α} (h:i≠j):(l.set i x)[j]? =l[j]? :=N7 h
theorem mZ {α:Type} {l:List α} {i:Nat} {x y:α} (h:l[i]? =lD y):(l.set i x)[i]? =lD x:=by rw[NQ (Lj.mp h).1]
theorem AJ {α:Type} {l:List α} {i:Nat} {x:α} (h:l[i]? =lD x):l.set i x=l:=by obtain⟨hl,rfl⟩:=Lj.mp h;exact List.set_getElem_self hl
theorem vJ {α β:Type} (f:α->β->α) (a:α) (l:List β) (x:β):(l++[x]).foldl f a=f (l.foldl f a) x:=by rw[Uz];rfl
theorem He {L:List Wy} {i:Nat} {d:D} (h:(L.map bD)[i]? =lD d):∃w,L[i]? =lD w/\d=bD w:=by rw[Ls] at h;obtain⟨e,h1,h2⟩:=Mo.mp h;exact⟨e,h1,h2.symm⟩
theorem DT {O:Mp} {w:Wy} (hw:kB w.lo/\kB w.sh) (hO:∀q∈O,kB q.2.lo/\kB q.2.sh):∀q∈jv O w,kB q.2.lo/\kB q.2.sh:=fun q hq=>by
 rcases jQ hq with e|e
 ·subst e;exact hw
 ·exact hO q e
theorem uc:∀{ws:List Wy} {O:Mp},(∀w∈ws,kB w.lo/\kB w.sh)->(∀q∈O,kB q.2.lo/\kB q.2.sh)->∀q∈gi O ws,kB q.2.lo/\kB q.2.sh
 |[],_,_,h=>h
 |w::ws,O,hw,hO=>uc (ws:=ws) (O:=jv O w) (fun z hz=>hw z (Ly _ hz)) (DT (hw w (LG ..)) hO)
theorem uy {O:Mp} {ws:List Wy} {ω:aX} {i j:Nat} (hij:i≠j) (hi:ω[i]? =lD (.dd (eR O))) (hj:ω[j]? =lD (.lst ((ws.map bD).map .fz))) (hw:∀w∈ws,kB w.lo/\kB w.sh) (hO:∀q∈O,kB q.2.lo/\kB q.2.sh) (hl:O.length+ws.length<=1000):
  kf [.rf i,.rf j] ω= .ok (.fz .none) ((ω.set j .dead).set i (.dd (eR (gi O ws)))):=by
 obtain⟨x,ω',e,rfl,rfl⟩:=pZ (n:=4) (g:=lN) (xs:=[.rf i,.rf j]) (ω:=ω) (ρ:=[lD (.rf i),lD (.rf j),Ld,Ld]) (T:=fun x ω'=>x= .fz .none/\ω'=(ω.set j .dead).set i (.dd (eR (gi O ws)))) rfl (by
  unfold lN;refine Bz (fun n ρ ω'=>(∃t2 t3,ρ=[lD (.rf i),lD (.rf j),t2,t3])/\ω'=(ω.set j .dead).set i (.dd (eR (gi O (ws.take n))))) (ds:=ws.map bD) (ω1:=ω.set j .dead) (HF (i:=j) (bG rfl) hj) ⟨⟨Ld,Ld,rfl⟩,?_⟩ ?_ ?_
  ·rw[Pa];show ω.set j .dead=(ω.set j .dead).set i (.dd (eR O));have h:(ω.set j .dead)[i]? =lD (.dd (eR O)):=(fN (Ne.symm hij)).trans hi;exact(AJ h).symm
  ·rintro n d ρ ω' hd ⟨⟨t2,t3,rfl⟩,rfl⟩
   obtain⟨w,Tg,rfl⟩:=He hd;have Pm:=(Lj.mp Tg).1;have hOn:=uc (ws:=ws.take n) (O:=O) (fun w hm=>hw w (Qo hm)) hO;have hln:(gi O (ws.take n)).length<=1000:=by have:=tP (ws.take n) O;rw[Ms] at this;omega
   have ex:gi O (ws.take (n+1))=jv (gi O (ws.take n)) w:=by rw[eC Tg];unfold gi;rw[vJ]
   rw[ex];generalize gi O (ws.take n)=P at hOn hln;have hc:((ω.set j .dead).set i (.dd (eR P)))[i]? =lD (.dd (eR P)):=mZ ((fN (Ne.symm hij)).trans hi);refine⟨[lD (.rf i),lD (.rf j),lD (.fz (bD w)),t3],_,rfl,?_⟩;have x1:=(JJ w).2.1;refine eX (x:= .fz (sD w.r)) (ω1:=(ω.set j .dead).set i (.dd (eR P))) (ρ1:=[lD (.rf i),lD (.rf j),lD (.fz (bD w)),lD (.fz (sD w.r))]) (bf (aZ (rv:= .fz (sD w.r)) (af rfl) cR rfl rfl x1)) rfl ?_;have mw:=hw w (LH Tg);have hg:∃v:Wy,KM (bw (eR P) (sD w.r)) (.fz (bD w))= .fz (bD v)/\v=(jy P w.r).getD w/\kB v.lo/\kB v.sh:=by
    rw[lZ];cases g:jy P w.r with
    |none=>exact⟨w,rfl,rfl,mw⟩
    |some v=>exact⟨v,rfl,rfl,hOn _ (kj g)⟩
   obtain⟨v,ev,evd,cv⟩:=hg;have g2:=yY (ρ:=[lD (.rf i),lD (.rf j),lD (.fz (bD w)),lD (.fz (sD w.r))]) (fd:=bV 0) (fk:=aL (ae 3)) (fx:=aL (ae 2)) (bG rfl) hc (bf (af rfl)) (bf (af rfl)) (iV w.r) hc;rw[ev] at g2;have mn:wu [bD w,bD v]=lD (.fz (bD (km w v))):=by
    have ho:LD.RJ [bD w,bD v]=Lk:=AU (L:=[w,v]) fun z hz=>by
     rcases LN.mp hz with e|hz
     ·subst e;exact mw
     ·rw[Lx.mp hz];exact cv
    show(if LD.RJ [bD w,bD v]=Lk then lD (RV.fz (if LD.Ot (bD v) (bD w)=lD Lk then bD v else bD w)) else Ld)=_;rw[if_pos ho];unfold km;split<;>rfl
   refine Bv (tX (d:=bD (km w v)) (k:=sD w.r) (Fo (xs:=[.fz (bD w),.fz (bD v)]) (ds:=[bD w,bD v]) (cu (bf (af rfl)) (cu g2 eU)) rfl mn) (bG rfl) (bf (af rfl)) (iV w.r) hc (by rw[qI];omega)) ⟨⟨_,_,rfl⟩,?_⟩;rw[List.set_set,wI];unfold jv;rw[<-evd]
  ·rintro ρ ω' ⟨⟨t2,t3,rfl⟩,rfl⟩;rw[Lh,M7];exact⟨rfl,rfl⟩)
 exact e
def JS (B:List Wd) (W:Mp) (w:Wy):Prop:=w∈bN B\/∃a∈W,w∈c8 B a.2
inductive Rc (B:List Wd):Wy->Prop
 |fst {w}:w∈bN B->Rc B w
 |Xv {a w}:Rc B a->w∈c8 B a->Rc B w
structure Bd (B:List Wd) (W O:Mp):Prop where
 w:∀q∈W,q.2.p<=6+6*W.length
 o:∀q∈O,q.2.p<=6+6*W.length
 gw:∀q∈W,JS B W q.2/\Rc B q.2
 go:∀q∈O,JS B W q.2/\Rc B q.2
theorem Au {B:List Wd} (hB:BB B):∀{L:List (List Nat)},JA B L->L.length<=(wr B L).length
 |[],_=>Mr _
 |w::L,h=>by obtain⟨s,hs⟩:=Dg (h w (LG ..));have h1:1<=s.length:=hB.s1 _ (mM hs);have h2:=Au hB (L:=L) fun z hz=>h z (Ly _ hz);rw[lU,hs,Lu,Ln];show L.length+1<=s.length+_;omega
theorem Ex {B:List Wd} (hB:BB B) {q:Rs×Wy} (h:Vw B q):q.2.lo.length<=q.2.p/\q.2.sh.length<=q.2.p:=by have h1:=Au hB h.i;have h2:=Au hB h.j;have h3:=congrArg NP h.e;rw[Ln] at h3;have:=h.p;omega
theorem Gc {B:List Wd} (hB:BB B) {a w:Wy} (h:w∈c8 B a):w.p<=a.p+6:=by
 unfold c8 at h;split at h
 ·cases h
 ·obtain⟨e,he,h⟩:=M5.mp h
  have h3:=hB.s6 e he;unfold nx at h;split at h
  ·cases h;exact Ra _ _
  ·split at h
   ·cases h;show a.p+(e.2.drop a.r.length).length<=_;rw[M6];omega
   ·cases h
theorem iJ:∀{ws:List Wy} {O:Mp} {q:Rs×Wy},q∈gi O ws->q∈O\/∃w∈ws,q=(w.r,w)
 |[],_,_,h=> .inl h
 |w::ws,O,q,h=>by
  rcases iJ (ws:=ws) (O:=jv O w) h with h|⟨z,hz,e⟩
  ·rcases jQ h with e|e
   ·exact .inr ⟨w,LG ..,e⟩
   ·exact .inl e
  ·exact .inr ⟨z,Ly _ hz,e⟩
theorem yM {B:List Wd} (hB:BB B):∀q∈gi [] (bN B),q.2.p<=6+6*([]:Mp).length:=fun q hq=>by
 rcases iJ hq with h|⟨w,hw,rfl⟩
 ·cases h
 ·obtain⟨e,he,hw⟩:=Nw.mp hw
  obtain⟨f,hf,hw⟩:=M5.mp hw;unfold a9 at hw;split at hw
  ·cases hw;have:=hB.s6 f hf;show f.2.length<=6+6*0;omega
  ·cases hw
theorem B1 {B:List Wd} (hB:BB B):Bd B [] (gi [] (bN B)):=⟨fun _ z=>(by cases z),(yM hB),fun _ z=>(by cases z),fun q hq=>by
 rcases iJ hq with h|⟨w,hw,rfl⟩
 ·cases h
 ·exact⟨.inl hw,.fst hw⟩⟩
theorem Dw {B:List Wd} (hB:BB B) {W O:Mp} (h:Bd B W O) {b:Rs×Wy} (hb:b∈O):Bd B (W++[b]) (gi (fU O b.1) (vD B W b)):=by
 have hl:(W++[b]).length=W.length+1:=by rw[Ln];rfl
 have up:∀{w:Wy},JS B W w->JS B (W++[b]) w:=fun h=>h.imp id fun⟨a,h1,h2⟩=>⟨a,Mm _ h1,h2⟩;refine⟨fun q hq=> ?_,fun q hq=> ?_,fun q hq=> ?_,fun q hq=> ?_⟩
 ·rw[hl]
  rcases LM.mp hq with hq|hq
  ·have:=h.w q hq;omega
  ·rw[Lx.mp hq];have:=h.o b hb;omega
 ·rw[hl]
  rcases iJ hq with hq|⟨w,hw,rfl⟩
  ·have:=h.o q (MQ.mp hq).1;omega
  ·have h1:=Gc hB (MQ.mp hw).1;have h2:=h.o b hb;show w.p<=_;omega
 ·rcases LM.mp hq with hq|hq
  ·exact⟨up (h.gw q hq).1,(h.gw q hq).2⟩
  ·rw[Lx.mp hq];exact⟨up (h.go b hb).1,(h.go b hb).2⟩
 ·rcases iJ hq with hq|⟨w,hw,rfl⟩
  ·have:=h.go q (MQ.mp hq).1;exact⟨up this.1,this.2⟩
  ·have hw:=(MQ.mp hw).1;exact⟨.inr ⟨b,LO _ (Lx.mpr rfl),hw⟩,.Xv (h.go b hb).2 hw⟩
theorem GN {B:List Wd} (hB:BB B) {W O:Mp} (h:Iv B W O):(∀q∈W,kB q.2.lo/\kB q.2.sh)/\∀q∈O,kB q.2.lo/\kB q.2.sh:=
 ⟨fun q hq=>⟨iO hB (h.wk q hq).i,iO hB (h.wk q hq).j⟩,fun q hq=>⟨iO hB (h.ok q hq).i,iO hB (h.ok q hq).j⟩⟩
theorem AX {c:og} {b:gM} {N C:aQ->aX->Prop} {T:SV->aX->Prop} (I:Nat->aQ->aX->Prop) (hs:∀m ρ ω,I m ρ ω->(c ρ ω= .ok Lw ω/\N ρ ω)\/(c ρ ω= .ok Lk ω/\OU (b ρ ω) (fun ρ' ω'=>∃m',m'<m/\I m' ρ' ω') (fun _ _=>False) T)):∀(n m:Nat) (ρ:aQ) (ω:aX),m<n->I m ρ ω->OU (oA c b n ρ ω) N C T
 |0,m,_,_,h,_=>by omega
 |n+1,m,ρ,ω,h,h0=>by
  rcases hs m ρ ω h0 with⟨h1,h2⟩|⟨h1,h2⟩
  ·refine⟨?_⟩;unfold oA;rw[h1,RS.bind_ok,if_neg LA];exact h2
  ·have h2:=h2.out
   unfold oA;refine .eq (r':=(b ρ ω).bind fun fl ω2=>match fl with
    | .nx ρ2=>oA c b n ρ2 ω2
    | .ct ρ2=>oA c b n ρ2 ω2
    | .bk ρ2=> .ok (.nx ρ2) ω2
    | .rt x=> .ok (.rt x) ω2) (by rw[h1,RS.bind_ok,if_pos rfl]<;>rfl) ?_
   cases q:b ρ ω with
   |bad=>rw[q] at h2;exact h2.elim
   |er x o=>rw[q] at h2;exact h2.elim
   |ok fl o=>
    rw[q] at h2;cases fl with
    |nx r=>obtain⟨m',hm,hI⟩:=h2;exact AX I hs n m' r o (by omega) hI
    |ct r=>exact h2.elim
    |rt v=>exact⟨h2⟩
    |bk r=>exact h2.elim
theorem jA {gt:om} {ft:og} {fe:c7} {ω:aX} {α:Type} (e:α->D) (f:α->SV) (p:α->Bool) (I:aQ->Prop):∀(xs:List α) (ρ:aQ) (acc:List SV),I ρ->acc.length+xs.length<=1000000->(∀x∈xs,∀ρ,I ρ->∃ρ',gt (.fz (e x)) ρ ω= .ok ρ' ω/\ft ρ' ω= .ok (p x) ω/\fe ρ' ω= .ok (f x) ω/\I ρ')->bM gt ft fe (xs.map e) ρ ω acc= .ok (acc++(xs.filter p).map f) ω
 |[],ρ,acc,_,_,_=>by show RS.ok acc ω=_;rw[List.filter_nil,LY,L6]
 |x::r,ρ,acc,h0,hl,hs=>by
  obtain⟨ρ',h1,h2,h3,h4⟩:=hs x LG ρ h0;rw[Lu] at hl;show((gt (.fz (e x)) ρ ω).bind _)=_;rw[h1,RS.bind_ok,h2,RS.bind_ok];cases hp:p x with
  |true=>rw[if_pos rfl,h3,RS.bind_ok,if_pos (by omega),jA e f p I r ρ' _ h4 (by rw[Ln,Mx];omega) fun y hy=>hs y (Ly _ hy),MR,if_pos hp,LP];rfl
  |false=>rw[if_neg LA,jA e f p I r ρ' _ h4 (by omega) fun y hy=>hs y (Ly _ hy),MR,if_neg (by rw[hp];exact LA)]
theorem xx (M:Mp) (r:Rs):(jy M r).isSome=decide (r∈M.map (·.1)):=by
 unfold jy;rw[NC];by_cases h:r∈M.map (·.1)
 ·rw[decide_eq_true h,NY];obtain⟨q,h1,h2⟩:=Lz.mp h;exact⟨q,h1,decide_eq_true h2⟩
 ·rw[decide_eq_false h]
  cases q:(M.find? fun q=>decide (q.1=r)).isSome with
  |false=>rfl
  |true=>rw[NY] at q;obtain⟨z,h1,h2⟩:=q;exact absurd (Lz.mpr ⟨z,h1,of_decide_eq_true h2⟩) h
theorem xV {M:Mp} (h:(M.map (·.1)).Nodup) {q:Rs×Wy} (hq:q∈M):jy M q.1=lD q.2:=by
 cases g:jy M q.1 with
 |none=>have:=xx M q.1;rw[g,decide_eq_true (Lz.mpr ⟨q,hq,rfl⟩)] at this;cases this
 |some w=>have:=uT h hq (kj g) rfl;rw[this]
theorem jB {α:Type} {l m:List α} {i:Nat} {x:α} (h:l[i]? =lD x):(l++m)[i]? =lD x:=by rw[LK (Lj.mp h).1];exact h
theorem nT {α:Type} {l:List α} {i:Nat} {x:α} (h:l[i]? =lD x):i<l.length:=(Lj.mp h).1
theorem zd {B:List Wd} (hB:BB B) (w:Wy):(c8 B w).length<=20:=by
 unfold c8;split
 ·exact Mr _
 ·exact LF (jK _ _) hB.SN
structure Tn (B:List Wd) (a b m:Nat) (ρ:aQ) (ω:aX):Prop where
 ex:∃(W O:Mp) (t3:Option SV),ρ=[lD (.fz (bx B)),lD (.rf a),lD (.rf b),t3]/\ω[a]? =lD (.dd (eR W))/\ω[b]? =lD (.dd (eR O))/\Full B W O/\Bd B W O/\m=150 - W.length
theorem sC {B:List Wd} (hB:BB B) (ω0:aX):∃(W:Mp) (ω':aX),df [.fz (bx B)] ω0= .ok (.rf ω0.length) ω'/\ω'[ω0.length]? =lD (.dd (eR W))/\Full B W []/\Bd B W []:=by
 have fo:=zD hB;obtain⟨x,ω',e,W,rfl,h1,h2,h3⟩:=pZ (n:=4) (g:=dr) (xs:=[.fz (bx B)]) (ω:=ω0) (ρ:=[lD (.fz (bx B)),Ld,Ld,Ld]) (T:=fun x ω'=>∃W,x= .rf ω0.length/\ω'[ω0.length]? =lD (.dd (eR W))/\Full B W []/\Bd B W []) rfl (by
  unfold dr;refine eX (x:= .rf ω0.length) (ω1:=ω0++[.dd []]) (ρ1:=[lD (.fz (bx B)),lD (.rf ω0.length),Ld,Ld]) rfl rfl ?_;have l1:(ω0++[Cell.dd []]).length=ω0.length+1:=by rw[Ln];rfl
  refine eX (x:= .rf (ω0.length+1)) (ω1:=ω0++[.dd []]++[.dd []]) (ρ1:=[lD (.fz (bx B)),lD (.rf ω0.length),lD (.rf (ω0.length+1)),Ld]) (by unfold ri;rw[l1]) rfl ?_;have l2:(ω0++[Cell.dd []]++[Cell.dd []]).length=ω0.length+2:=by rw[Ln,l1];rfl
  have ca:(ω0++[Cell.dd []]++[Cell.dd []])[ω0.length]? =lD (.dd (eR [])):=jB aU;have cb:(ω0++[Cell.dd []]++[Cell.dd []])[ω0.length+1]? =lD (.dd (eR [])):=by rw[<-l1];exact aU
  generalize ω0++[Cell.dd []]++[Cell.dd []]=ω1 at l2 ca cb;have lf:=nR hB;have fl:aL (cn dE 1 (aa (ae 0) aq)) [lD (.fz (bx B)),lD (.rf ω0.length),lD (.rf (ω0.length+1)),Ld] ω1= .ok (.rf ω1.length) (ω1++[.lst (((bN B).map bD).map .fz)]):=mL (c9 (rv:= .ow ((bN B).map bD)) (am (af rfl) ay) rfl rfl fo);have cj:(ω1++[Cell.lst (((bN B).map bD).map .fz)])[ω1.length]? =lD (.lst (((bN B).map bD).map .fz)):=aU;have of:=uy (i:=ω0.length+1) (j:=ω1.length) (ω:=ω1++[Cell.lst (((bN B).map bD).map .fz)]) (O:=[]) (ws:=bN B) (by omega) (jB cb) cj (fun w hw=>⟨iO hB (kH hB hw).i,iO hB (kH hB hw).j⟩) (fun _ z=>(by cases z)) (by show 0+_<=_;omega);refine yh (x:= .fz .none) (rZ (xs:=[.rf (ω0.length+1),.rf ω1.length]) (cu (bG rfl) (cu fl eU)) rfl of) ?_;refine jJ (AX (Tn B ω0.length (ω0.length+1)) (fun m ρ ω hT=> ?_) 1000000 150 _ _ (by omega) ⟨[],_,Ld,rfl,?_,?_,Aj hB,B1 hB,rfl⟩)
  ·obtain⟨W,O,t3,rfl,ha,hb,hF,hD,rfl⟩:=hT.ex
   have l16:=sf hB hF.iv;have ne:=Ea (fd:=bV 2) (ρ:=[lD (.fz (bx B)),lD (.rf ω0.length),lD (.rf (ω0.length+1)),t3]) (bG rfl) hb;cases O with
   |nil=>exact .inl ⟨d8 ne,u6 (bG rfl) ⟨W,rfl,ha,hF,hD⟩⟩
   |cons o1 Or=>
    refine .inr ⟨d8 ne,?_⟩;obtain⟨q,hq,hm,hp⟩:=HX (O:=o1::Or) (by simp);generalize o1::Or=O at*;obtain⟨cw,co⟩:=GN hB hF.iv;have kq:=hF.iv.ok q hq;obtain⟨_,x1,_,_⟩:=JJ q.2;rw[kq.k] at x1;have oko:LD.RJ ((eR O).map (·.2))=Lk:=by
     have ec:(eR O).map (·.2)=(O.map (·.2)).map bD:=by unfold eR;rw[Mq,Mq];rfl
     rw[ec];exact AU fun w hw=>by obtain⟨z,hz,rfl⟩:=Lz.mp hw;exact co z hz
    refine eX (x:= .fz (bD q.2)) (ω1:=ω) (ρ1:=[lD (.fz (bx B)),lD (.rf ω0.length),lD (.rf (ω0.length+1)),lD (.fz (bD q.2))]) (CN (bG rfl) hb oko hm) rfl ?_;have gq:bw (eR O) (sD q.1)=lD (bD q.2):=by rw[lZ,xV hF.iv.on hq];rfl
    have pop:=A5 (fd:=bV 2) (fk:=aL (aG eO (ae 3) (pC (.int 1)))) (ρ:=[lD (.fz (bx B)),lD (.rf ω0.length),lD (.rf (ω0.length+1)),lD (.fz (bD q.2))]) (bG rfl) hb (bf (aZ (rv:= .fz (sD q.1)) (af rfl) cR rfl rfl x1)) (iV q.1) hb gq;rw[A8] at pop;have Z9:(ω.set (ω0.length+1) (.dd (eR (fU O q.1))))[ω0.length]? =lD (.dd (eR W)):=(fN (by omega)).trans ha;have Xq:(ω.set (ω0.length+1) (.dd (eR (fU O q.1))))[ω0.length+1]? =lD (.dd (eR (fU O q.1))):=mZ hb;generalize ω.set (ω0.length+1) (.dd (eR (fU O q.1)))=ω2 at pop Z9 Xq;have nw:q.1∉W.map (·.1):=fun z=>by obtain⟨a,h1,h2⟩:=Lz.mp z;exact hF.iv.dj a h1 q hq h2
    have pt:=tX (fd:=bV 1) (fk:=aL (aG eO (ae 3) (pC (.int 1)))) (d:=bD q.2) pop (bG rfl) (bf (aZ (rv:= .fz (sD q.1)) (af rfl) cR rfl rfl x1)) (iV q.1) Z9 (by rw[qI];omega);rw[wI,DK nw] at pt;refine IW pt ?_;have Zq:(ω2.set ω0.length (.dd (eR (W++[(q.1,q.2)]))))[ω0.length]? =lD (.dd (eR (W++[q]))):=mZ Z9;have TZ:(ω2.set ω0.length (.dd (eR (W++[(q.1,q.2)]))))[ω0.length+1]? =lD (.dd (eR (fU O q.1))):=(fN (by omega)).trans Xq;generalize ω2.set ω0.length (.dd (eR (W++[(q.1,q.2)])))=ω3 at Zq TZ;have sl:=Ex hB kq;have pb:=hD.o q hq;have nx2:=Dx hB kq.n.2 (by omega);have nl:=zd hB q.2;have it:mS (gX (cn eP 2 (aa (ae 0) (aa (ae 3) aq)))) [lD (.fz (bx B)),lD (.rf ω0.length),lD (.rf (ω0.length+1)),lD (.fz (bD q.2))] ω3= .ok ((c8 B q.2).map bD) ω3:=ud (cM (d:= .list ((c8 B q.2).map bD)) (c9 (rv:= .ow ((c8 B q.2).map bD)) (am (af rfl) (am (af rfl) ay)) rfl rfl nx2) rfl rfl);have cp:=jA (gt:=lz 0) (ft:=gA (lg Lk (aL (aG eO (ae 0) (pC (.int 1)))) (bV 1))) (fe:=aL (ae 0)) (ω:=ω3) bD (fun w=>SV.fz (bD w)) (fun n=> !decide (n.r∈(W++[q]).map (·.1))) (fun ρ=>∃t0,ρ=[t0,lD (.rf ω0.length)]) (c8 B q.2) [Ld,lD (.rf ω0.length)] [] ⟨Ld,rfl⟩ (by show 0+_<=_;omega) (by rintro w hw ρ ⟨t0,rfl⟩;refine⟨[lD (.fz (bD w)),lD (.rf ω0.length)],rfl,?_,bf (af rfl),_,rfl⟩;have:=pS (neg:=Lk) (fk:=aL (aG eO (ae 0) (pC (.int 1)))) (fd:=bV 1) (ρ:=[lD (.fz (bD w)),lD (.rf ω0.length)]) (bf (aZ (rv:= .fz (sD w.r)) (af rfl) cR rfl rfl (JJ w).2.1)) (bG rfl) (iV w.r) Zq;rw[lZ,NC,xx,Wu] at this;exact d8 this);rw[Oh] at cp;have cl:=DF (n:=1) (fj:=[1]) (ρ:=[lD (.fz (bx B)),lD (.rf ω0.length),lD (.rf (ω0.length+1)),lD (.fz (bD q.2))]) it cp;have nf:(vD B W q).length<=20:=LF (Qh _ _) nl;have cj:(ω3++[Cell.lst (((c8 B q.2).filter fun n=> !decide (n.r∈(W++[q]).map (·.1))).map fun w=>SV.fz (bD w))])[ω3.length]? =lD (.lst (((vD B W q).map bD).map .fz)):=by rw[Mq];exact aU
    have ol:(fU O q.1).length<=140:=LF (Qh _ _) (by omega);have kb2:Vw B (q.2.r,q.2):=by rw[kq.k];exact kq
    have of:=uy (i:=ω0.length+1) (j:=ω3.length) (O:=fU O q.1) (ws:=vD B W q) (by have:=nT TZ;omega) (jB TZ) cj (fun w hw=>by have:=(nS hB kb2 (MQ.mp hw).1).1;exact⟨iO hB this.i,iO hB this.j⟩) (fun z hz=>co z (MQ.mp hz).1) (by omega);refine x5 (x:= .fz .none) (rZ (xs:=[.rf (ω0.length+1),.rf ω3.length]) (cu (bG rfl) (cu cl eU)) rfl of) ⟨150 - (W++[q]).length,by rw[Ln,Mx];omega,⟨W++[q],_,_,rfl,?_,?_,Dl hB hF hq hp,Dw hB hD hq,rfl⟩⟩
    ·rw[fN (by omega),fN (by have:=nT Zq;omega)];exact jB Zq
    ·exact mZ ((fN (by have:=nT TZ;omega)).trans (jB TZ))
  ·rw[fN (by omega),fN (by omega)];exact jB ca
  ·exact mZ ((fN (by omega)).trans (jB cb)))
 exact⟨W,ω',e,h1,h2,h3⟩
noncomputable def kK {α:Type} [DecidableEq α] (lt:α->α->Bool):List α->List α->Bool
 |[],[]=>Lw
 |[],_::_=>Lk
 |_::_,[]=>Lw
 |x::xs,y::ys=>if x=y then kK lt xs ys else lt x y
structure V0 {α:Type} (lt:α->α->Bool):Prop where
 UP:∀a,lt a a=Lw
 tr:∀a b c,lt a b=Lk->lt b c=Lk->lt a c=Lk
 Uk:∀a b,lt a b=Lw->lt b a=Lw->a=b
theorem V0.aaQ {α:Type} {lt:α->α->Bool} (h:V0 lt) {a b:α} (k:lt a b=Lk):lt b a=Lw:=by
 cases q:lt b a with
 |false=>rfl
 |true=>have:=h.tr a b a k q;rw[h.UP] at this;cases this
theorem V0.lex {α:Type} [DecidableEq α] {lt:α->α->Bool} (h:V0 lt):V0 (kK lt) where
 UP:=fun a=>by
  induction a with
  |nil=>rfl
  |cons x a ih=>rw[kK,if_pos rfl];exact ih
 tr:=fun a=>by
  induction a with
  |nil=>
   intro b c h1 h2;cases b with
   |nil=>cases h1
   |cons y b=>cases c with
    |nil=>cases h2
    |cons z c=>rfl
  |cons x a ih=>
   intro b c h1 h2;cases b with
   |nil=>cases h1
   |cons y b=>cases c with
    |nil=>cases h2
    |cons z c=>
     rw[kK] at h1 h2⊢;by_cases e1:x=y
     ·subst e1
      rw[if_pos rfl] at h1;by_cases e2:x=z
      ·rw[if_pos e2] at h2⊢;exact ih b c h1 h2
      ·rw[if_neg e2] at h2⊢;exact h2
     ·rw[if_neg e1] at h1
      by_cases e2:y=z
      ·subst e2;rw[if_neg e1];exact h1
      ·rw[if_neg e2] at h2;have:=h.tr x y z h1 h2;rw[if_neg (fun e=>by rw[e,h.UP] at this;cases this)];exact this
 Uk:=fun a=>by
  induction a with
  |nil=>intro b h1 _;cases b with
   |nil=>rfl
   |cons y b=>cases h1
  |cons x a ih=>
   intro b h1 h2;cases b with
   |nil=>cases h2
   |cons y b=>
    rw[kK] at h1 h2;by_cases e:x=y
    ·subst e;rw[if_pos rfl] at h1 h2;rw[ih b h1 h2]
    ·rw[if_neg e] at h1;rw[if_neg (Ne.symm e)] at h2;exact absurd (h.Uk x y h1 h2) e
noncomputable def Gf (a b:Int):Bool:=decide (a<b)
theorem IH:V0 Gf where
 UP:=fun a=>decide_eq_false (Int.lt_irrefl a)
 tr:=fun a b c h1 h2=>decide_eq_true (XN (of_decide_eq_true h1) (of_decide_eq_true h2))
 Uk:=fun a b h1 h2=>by have:=of_decide_eq_false h1;have:=of_decide_eq_false h2;omega
noncomputable abbrev yZ:Rs->Rs->Bool:=kK (kK Gf)
theorem tR:V0 yZ:=IH.lex.lex
theorem B4:∀a b:List Int,LD.Nu (a.map Lg.int) (b.map Lg.int)=lD (kK Gf a b)
 |[],[]=>by rw[LY,LD.Nu];rfl
 |[],_::_=>by rw[LY,Lo,LD.Nu];rfl
 |_::_,[]=>by rw[LY,Lo,LD.Nu];rfl
 |x::a,y::b=>by
  rw[Lo,Lo,LD.Nu,kK];have e:Lg.eqv (.int x) (.int y)=decide (x=y):=by rw[Lg.eqv];by_cases h:x=y<;>simp[h]
  rw[e];by_cases h:x=y
  ·rw[if_pos (decide_eq_true h),if_pos h];exact B4 a b
  ·rw[if_neg (by rw[decide_eq_false h];exact LA),if_neg h,LD.Ot];rfl
theorem Fm (x y:List Int):Lg.eqv (kD x) (kD y)=decide (x=y):=by unfold kD;rw[Lg.eqv];exact F3 x y
theorem zF:∀a b:Rs,LD.Nu (a.map kD) (b.map kD)=lD (yZ a b)
 |[],[]=>by rw[LY,LD.Nu];rfl
 |[],_::_=>by rw[LY,Lo,LD.Nu];rfl
 |_::_,[]=>by rw[LY,Lo,LD.Nu];rfl
 |x::a,y::b=>by
  rw[Lo,Lo,LD.Nu,Fm];show _=lD (if x=y then yZ a b else kK Gf x y);by_cases h:x=y
  ·rw[if_pos (decide_eq_true h),if_pos h];exact zF a b
  ·rw[if_neg (by rw[decide_eq_false h];exact LA),if_neg h];unfold kD;rw[LD.Ot];exact B4 x y
abbrev Rp:=Rs×Nat
noncomputable def aJ (a:Rp):D:= .tuple [sD a.1,nd a.2]
noncomputable def EK (a b:Rp):Bool:=if a.1=b.1 then decide (a.2<b.2) else yZ a.1 b.1
theorem x9:V0 EK where
 UP:=fun a=>by unfold EK;rw[if_pos rfl];exact decide_eq_false (MC _)
 tr:=fun a b c h1 h2=>by
  unfold EK at*;by_cases e1:a.1=b.1
  ·rw[if_pos e1] at h1
   rw[e1];by_cases e2:b.1=c.1
   ·rw[if_pos e2] at h2⊢;exact decide_eq_true (OX (of_decide_eq_true h1) (of_decide_eq_true h2))
   ·rw[if_neg e2] at h2⊢;exact h2
  ·rw[if_neg e1] at h1
   by_cases e2:b.1=c.1
   ·rw[<-e2,if_neg e1];exact h1
   ·rw[if_neg e2] at h2;have:=tR.tr _ _ _ h1 h2;rw[if_neg (fun e=>by rw[e,tR.UP] at this;cases this)];exact this
 Uk:=fun a b h1 h2=>by
  unfold EK at*;by_cases e:a.1=b.1
  ·rw[if_pos e] at h1;rw[if_pos e.symm] at h2;have:=of_decide_eq_false h1;have:=of_decide_eq_false h2;exact Prod.ext e (by omega)
  ·rw[if_neg e] at h1;rw[if_neg (Ne.symm e)] at h2;exact absurd (tR.Uk _ _ h1 h2) e
theorem tO (a b:Rp):LD.Ot (aJ a) (aJ b)=lD (EK a b):=by
 unfold aJ EK;rw[LD.Ot,LD.Nu,gu];by_cases e:a.1=b.1
 ·rw[if_pos (decide_eq_true e),if_pos e,LD.Nu]
  by_cases e2:a.2=b.2
  ·have:Lg.eqv (nd a.2) (nd b.2)=Lk:=by rw[e2];unfold nd;rw[Lg.eqv];simp
   rw[if_pos this,LD.Nu,e2];simp
  ·have:¬Lg.eqv (nd a.2) (nd b.2)=Lk:=by unfold nd;rw[Lg.eqv];simp;omega
   rw[if_neg this];unfold nd;rw[LD.Ot];congr 1;exact decide_eq_decide.mpr (by omega)
 ·rw[if_neg (by rw[decide_eq_false e];exact LA),if_neg e];unfold sD;rw[LD.Ot];exact zF _ _
theorem J5 {a b:Rs} (h:sD a=sD b):a=b:=by
 have:=gu a b;rw[h] at this;have r:Lg.eqv (sD b) (sD b)=Lk:=by rw[gu];exact decide_eq_true rfl
 rw[r] at this;exact of_decide_eq_true this.symm
theorem zJ (a:Rp):(aJ a).canLay0=Lk/\(aJ a).depth<=32:=by
 unfold aJ sD nd;constructor
 ·rw[Lg.canLay0,Lg.canLayAll0,Lg.canLayAll0,Lg.canLayAll0,Lg.canLay0,Lg.canLay0,kQ];rfl
 ·rw[Lg.depth,Lg.depthAll,Lg.depthAll,Lg.depthAll,Lg.depth,Lg.depth];have:=iX a.1;omega
theorem E5 (L:List Rp):LD.VC (L.map aJ) where
 ok:=by unfold LD.RJ;rw[Mu];intro a ha;obtain⟨x,_,rfl⟩:=Lz.mp ha;obtain⟨h1,h2⟩:=zJ x;rw[h1,decide_eq_true h2,Oe,Oe,Mu];intro b hb;obtain⟨y,_,rfl⟩:=Lz.mp hb;rw[tO];rfl
 UP:=fun a ha=>by obtain⟨x,_,rfl⟩:=Lz.mp ha;rw[tO,x9.UP]
 tr:=fun a ha b hb c hc h1 h2=>by obtain⟨x,_,rfl⟩:=Lz.mp ha;obtain⟨y,_,rfl⟩:=Lz.mp hb;obtain⟨z,_,rfl⟩:=Lz.mp hc;rw[tO] at*;rw[x9.tr x y z (LZ h1) (LZ h2)]
 Uk:=fun a ha b hb h1 h2=>by obtain⟨x,_,rfl⟩:=Lz.mp ha;obtain⟨y,_,rfl⟩:=Lz.mp hb;rw[tO] at h1 h2;rw[x9.Uk x y (LZ h1) (LZ h2)]
 tup:=fun a ha=>by obtain⟨x,_,rfl⟩:=Lz.mp ha;exact⟨_,_,rfl⟩
theorem wR {α:Type} {lt:α->α->Bool} (h:V0 lt):∀l:List α,∃m:List α,m.Perm l/\m.Pairwise fun a b=>lt b a=Lw
 |[]=>⟨[],.refl _,.nil⟩
 |x::l=>by
  obtain⟨m,p,s⟩:=wR h l;have ins:∀m:List α,m.Pairwise (fun a b=>lt b a=Lw)->∃k:List α,k.Perm (x::m)/\k.Pairwise fun a b=>lt b a=Lw:=by
   intro m
   induction m with
   |nil=>intro _;exact⟨[x],.refl _,Sw _ _⟩
   |cons y m ih=>
    intro s;obtain⟨s1,s2⟩:=Nx.mp s;cases q:lt y x with
    |false=>
     refine⟨x::y::m,.refl _,Nx.mpr ⟨fun z hz=> ?_,s⟩⟩;rcases LN.mp hz with rfl|hz
     ·exact q
     ·cases q2:lt z x with
      |false=>rfl
      |true=>
       cases q3:lt x y with
       |true=>have:=h.tr z x y q2 q3;rw[s1 z hz] at this;cases this
       |false=>rw[h.Uk x y q3 q,s1 z hz] at q2;cases q2
    |true=>
     obtain⟨k,p,s3⟩:=ih s2;refine⟨y::k,(p.cons y).trans (.swap x y m),Nx.mpr ⟨fun z hz=> ?_,s3⟩⟩;rcases LN.mp (p.mem_iff.mp hz) with rfl|hz
     ·exact h.aaQ q
     ·exact s1 z hz
  obtain⟨k,p2,s2⟩:=ins m s;exact⟨k,p2.trans (p.cons x),s2⟩
structure Za (B:List Wd) (L:List Rp):Prop where
 up:L.Pairwise fun a b=>yZ a.1 b.1=Lk
 fst:∀f∈bN B,∃a∈L,a.1=f.r/\a.2<=f.p
 Xv:∀a∈L,∀e∈B,a.1≠[]->(bg e.2 a.1=Lk->∃b∈L,b.1=a.1.drop e.2.length/\b.2<=a.2)/\(bg a.1 e.2=Lk->∃b∈L,b.1=e.2.drop a.1.length/\b.2<=a.2+(e.2.length - a.1.length))
 org:∀a∈L,(∃f∈bN B,f.r=a.1/\f.p=a.2)\/∃b∈L,b.1≠[]/\∃e∈B,(bg e.2 b.1=Lk/\a=(b.1.drop e.2.length,b.2))\/(bg b.1 e.2=Lk/\a=(e.2.drop b.1.length,b.2+(e.2.length - b.1.length)))
 len:L.length<=140
 suf:∀a∈L,a.1∈uW B
noncomputable def rp (q:Rs×Wy):Rp:=(q.1,q.2.p)
theorem HY {B:List Wd} (hB:BB B) {W:Mp} (hF:Full B W []) (hD:Bd B W []) {L:List Rp} (p:L.Perm (W.map rp)) (s:L.Pairwise fun a b=>EK b a=Lw):Za B L:=by
 have inL:∀q∈W,rp q∈L:=fun q hq=>p.mem_iff.mpr (Lz.mpr ⟨q,hq,rfl⟩);have ofL:∀a∈L,∃q∈W,rp q=a:=fun a ha=>Lz.mp (p.mem_iff.mp ha);have nd:(L.map (·.1)).Nodup:=by
  have:(L.map (·.1)).Perm (W.map (·.1)):=by have:=p.map (·.1);rwa [Mq] at this
  exact this.nodup_iff.mpr hF.iv.wn
 have gt:∀{r:Rs} {n:Nat},Gt W r n->∃a∈L,a.1=r/\a.2<=n:=fun⟨q,h1,h2,h3⟩=>⟨rp q,inL q h1,h2,h3⟩;have f1:=hF.fst;have f2:=hF.Xv;rw[L6] at f1 f2;refine⟨?_,fun f hf=>gt (f1 f hf),fun a ha e he OK=> ?_,fun a ha=> ?_,?_,fun a ha=> ?_⟩
 ·have nd2:L.Pairwise fun a b=>a.1≠b.1:=Ov.mp nd
  refine(s.and nd2).imp fun{a b} h=> ?_;have h1:=h.1;unfold EK at h1;rw[if_neg (Ne.symm h.2)] at h1;cases q:yZ a.1 b.1 with
  |true=>rfl
  |false=>exact absurd (tR.Uk _ _ q h1) h.2
 ·obtain⟨q,hq,rfl⟩:=ofL a ha
  have hk:=(hF.iv.wk q hq).k;have hr:q.2.r≠[]:=by rw[hk];exact OK
  have nm:∀{n:Wy},nx q.2 e=lD n->Gt W n.r n.p:=fun{n} hn=>f2 q hq n (by unfold c8;rw[if_neg hr];exact M5.mpr ⟨e,he,hn⟩);have one:bg e.2 q.1=Lk->Gt W (q.1.drop e.2.length) q.2.p:=fun hb=>by have:=nm (n:=⟨q.2.p,q.2.r.drop e.2.length,q.2.lo,q.2.sh++[e.1]⟩) (by unfold nx;rw[if_pos (by rw[hk];exact hb)]);rw[hk] at this;exact this
  refine⟨fun hb=>gt (one hb),fun hb=> ?_⟩;have hb:bg q.1 e.2=Lk:=hb;show∃b∈L,b.1=e.2.drop q.1.length/\b.2<=q.2.p+(e.2.length - q.1.length);by_cases TZ:bg e.2 q.1=Lk
  ·obtain⟨c,hc⟩:=kL.mp hb
   obtain⟨c',Sj⟩:=kL.mp TZ;have hl:c=[]:=by have h1:=congrArg NP hc;have h2:=congrArg NP Sj;rw[Ln] at h1 h2;exact Sv.mp (by omega)
   subst hl;rw[L6] at hc;have:=one TZ;rw[hc,Vq] at this;rw[hc,Vq];obtain⟨a,h1,h2,h3⟩:=gt this;exact⟨a,h1,h2,LF h3 (Ra _ _)⟩
  ·have:=nm (n:=⟨q.2.p+(e.2.drop q.2.r.length).length,e.2.drop q.2.r.length,q.2.sh++[e.1],q.2.lo⟩) (by unfold nx;rw[if_neg (by rw[hk];exact TZ),if_pos (by rw[hk];exact hb)]);rw[hk,M6] at this;exact gt this
 ·obtain⟨q,hq,rfl⟩:=ofL a ha
  have hk:=(hF.iv.wk q hq).k;rcases(hD.gw q hq).1 with h|⟨b,hb,h⟩
  ·exact .inl ⟨q.2,h,hk,rfl⟩
  ·refine .inr ⟨rp b,inL b hb,?_⟩
   have kb:=(hF.iv.wk b hb).k;unfold c8 at h;split at h
   ·cases h
   ·rename_i hr
    obtain⟨e,he,h⟩:=M5.mp h;refine⟨by show b.1≠[];rw[<-kb];exact hr,e,he,?_⟩;unfold nx at h;split at h
    ·rename_i Xq;have h:=LZ h;refine .inl ⟨by show bg e.2 b.1=Lk;rw[<-kb];exact Xq,?_⟩;show(q.1,q.2.p)=(b.1.drop e.2.length,b.2.p);rw[<-hk,<-h,kb]
    ·split at h
     ·rename_i Xq;have h:=LZ h;refine .inr ⟨by show bg b.1 e.2=Lk;rw[<-kb];exact Xq,?_⟩;show(q.1,q.2.p)=(e.2.drop b.1.length,b.2.p+(e.2.length - b.1.length));rw[<-hk,<-h,kb,M6]
     ·cases h
 ·have:=sf hB hF.iv;rw[p.length_eq,Lh];omega
 ·obtain⟨q,hq,rfl⟩:=ofL a ha;exact vS hB (hF.iv.wk q hq)
theorem kt {α β γ:Type} {f:β->Option γ} {g:α->β} {h:α->γ}:∀{l:List α},(∀x∈l,f (g x)=lD (h x))->aw f (l.map g)=lD (l.map h)
 |[],_=>rfl
 |a::l,k=>by rw[Lo];unfold aw;rw[k a LG];dsimp only;rw[kt fun x hx=>k x (Ly _ hx)];rfl
theorem tq {B:List Wd} (hB:BB B):∃(L:List Rp) (j:Nat) (ω':aX),el [.fz (bx B)] []= .ok (.rf j) ω'/\ω'[j]? =lD (.lst ((L.map aJ).map .fz))/\Za B L:=by
 obtain⟨W,ω1,e,h1,hF,hD⟩:=sC hB [];have h1:ω1[0]? =lD (.dd (eR W)):=h1;obtain⟨L,p,s⟩:=wR x9 (W.map rp);refine⟨L,ω1.length+1,ω1++[.lst ((W.map fun q=>aJ (rp q)).map .fz)]++[.lst ((L.map aJ).map .fz)],?_,by rw[show ω1.length+1=(ω1++[Cell.lst ((W.map fun q=>aJ (rp q)).map .fz)]).length by simp];exact aU,HY hB hF hD p s⟩;unfold el rT;have rl:LD.Rg (eR W)=lD (W.map fun q=>aJ (rp q)):=by
  unfold LD.Rg;have l1:=sf hB hF.iv;rw[if_pos (by rw[qI];omega)];have em:(eR W).map (·.1)=W.map fun q=>sD q.1:=by unfold eR;rw[Mq];rfl
  rw[em];refine kt fun q hq=> ?_;unfold LD.restOf;rw[lZ,xV hF.iv.wn hq];rfl
 have rk:LD.RM 1 [lD (.fz (bx B)),lD (.rf 0)] ω1= .ok (.rf ω1.length) (ω1++[.lst ((W.map fun q=>aJ (rp q)).map .fz)]):=by unfold LD.RM;show((RS.ME ω1 (gB ω1 (.rf 0))).bind _)=_;rw[jq h1];show((RS.ME ω1 (LD.Rg (eR W))).bind _)=_;rw[rl];rfl
 have em:(W.map fun q=>aJ (rp q))=(W.map rp).map aJ:=by rw[Mq];rfl
 have sd:LD.QT (W.map fun q=>aJ (rp q))=L.map aJ:=by rw[em];refine LD.Sx (E5 _) (p.map aJ) ?_;unfold LD.Xd;exact Ov.mpr (s.imp fun{a b} h=>by rw[tO,h])
 have srt:LD.Tu (LD.RM 1) [lD (.fz (bx B)),lD (.rf 0)] ω1= .ok (.rf (ω1.length+1)) (ω1++[.lst ((W.map fun q=>aJ (rp q)).map .fz)]++[.lst ((L.map aJ).map .fz)]):=by
  unfold LD.Tu;rw[rk,RS.bind_ok];have la:LD.SH (ω1++[.lst ((W.map fun q=>aJ (rp q)).map .fz)]) (.rf ω1.length)=lD ((W.map fun q=>aJ (rp q)).map .fz):=by unfold LD.SH;dsimp only;rw[show(ω1++[Cell.lst ((W.map fun q=>aJ (rp q)).map .fz)])[ω1.length]? =lD (.lst ((W.map fun q=>aJ (rp q)).map .fz)) from aU]
  rw[la];show((RS.ME _ (aw nX ((W.map fun q=>aJ (rp q)).map .fz))).bind _)=_;rw[show aw nX ((W.map fun q=>aJ (rp q)).map SV.fz)=lD (W.map fun q=>aJ (rp q)) by have:=kt (f:=nX) (g:=SV.fz) (h:=fun d=>d) (l:=W.map fun q=>aJ (rp q)) fun _ _=>rfl;rw[this,List.map_id']];have l1:=sf hB hF.iv;refine Eq.trans (if_pos ⟨by rw[em];exact E5 _,by rw[Lh];omega⟩) ?_;rw[sd];simp
 exact Hf rfl (Hm (F8 (i:=1) (ρ1:=[lD (.fz (bx B)),lD (.rf 0)]) (rZ (xs:=[.fz (bx B)]) (cu (bf (af rfl)) eU) rfl e) rfl) (Aw srt))
def Kw (B:List Wd):Prop:=∀e∈B,∀k∈e.2,k.length<=12
theorem Gp {B:List Wd} (h:Kw B) {r:Rs} (hr:r∈uW B):∀k∈r,k.length<=12:=by
 unfold uW at hr;obtain⟨e,he,hr⟩:=Nw.mp hr;intro k hk;refine h e he k ?_;simp only[LN,PR,or_false] at hr;rcases hr with rfl|rfl|rfl|rfl|rfl|rfl|rfl
 ·exact hk
 all_goals exact Qn hk
theorem sV (i:Int):bR [.int i]= .ok (.fz (.bool Lk)):=by unfold bR g9;exact HA (ρ:=[lD (.fz (.int i))]) rfl (by walk_at "ev")
theorem vc {r:Rs} (h:∀k∈r,k.length<=12):dI [sD r]= .ok (.fz (.bool Lk)):=by
 refine gk (ρ:=[lD (.fz (sD r)),Ld]) rfl ?_;unfold fD;refine jr (b:=Lw) (gb (a:=Lk) (bp (mI (af rfl) rfl rfl) rfl)) (fun q=>by cases q) fun _=>cU ?_;refine cN (fun i ρ=>∃t,ρ=[lD (.fz (sD r)),t]) (ds:=r.map kD) (ρ1:=[lD (.fz (sD r)),Ld]) (cM (d:=sD r) (af rfl) rfl rfl) ⟨Ld,rfl⟩ ?_ ?_
 ·rintro i d ρ hd ⟨t,rfl⟩;rw[Ls] at hd;obtain⟨k,hk,rfl⟩:=Mo.mp hd;have hl:=h k (LH hk);refine⟨_,rfl,?_⟩;have cA:kz (dC (gN 0) eE (cn bR 1 (aa (ae 0) aq)) (k.map Lg.int) [Ld] [])= .ok (k.map fun _=> .bool Lk):=pM (f:=Lg.int) (g:=fun _=> .bool Lk) (cp:=[]) k (by omega) rfl fun x _=>gW (am (af rfl) ay) rfl rfl (sV x);have al:=tM (fun _=>Lk) k;refine iZ (b:= !Lk|| !(k.all fun _=>Lk)) (mG (gb (bp (mI (af rfl) rfl rfl) rfl)) fun _=>gb (bp (AE (am (jT (cM (d:=kD k) (af rfl) rfl rfl) rfl cA) ay) rfl al) rfl)) (fun q=> ?_) fun _=>ei ⟨_,rfl⟩;simp at q
 ·rintro ρ ⟨t,rfl⟩;exact ci cR rfl rfl
theorem AM:∀a b:List Int,LD.PZ (a.map Lg.int) (b.map Lg.int)=lD (!kK Gf a b)
 |[],[]=>by rw[LY,LD.PZ];rfl
 |[],_::_=>by rw[LY,Lo,LD.PZ];rfl
 |_::_,[]=>by rw[LY,Lo,LD.PZ];rfl
 |x::a,y::b=>by
  rw[Lo,Lo,LD.PZ,kK];have e:Lg.eqv (.int x) (.int y)=decide (x=y):=by rw[Lg.eqv];by_cases h:x=y<;>simp[h]
  rw[e];by_cases h:x=y
  ·rw[if_pos (decide_eq_true h),if_pos h];exact AM a b
  ·rw[if_neg (by rw[decide_eq_false h];exact LA),if_neg h,LD.Uo]
   unfold Gf;congr 1;by_cases h2:x<y
   ·rw[decide_eq_true h2,decide_eq_false (by omega)];rfl
   ·rw[decide_eq_false h2,decide_eq_true (by omega)];rfl
theorem zP:∀a b:Rs,LD.PZ (a.map kD) (b.map kD)=lD (!yZ a b)
 |[],[]=>by rw[LY,LD.PZ];rfl
 |[],_::_=>by rw[LY,Lo,LD.PZ];rfl
 |_::_,[]=>by rw[LY,Lo,LD.PZ];rfl
 |x::a,y::b=>by
  rw[Lo,Lo,LD.PZ,Fm];show _=lD (!(if x=y then yZ a b else kK Gf x y));by_cases h:x=y
  ·rw[if_pos (decide_eq_true h),if_pos h];exact zP a b
  ·rw[if_neg (by rw[decide_eq_false h];exact LA),if_neg h];unfold kD;rw[LD.Uo];exact AM x y
theorem BW (a:Rs):(sD a).canLay0=Lk/\(sD a).depth<=32:=by
 unfold sD;constructor
 ·rw[Lg.canLay0,kQ]
 ·rw[Lg.depth];have:=iX a;omega
theorem F9 (a b:Rs):LD.XY (sD a) (sD b)=lD (.fz (.bool (!yZ a b))):=by obtain⟨a1,a2⟩:=BW a;obtain⟨b1,b2⟩:=BW b;unfold LD.XY;rw[a1,b1,decide_eq_true a2,decide_eq_true b2,if_pos (show(Lk&&Lk&&Lk&&Lk)=Lk from rfl)];unfold sD;rw[LD.Uo,zP];rfl
theorem uJ {L:List Rp} {i:Nat} {d:D} (h:(L.map aJ)[i]? =lD d):∃e,L[i]? =lD e/\d=aJ e:=by rw[Ls] at h;obtain⟨e,h1,h2⟩:=Mo.mp h;exact⟨e,h1,h2.symm⟩
theorem yL {L:List Rp} (hk:∀a∈L,∀k∈a.1,k.length<=12) (hl:L.length<=140) (hu:L.Pairwise fun a b=>yZ a.1 b.1=Lk):eA [.list (L.map aJ)]= .ok (.fz (.bool Lk)):=by
 refine gk (ρ:=[lD (.fz (.list (L.map aJ))),Ld,Ld]) rfl ?_;unfold gn;refine jr (b:=Lw) (gb (a:=Lk) (bp (mI (af rfl) rfl rfl) rfl)) (fun q=>by cases q) fun _=>cU ?_;refine cN (fun i ρ=>∃t,ρ=[lD (.fz (.list (L.map aJ))),t,Ld]) (ds:=L.map aJ) (ρ1:=[lD (.fz (.list (L.map aJ))),Ld,Ld]) (cM (d:= .list (L.map aJ)) (af rfl) rfl rfl) ⟨Ld,rfl⟩ ?_ ?_
 ·rintro i d ρ hd ⟨t,rfl⟩;obtain⟨a,ha,rfl⟩:=uJ hd;refine⟨_,rfl,?_⟩;have x0:eO (aJ a) (.int 0)=lD (.fz (sD a.1)):=rfl;have x1:eO (aJ a) (.int 1)=lD (.fz (nd a.2)):=rfl;have ln:dw [aJ a]=lD (.fz (nd 2)):=rfl;have ne:Ct (nd 2) (.int 2)=lD (.fz (.bool Lw)):=rfl;have so:=vc (hk a (LH ha));have wo:=sV a.2;exact iZ (b:= !Lk||(Lw||(!Lk|| !Lk))) (mG (gb (bp (mI (af rfl) rfl rfl) rfl)) fun _=>mG (bp (dN (b7 (rv:= .fz (nd 2)) (am (af rfl) ay) rfl ln) cR rfl rfl ne) rfl) fun _=>mG (gb (bp (gW (am (aZ (rv:= .fz (sD a.1)) (af rfl) cR rfl rfl x0) ay) rfl rfl so) rfl)) fun _=>gb (bp (gW (am (aZ (rv:= .fz (nd a.2)) (af rfl) cR rfl rfl x1) ay) rfl rfl wo) rfl)) (fun q=>by cases q) fun _=>ei ⟨_,rfl⟩
 ·rintro ρ ⟨t,rfl⟩
  have ln:dw [.list (L.map aJ)]=lD (.fz (nd L.length)):=by have:=nj (L.map aJ);rw[Lh] at this;exact this
  have rg:zI [.int 1,nd L.length]=lD (L3.cG 1 ((L.length:Int) - 1).toNat):=by unfold zI nd;dsimp only;exact if_pos ⟨by unfold dL;omega,by unfold dL;omega⟩
  refine cN (fun i ρ=>∃u,ρ=[lD (.fz (.list (L.map aJ))),t,u]) (ds:=L3.cG 1 ((L.length:Int) - 1).toNat) (ρ1:=[lD (.fz (.list (L.map aJ))),t,Ld]) (jX (am cR (am (b7 (rv:= .fz (nd L.length)) (am (af rfl) ay) rfl ln) ay)) rfl rg) ⟨Ld,rfl⟩ ?_ ?_
  ·rintro i d ρ hd ⟨u,rfl⟩
   unfold L3.cG at hd;rw[Ls] at hd;obtain⟨j,hj,rfl⟩:=Mo.mp hd;have TV:=Lj.mp hj;obtain⟨h1,h2⟩:=TV;rw[L8] at h1;rw[NR] at h2;subst h2;have hi:i+1<L.length:=by omega
   refine⟨_,rfl,?_⟩;have sb:nW (.int (1+(i:Int))) (.int 1)=lD (.fz (.int (i:Int))):=by show lD (RV.fz (.int (1+(i:Int) - 1)))=_;rw[show 1+(i:Int) - 1=i by omega]
   have i1:eO (.list (L.map aJ)) (.int (i:Int))=lD (.fz (aJ L[i])):=HQ (by omega) (by rw[Ls,LB (show(i:Int).toNat<L.length by omega)];rfl);have i2:eO (.list (L.map aJ)) (.int (1+(i:Int)))=lD (.fz (aJ L[i+1])):=HQ (by omega) (by
    have e:(1+(i:Int)).toNat=i+1:=by omega
    rw[e,Ls,LB hi];rfl)
   have x0:∀a:Rp,eO (aJ a) (.int 0)=lD (.fz (sD a.1)):=fun _=>rfl;have lt:yZ L[i].1 L[i+1].1=Lk:=Nf.mp hu i (i+1) (by omega) hi (by omega);have gt:=F9 L[i].1 L[i+1].1;refine iZ (b:= !yZ L[i].1 L[i+1].1) (bp (dN (dx:=sD L[i].1) (dy:=sD L[i+1].1) (aZ (rv:= .fz (sD L[i].1)) (dx:=aJ L[i]) (aZ (rv:= .fz (aJ L[i])) (af rfl) (aZ (rv:= .fz (.int (i:Int))) (af rfl) cR rfl rfl sb) rfl rfl i1) cR rfl rfl (x0 _)) (aZ (rv:= .fz (sD L[i+1].1)) (dx:=aJ L[i+1]) (aZ (rv:= .fz (aJ L[i+1])) (af rfl) (af rfl) rfl rfl i2) cR rfl rfl (x0 _)) rfl rfl gt) rfl) (fun q=> ?_) fun _=>ei ⟨_,rfl⟩;rw[lt] at q;cases q
  ·rintro ρ ⟨u,rfl⟩;exact ci cR rfl rfl
noncomputable def qv (B:List Wd):List Rp:=(bN B).map fun w=>(w.r,w.p)
noncomputable def da (e f:Wd):Option Rp:=if e.1≠f.1/\bg e.2 f.2=Lk then lD (f.2.drop e.2.length,f.2.length) else Ld
theorem Eu (B:List Wd):qv B=B.flatMap fun e=>B.filterMap (da e):=by unfold qv bN;rw[List.map_flatMap];congr 1;funext e;rw[List.map_filterMap];congr 1;funext f;unfold a9 da;split<;>rfl
theorem qE (b:Rs) (n:Nat):mE (sD b) Ld (lD (n:Int))=lD (.fz (sD (b.take n))):=by unfold sD;rw[uF,Pz]
theorem tG {B:List Wd} (hB:BB B):eY [bx B]= .ok (.ow ((qv B).map aJ)):=by
 refine gk (ρ:=[lD (.fz (bx B)),Ld,Ld,Ld,Ld,Ld]) rfl ?_;rw[Eu];unfold hZ;refine aY (pv:= .ow []) (ρ3:=[lD (.fz (bx B)),lD (.ow []),Ld,Ld,Ld,Ld]) (by walk_at "evp") rfl rfl ?_;refine cN (fun i ρ=>∃t2 t3 t4 t5,ρ=[lD (.fz (bx B)),lD (.ow (((B.take i).flatMap fun e=>B.filterMap (da e)).map aJ)),t2,t3,t4,t5]) (ds:=B.map wD) (ρ1:=[lD (.fz (bx B)),lD (.ow []),Ld,Ld,Ld,Ld]) (cM (d:=bx B) (af rfl) rfl rfl) ⟨Ld,Ld,Ld,Ld,rfl⟩ ?_ ?_
 ·rintro i d ρ hd ⟨t2,t3,t4,t5,rfl⟩
  obtain⟨e,he,rfl⟩:=kE hd;have me:=LH he;refine⟨_,rfl,?_⟩;have lP:((B.take i).flatMap fun e=>B.filterMap (da e)).length<=400:=by
   have h1:=fM (fun e=>B.filterMap (da e)) B.length (fun e=>jK _ _) (B.take i);have h4:=hB.SN;have h5:(B.take i).length<=20:=by rw[Ms];omega
   have:B.length*(B.take i).length<=20*20:=Oz h4 h5;omega
  have eT:(B.take (i+1)).flatMap (fun e=>B.filterMap (da e))=((B.take i).flatMap fun e=>B.filterMap (da e))++B.filterMap (da e):=by rw[eC he,OS];simp
  generalize ((B.take i).flatMap fun e=>B.filterMap (da e))=P at lP eT;refine uR (fun j ρ=>∃t4 t5,ρ=[lD (.fz (bx B)),lD (.ow ((P++(B.take j).filterMap (da e)).map aJ)),lD (.fz (tD e.1)),lD (.fz (sD e.2)),t4,t5]) (ds:=B.map wD) (ρ1:=[lD (.fz (bx B)),lD (.ow (P.map aJ)),lD (.fz (tD e.1)),lD (.fz (sD e.2)),t4,t5]) (cM (d:=bx B) (af rfl) rfl rfl) ⟨t4,t5,by rw[Pa,QI,L6]⟩ ?_ ?_
  ·rintro j d ρ hd ⟨t4,t5,rfl⟩
   obtain⟨f,hf,rfl⟩:=kE hd;have mf:=LH hf;refine⟨_,rfl,?_⟩;have eJ:P++(B.take (j+1)).filterMap (da e)=P++(B.take j).filterMap (da e)++(match da e f with|some w=>[w]|none=>[]):=by rw[eC hf,Qj,LP];rw[vH];cases da e f<;>rfl
   have lJ:(P++(B.take j).filterMap (da e)).length<=420:=by
    have h1:=jK (da e) (B.take j);have h4:=hB.SN;have h5:(B.take j).length<=20:=by rw[Ms];omega
    rw[Ln];omega
   generalize P++(B.take j).filterMap (da e)=M at eJ lJ;have ne:=E2 (hB.wc e me) (hB.wc f mf);have l2:=gv e.2;have tk:=qE f.2 e.2.length;have eq:=mO (f.2.take e.2.length) e.2;refine iZ (b:= !decide (e.1=f.1)&&bg e.2 f.2) (qX (bp (dN (af rfl) (af rfl) rfl rfl ne) rfl) fun _=>bp (dN (gF (rv:= .fz (sD (f.2.take e.2.length))) (af rfl) b5 (cf (b7 (rv:= .fz (nd e.2.length)) (am (af rfl) ay) rfl l2) rfl) rfl tk) (af rfl) rfl rfl eq) rfl) (fun hb=> ?_) fun hb=> ?_
   ·rw[LU,UC,decide_eq_false_iff_not] at hb
    have eF:da e f=lD (f.2.drop e.2.length,f.2.length):=by unfold da;rw[if_pos hb]
    rw[eF] at eJ;have l1:=gv f.2;have ct:=je f.2 e.2.length;refine dD (eV (d:=aJ (f.2.drop e.2.length,f.2.length)) (x:=[lD (.fz (bx B)),lD (.ow (M.map aJ++[aJ (f.2.drop e.2.length,f.2.length)])),lD (.fz (tD e.1)),lD (.fz (sD e.2)),lD (.fz (tD f.1)),lD (.fz (sD f.2))]) rfl (cz (ds:=[sD (f.2.drop e.2.length),nd f.2.length]) (am (gF (rv:= .fz (sD (f.2.drop e.2.length))) (af rfl) (cf (b7 (rv:= .fz (nd e.2.length)) (am (af rfl) ay) rfl l2) rfl) b5 rfl ct) (am (b7 (rv:= .fz (nd f.2.length)) (am (af rfl) ay) rfl l1) ay)) rfl (LV rfl)) rfl rfl (by rw[Lh];omega) rfl) ⟨_,_,by rw[eJ,LW];rfl⟩
   ·have eF:da e f=Ld:=by
     unfold da;rw[if_neg];rintro⟨h1,h2⟩;rw[decide_eq_false h1,h2] at hb;cases hb
    rw[eF] at eJ;exact ei ⟨_,_,by rw[eJ,L6];rfl⟩
  ·rintro ρ ⟨t4,t5,rfl⟩;refine⟨lD (.fz (tD e.1)),lD (.fz (sD e.2)),t4,t5,?_⟩;rw[eT,Lh,M7]
 ·rintro ρ ⟨t2,t3,t4,t5,rfl⟩;rw[Lh,M7];exact ci (dA rfl) rfl rfl
noncomputable def il (r:Rs) (p:Nat) (e:Wd):List Rp:=if bg e.2 r=Lk then[(r.drop e.2.length,p)] else[]
noncomputable def gL (r:Rs) (p:Nat) (e:Wd):List Rp:=if bg r e.2=Lk then[(e.2.drop r.length,p+(e.2.length - r.length))] else[]
noncomputable def iu (B:List Wd) (r:Rs) (p:Nat):List Rp:=B.flatMap fun e=>il r p e++gL r p e
theorem o5 (r:Rs) (p:Nat) (e:Wd):(il r p e++gL r p e).length<=2:=by unfold il gL;split<;>split<;>simp
theorem vQ {B:List Wd} (hB:BB B) (r:Rs) (p:Nat):gf [bx B,sD r,nd p]= .ok (.ow ((iu B r p).map aJ)):=by
 refine gk (ρ:=[lD (.fz (bx B)),lD (.fz (sD r)),lD (.fz (nd p)),Ld,Ld,Ld]) rfl ?_;unfold iK;refine aY (pv:= .ow []) (ρ3:=[lD (.fz (bx B)),lD (.fz (sD r)),lD (.fz (nd p)),lD (.ow []),Ld,Ld]) (by walk_at "evp") rfl rfl ?_;refine cN (fun i ρ=>∃t4 t5,ρ=[lD (.fz (bx B)),lD (.fz (sD r)),lD (.fz (nd p)),lD (.ow ((iu (B.take i) r p).map aJ)),t4,t5]) (ds:=B.map wD) (ρ1:=[lD (.fz (bx B)),lD (.fz (sD r)),lD (.fz (nd p)),lD (.ow []),Ld,Ld]) (cM (d:=bx B) (af rfl) rfl rfl) ⟨Ld,Ld,rfl⟩ ?_ ?_
 ·rintro i d ρ hd ⟨t4,t5,rfl⟩
  obtain⟨e,he,rfl⟩:=kE hd;refine⟨_,rfl,?_⟩;have eT:iu (B.take (i+1)) r p=iu (B.take i) r p++(il r p e++gL r p e):=by unfold iu;rw[eC he,OS];simp
  have lP:(iu (B.take i) r p).length<=40:=by have h1:=fM (fun e=>il r p e++gL r p e) 2 (o5 r p) (B.take i);have h4:=hB.SN;rw[Ms] at h1;unfold iu;omega
  generalize iu (B.take i) r p=P at lP eT;have l1:=gv e.2;have l2:=gv r;have t1:=qE r e.2.length;have t2:=qE e.2 r.length;have q1:=mO (r.take e.2.length) e.2;have q2:=mO (e.2.take r.length) r;have c1:=je r e.2.length;have c2:=je e.2 r.length;have second:∀M:List Rp,M.length<=41->iu (B.take (i+1)) r p=M++gL r p e->Go ((jo (aN (aG lA (pD mE (ae 5) eI (dB (gJ dw (aa (ae 1) aq)))) (ae 1))) (cH (fE 3 (bW (aa (pD mE (ae 5) (dB (gJ dw (aa (ae 1) aq))) eI) (aa (aG nW (aG bI (ae 2) (gJ dw (aa (ae 5) aq))) (gJ dw (aa (ae 1) aq))) aq))))) bU) [lD (.fz (bx B)),lD (.fz (sD r)),lD (.fz (nd p)),lD (.ow (M.map aJ)),lD (.fz (tD e.1)),lD (.fz (sD e.2))]) (fun ρ=>∃t4 t5,ρ=[lD (.fz (bx B)),lD (.fz (sD r)),lD (.fz (nd p)),lD (.ow ((iu (B.take (i+1)) r p).map aJ)),t4,t5]) (fun ρ=>∃t4 t5,ρ=[lD (.fz (bx B)),lD (.fz (sD r)),lD (.fz (nd p)),lD (.ow ((iu (B.take (i+1)) r p).map aJ)),t4,t5]) (fun rv=>rv= .ow ((iu B r p).map aJ)):=by
   intro M lM eM;refine iZ (b:=bg r e.2) (bp (dN (gF (rv:= .fz (sD (e.2.take r.length))) (af rfl) b5 (cf (b7 (rv:= .fz (nd r.length)) (am (af rfl) ay) rfl l2) rfl) rfl t2) (af rfl) rfl rfl q2) rfl) (fun hb=> ?_) fun hb=> ?_
   ·have e2:gL r p e=[(e.2.drop r.length,p+(e.2.length - r.length))]:=by unfold gL;rw[if_pos hb]
    rw[e2] at eM;obtain⟨c,hc⟩:=kL.mp hb;have hle:r.length<=e.2.length:=by rw[hc,Ln];omega
    have ad:=AG p e.2.length;have sb:nW (nd (p+e.2.length)) (nd r.length)=lD (.fz (nd (p+(e.2.length - r.length)))):=by show lD (RV.fz (.int (((p+e.2.length:Nat):Int) - (r.length:Int))))=_;rw[show((p+e.2.length:Nat):Int) - (r.length:Int)=((p+(e.2.length - r.length):Nat):Int) by omega]
    refine dD (eV (d:=aJ (e.2.drop r.length,p+(e.2.length - r.length))) (x:=[lD (.fz (bx B)),lD (.fz (sD r)),lD (.fz (nd p)),lD (.ow (M.map aJ++[aJ (e.2.drop r.length,p+(e.2.length - r.length))])),lD (.fz (tD e.1)),lD (.fz (sD e.2))]) rfl (cz (ds:=[sD (e.2.drop r.length),nd (p+(e.2.length - r.length))]) (am (gF (rv:= .fz (sD (e.2.drop r.length))) (af rfl) (cf (b7 (rv:= .fz (nd r.length)) (am (af rfl) ay) rfl l2) rfl) b5 rfl c2) (am (aZ (rv:= .fz (nd (p+(e.2.length - r.length)))) (dx:=nd (p+e.2.length)) (dy:=nd r.length) (aZ (rv:= .fz (nd (p+e.2.length))) (af rfl) (b7 (rv:= .fz (nd e.2.length)) (am (af rfl) ay) rfl l1) rfl rfl ad) (b7 (rv:= .fz (nd r.length)) (am (af rfl) ay) rfl l2) rfl rfl sb) ay)) rfl (LV rfl)) rfl rfl (by rw[Lh];omega) rfl) ⟨_,_,by rw[eM,LW];rfl⟩
   ·have e2:gL r p e=[]:=by unfold gL;rw[if_neg (by rw[hb];simp)]
    rw[e2,L6] at eM;exact ei ⟨_,_,by rw[eM]⟩
  refine jr (b:=bg e.2 r) (bp (dN (gF (rv:= .fz (sD (r.take e.2.length))) (af rfl) b5 (cf (b7 (rv:= .fz (nd e.2.length)) (am (af rfl) ay) rfl l1) rfl) rfl t1) (af rfl) rfl rfl q1) rfl) (fun hb=> ?_) fun hb=>cU ?_
  ·have e1:il r p e=[(r.drop e.2.length,p)]:=by unfold il;rw[if_pos hb]
   rw[e1] at eT;refine qV (eV (d:=aJ (r.drop e.2.length,p)) (x:=[lD (.fz (bx B)),lD (.fz (sD r)),lD (.fz (nd p)),lD (.ow (P.map aJ++[aJ (r.drop e.2.length,p)])),lD (.fz (tD e.1)),lD (.fz (sD e.2))]) rfl (cz (ds:=[sD (r.drop e.2.length),nd p]) (am (gF (rv:= .fz (sD (r.drop e.2.length))) (af rfl) (cf (b7 (rv:= .fz (nd e.2.length)) (am (af rfl) ay) rfl l1) rfl) b5 rfl c1) (am (af rfl) ay)) rfl (LV rfl)) rfl rfl (by rw[Lh];omega) rfl) ?_;rw[show P.map aJ++[aJ (r.drop e.2.length,p)]=(P++[(r.drop e.2.length,p)]).map aJ by rw[LW];rfl];exact second _ (by rw[Ln];simp;omega) (by rw[eT,LP])
  ·have e1:il r p e=[]:=by unfold il;rw[if_neg (by rw[hb];simp)]
   rw[e1,Oh] at eT;exact second _ (by omega) eT
 ·rintro ρ ⟨t4,t5,rfl⟩;rw[Lh,M7];exact ci (dA rfl) rfl rfl
section
variable {ρ ρ1:aQ} {ω ω1 ω2 ω3:aX} {x y z:SV} {i:Nat} {d:D} {ds:List D}
theorem j4 {F:pE} {n:Nat} {fa:yX} {xs:List SV} (ha:fa ρ ω= .ok xs ω1) (hF:oY F n xs ω1= .ok x ω2):k8 F n fa ρ ω= .ok x ω2:=by unfold k8;rw[ha,RS.bind_ok,hF];rfl
theorem Ha {f:List D->Option RV} {fa:yX} {xs:List SV} {es:List D} (ha:fa ρ ω= .ok xs ω1) (hs:aw (sh ω1) xs=lD ds) (h:f ds=lD (.ow es)):EA f fa ρ ω= .ok (.rf ω1.length) (ω1++[.lst (es.map .fz)]):=by unfold EA;rw[ha,RS.bind_ok];unfold Dm;rw[hs];show((RS.ME ω1 (f ds)).bind fun rv ω1=>gC ω1 rv)=_;rw[h];rfl
theorem CQ (n:Nat):∀ds:List D,aw (rM n ω) (ds.map .fz)=lD ds
 |[]=>rfl
 |d::r=>by rw[Lo];unfold aw;rw[show rM n ω (.fz d)=lD d by cases n<;>rfl];dsimp only;rw[CQ n r]
theorem Gi (n:Nat) (h:ω[i]? =lD (.lst (ds.map .fz))):rM (n+1) ω (.rf i)=lD (.list ds):=by unfold rM;rw[h];dsimp only;rw[CQ];rfl
theorem iU (h:ω[i]? =lD (.lst (ds.map .fz))):sh ω (.rf i)=lD (.list ds):=by unfold sh;dsimp only;rw[h];dsimp only;rw[jZ];rfl
theorem B8 (h:ω[i]? =lD (.lst (ds.map .fz))):aw (sh ω) [.rf i]=lD [.list ds]:=by unfold aw;rw[iU h];rfl
theorem DU {F:FN} {fa:yX} {b:Bool} (ha:fa ρ ω= .ok [.rf i] ω1) (hl:ω1[i]? =lD (.lst (ds.map .fz))) (hF:F [.list ds]= .ok (.fz (.bool b))):DR F 1 fa ρ ω= .ok (.fz (.bool b)) ω1:=by
 unfold DR;rw[ha,RS.bind_ok];unfold wz;rw[if_pos (show[SV.rf i].length=1 from rfl)];have:aw (rM 6 ω1) [.rf i]=lD [.list ds]:=by unfold aw;rw[Gi 5 hl];rfl
 show io ((RS.ME ω1 (aw (rM 6 ω1) [.rf i])).bind _)=_;rw[this];show io (match F [.list ds] with| .ok rv=>o3 ω1 rv|_=> .bad)=_;rw[hF];rfl
theorem zS {fe:c7} {ps:List (D×D)} (he:fe ρ ω= .ok (.rf i) ω1) (hl:ω1[i]? =lD (.lst (ds.map .fz))) (h:aw LD.Qe ds=lD ps) (hn:ps.length<1000000):LD.UT fe ρ ω= .ok (.rf ω1.length) (ω1++[.dd (LD.Vt [] ps)]):=by
 have e:LD.Q6 ω1 (.rf i)=lD ps:=by
  unfold LD.Q6;dsimp only;rw[hl];dsimp only;have:aw DQ (ds.map SV.fz)=lD ds:=by
   clear hl h
   induction ds with
   |nil=>rfl
   |cons a r ih=>rw[Lo];unfold aw;rw[show DQ (SV.fz a)=lD a from rfl];dsimp only;rw[ih]
  rw[this];exact h
 unfold LD.UT;rw[he,RS.bind_ok,e];exact if_pos hn
theorem wK (hl:ω[i]? =lD (.lst (ds.map .fz))):LD.TX ω (.rf i)=lD (i,ds.map .fz):=by unfold LD.TX;dsimp only;rw[hl]
theorem De {fd:c7} {gt:om} {b:gM} {N C:aQ->aX->Prop} {T:SV->aX->Prop} (I:Nat->aQ->aX->Prop) (hd:fd ρ ω= .ok (.rf i) ω1) (hl:ω1[i]? =lD (.lst (ds.map .fz))) (h0:I 0 ρ (ω1.set i .dead)) (hs:∀k d ρ ω,ds[k]? =lD d->I k ρ ω->∃ρ1 ω1,gt (.fz d) ρ ω= .ok ρ1 ω1/\OU (b ρ1 ω1) (I (k+1)) (I (k+1)) (fun _ _=>False)) (hN:∀ρ' ω',I ds.length ρ' ω'->N ρ' (ω'.set i (.lst (ds.map .fz)))):OU (LD.Tw fd gt b ρ ω) N C T:=by
 have:=qZ (C:=fun _ _=>False) (T:=fun _ _=>False) I ds 0 ρ (ω1.set i .dead) h0 (by simpa using hs);rw[OY] at this;unfold LD.Tw;rw[hd,RS.bind_ok,wK hl];show OU ((RS.ME ω1 (aw nX (ds.map .fz))).bind _) _ _ _;rw[jZ];show OU ((fW gt b ds ρ (ω1.set i .dead)).bind _) _ _ _;have h:=this.out;refine⟨?_⟩;cases q:fW gt b ds ρ (ω1.set i .dead) with
 |bad=>rw[q] at h;exact h.elim
 |er x o=>rw[q] at h;exact h.elim
 |ok fl o=>
  rw[q] at h;cases fl with
  |nx r=>exact hN r o h
  |ct r=>exact h.elim
  |rt v=>exact h.elim
  |bk r=>exact h.elim
theorem zR {n:Nat} {fj:List Nat} {fd:c7} {gt:om} {ft:og} {fe:c7} {xs:List SV} (hd:fd ρ ω= .ok (.rf i) ω1) (hl:ω1[i]? =lD (.lst (ds.map .fz))) (hc:bM gt ft fe ds (fY n fj ρ) (ω1.set i .dead) []= .ok xs ω2):LD.Sd n fj fd gt ft fe ρ ω= .ok (.rf ω2.length) (Te (ω2++[Cell.lst xs]) i (Cell.lst (ds.map .fz))):=by unfold LD.Sd;rw[hd,RS.bind_ok,wK hl];show((RS.ME ω1 (aw nX (ds.map .fz))).bind _)=_;rw[jZ];show((io (bM gt ft fe ds (fY n fj ρ) (ω1.set i .dead) [])).bind _)=_;rw[hc];rfl
theorem wq {f:FE} {ρ':aI} (h:f (dX ρ)= .ok (.ow ds,ρ')):yq (aL f) ρ ω= .ok (.fz (.list ds)) (ω++[.dead]):=G1 (mL h) (by rw[wL aU];simp)
end
theorem tY (Mj:List (D×D)) (k v k':D):(bw (fS Mj k v) k').isSome=((bw Mj k').isSome||(!(bw Mj k).isSome&&Lg.eqv k k')):=by
 have fm:∀(l:List (D×D)) (f:D×D->D×D),(∀q,(f q).1=q.1)->((l.map f).find? fun kv=>Lg.eqv kv.1 k').isSome=(l.find? fun kv=>Lg.eqv kv.1 k').isSome:=by
  intro l f hf
  induction l with
  |nil=>rfl
  |cons q r ih=>
   rw[Lo,Mw,Mw,hf q];cases Lg.eqv q.1 k' with
   |true=>rfl
   |false=>exact ih
 unfold fS bw;rw[NC,NC,NC];cases g:(Mj.find? fun kv=>Lg.eqv kv.1 k).isSome with
 |true=>rw[if_pos rfl,fm _ _ (fun q=>by split<;>rfl)];simp
 |false=>
  rw[if_neg LA,List.find?_append,Option.isSome_or];have:(List.find? (fun kv=>Lg.eqv kv.1 k') [(k,v)]).isSome=Lg.eqv k k':=by rw[Mw];cases Lg.eqv k k'<;>rfl
  rw[this];simp
theorem BG (k:D) (hk:Lg.eqv k k=Lk):∀(ps Mj:List (D×D)),((bw Mj k).isSome=Lk\/∃p∈ps,p.1=k)->(bw (LD.Vt Mj ps) k).isSome=Lk
 |[],Mj,h=>by
  rcases h with h|⟨p,hp,_⟩
  ·exact h
  ·cases hp
 |p::ps,Mj,h=>by
  show(bw (LD.Vt (fS Mj p.1 p.2) ps) k).isSome=Lk;refine BG k hk ps _ ?_;rcases h with h|⟨q,hq,e⟩
  ·exact .inl (by rw[tY,h];rfl)
  ·rcases LN.mp hq with rfl|hq
   ·subst e;left;rw[tY,hk];cases(bw Mj q.1).isSome<;>rfl
   ·exact .inr ⟨q,hq,e⟩
noncomputable def gl (L:List Rp):List (D×D):=L.map fun a=>(sD a.1,nd a.2)
theorem EW:∀(C A:List Rp),((A++C).map (·.1)).Nodup->LD.Vt (gl A) (gl C)=gl (A++C)
 |[],A,_=>by rw[L6];rfl
 |c::C,A,h=>by
  show LD.Vt (fS (gl A) (sD c.1) (nd c.2)) (gl C)=_;have e:fS (gl A) (sD c.1) (nd c.2)=gl (A++[c]):=by
   unfold fS;rw[if_neg]
   ·unfold gl;rw[LW];rfl
   ·intro z;obtain⟨kv,hk⟩:=Ng.mp z;have h1:=RT hk;have h2:=VL hk;obtain⟨a,ha,rfl⟩:=Lz.mp h1;have h2:Lg.eqv (sD a.1) (sD c.1)=Lk:=h2;rw[gu] at h2;rw[LW,Ou] at h;exact h.2.2 a.1 (Lz.mpr ⟨a,ha,rfl⟩) c.1 (Lz.mpr ⟨c,LG,rfl⟩) (of_decide_eq_true h2)
  rw[e,EW C (A++[c]) (by rw[LP];exact h),LP];rfl
theorem Bi:∀{L:List Rp},(L.map (·.1)).Nodup->∀a∈L,bw (gl L) (sD a.1)=lD (nd a.2)
 |b::L,h,a,ha=>by
  have e:bw (gl (b::L)) (sD a.1)=if b.1=a.1 then lD (nd b.2) else bw (gl L) (sD a.1):=by
   unfold bw gl;rw[Lo,Mw,gu];by_cases q:b.1=a.1
   ·rw[decide_eq_true q,if_pos q];rfl
   ·rw[decide_eq_false q,if_neg q]
  rw[e];obtain⟨h1,h2⟩:=MJ.mp h;rcases LN.mp ha with rfl|ha
  ·rw[if_pos rfl]
  ·rw[if_neg (fun z=>h1 (Lz.mpr ⟨a,ha,z.symm⟩))];exact Bi h2 a ha
theorem Ap (a:Rp):Lg.eqv (aJ a) (aJ a)=Lk:=by unfold aJ nd;rw[Lg.eqv,Lg.eqvAll,Lg.eqvAll,Lg.eqvAll,gu,decide_eq_true rfl,Lg.eqv];simp
theorem EH (r:Rs):LD.keyD (sD r)=Lk:=by
 have:=iV r;by_cases h:LD.keyD (sD r)=Lk
 ·exact h
 ·have z:fX (.fz (sD r))=Ld:=if_neg h;rw[z] at this;cases this
theorem wY (a:Rp):LD.keyD (aJ a)=Lk:=by unfold aJ sD nd;rw[LD.keyD,LD.kds,LD.kds,LD.kds,LD.kd,LD.kd,Cm];show decide _=Lk;apply decide_eq_true;rw[Lg.depth,Lg.depthAll,Lg.depthAll,Lg.depthAll,Lg.depth,Lg.depth];have:=iX a.1;omega
theorem G3 (a:Rp):fX (.fz (aJ a))=lD (aJ a):=if_pos (wY a)
theorem Db (L:List Rp):aw LD.Qe (L.map aJ)=lD (gl L):=kt fun a _=>by show(if LD.keyD (sD a.1)=Lk then lD (sD a.1,nd a.2) else Ld)=_;rw[if_pos (EH a.1)]
noncomputable def Fk (a:Rp):D:= .tuple [aJ a,.bool Lk]
theorem D1 (L:List Rp):aw LD.Qe (L.map Fk)=lD (L.map fun a=>(aJ a,.bool Lk)):=kt fun a _=>by show(if LD.keyD (aJ a)=Lk then lD (aJ a,Lg.bool Lk) else Ld)=_;rw[if_pos (wY a)]
noncomputable def k6 (B:List Wd) (a:Rp):List Rp:=if a.1=[] then[] else iu B a.1 a.2
noncomputable def gY (B:List Wd) (L:List Rp):List Rp:=qv B++L.flatMap (k6 B)
theorem HJ {B:List Wd} {L:List Rp} (hs:Za B L):(∀q∈gY B L,∃a∈L,a.1=q.1/\a.2<=q.2)/\∀a∈L,a∈gY B L:=by
 constructor
 ·intro q hq
  rcases LM.mp hq with hq|hq
  ·obtain⟨f,hf,rfl⟩:=Lz.mp hq;exact hs.fst f hf
  ·obtain⟨a,ha,hq⟩:=Nw.mp hq
   unfold k6 at hq;split at hq
   ·cases hq
   ·rename_i OK
    unfold iu at hq;obtain⟨e,he,hq⟩:=Nw.mp hq;obtain⟨n1,n2⟩:=hs.Xv a ha e he OK;rcases LM.mp hq with hq|hq
    ·unfold il at hq
     split at hq
     ·rename_i hb;rw[Lx.mp hq];exact n1 hb
     ·cases hq
    ·unfold gL at hq
     split at hq
     ·rename_i hb;rw[Lx.mp hq];exact n2 hb
     ·cases hq
 ·intro a ha
  rcases hs.org a ha with⟨f,hf,h1,h2⟩|⟨b,hb,OK,e,he,h⟩
  ·exact Mm _ (Lz.mpr ⟨f,hf,Prod.ext h1 h2⟩)
  ·refine LO _ (Nw.mpr ⟨b,hb,?_⟩)
   unfold k6;rw[if_neg OK];refine Nw.mpr ⟨e,he,?_⟩;rcases h with⟨h1,rfl⟩|⟨h1,rfl⟩
   ·exact Mm _ (by unfold il;rw[if_pos h1];exact Lx.mpr rfl)
   ·exact LO _ (by unfold gL;rw[if_pos h1];exact Lx.mpr rfl)
theorem tI {B:List Wd} (hB:BB B) (r:Rs) (p:Nat):(iu B r p).length<=40:=by have h1:=fM (fun e=>il r p e++gL r p e) 2 (o5 r p) B;have h4:=hB.SN;unfold iu;omega
theorem xC {B:List Wd} (hB:BB B) {L:List Rp} (hl:L.length<=140):(gY B L).length<=6000:=by
 have h1:=fM (k6 B) 40 (fun a=>by unfold k6;split;simp;exact tI hB _ _) L;have h2:=nR hB;unfold gY;rw[Ln];have:(qv B).length=(bN B).length:=by unfold qv;rw[Lh]
 omega
theorem CC {B:List Wd} {L:List Rp} {i:Nat} {a:Rp} (h:L[i]? =lD a):gY B (L.take (i+1))=gY B (L.take i)++k6 B a:=by unfold gY;rw[eC h,OS,LP];simp
theorem IG {L:List Rp} (h:L.Pairwise fun a b=>yZ a.1 b.1=Lk):(L.map (·.1)).Nodup:=Ov.mpr (h.imp fun{a b} k e=>by have e:a.1=b.1:=e;rw[e,tR.UP] at k;cases k)
theorem i8 {B:List Wd} (hB:BB B) (hK:Kw B) {L:List Rp} {j:Nat} {ωr:aX} (hr:el [.fz (bx B)] []= .ok (.rf j) ωr) (hj:ωr[j]? =lD (.lst ((L.map aJ).map .fz))) (hs:Za B L):∃(m:Nat) (ω':aX),cJ [.fz (bx B)] []= .ok (.rf m) ω'/\ω'[m]? =lD (.lst ((L.map aJ).map .fz)):=by
 have hl:=hs.len;have nd1:=IG hs.up;obtain⟨hd1,hd2⟩:=HJ hs;have hdl:=xC hB hl;have l1:(L.map aJ).length<=140:=by rw[Lh];exact hl
 obtain⟨x,ω',e,m,rfl,h⟩:=pZ (n:=8) (g:=eg) (xs:=[.fz (bx B)]) (ω:=[]) (ρ:=[lD (.fz (bx B)),Ld,Ld,Ld,Ld,Ld,Ld,Ld]) (T:=fun x ω'=>∃m,x= .rf m/\ω'[m]? =lD (.lst ((L.map aJ).map .fz))) rfl (by
  unfold eg;have c1:oY el 1 [.fz (bx B)] []= .ok (.rf 0) [.lst ((L.map aJ).map .fz)]:=by show(match el [.fz (bx B)] [] with| .ok x ω'=>jh x ω' []| .er x _=> .er x []| .bad=> .bad)=_;rw[hr];show(match sh ωr (.rf j) with|some (.list ds)=>gC [] (.ow ds)|_=> .bad)=_;rw[iU hj];rfl
  refine eX (x:= .rf 0) (ω1:=[.lst ((L.map aJ).map .fz)]) (ρ1:=[lD (.fz (bx B)),lD (.rf 0),Ld,Ld,Ld,Ld,Ld,Ld]) (j4 (xs:=[.fz (bx B)]) (cu (bf (af rfl)) eU) c1) rfl ?_;have sp:=yL (fun a ha=>Gp hK (hs.suf a ha)) hl hs.up;refine vG (ω1:=[.lst ((L.map aJ).map .fz)]) (qu (b:=Lk) (d8 (DU (i:=0) (cu (bG rfl) eU) rfl sp))) (p0 ?_);have dl:=zS (fe:=bV 1) (ρ:=[lD (.fz (bx B)),lD (.rf 0),Ld,Ld,Ld,Ld,Ld,Ld]) (ω:=[.lst ((L.map aJ).map .fz)]) (i:=0) (bG rfl) rfl (Db L) (by unfold gl;rw[Lh];omega);rw[show LD.Vt [] (gl L)=gl L from EW L [] nd1] at dl;refine eX (x:= .rf 1) (ω1:=[.lst ((L.map aJ).map .fz),.dd (gl L)]) (ρ1:=[lD (.fz (bx B)),lD (.rf 0),lD (.rf 1),Ld,Ld,Ld,Ld,Ld]) dl rfl ?_;have lf:=tG hB;refine eX (x:= .fz (.list ((qv B).map aJ))) (ω1:=[.lst ((L.map aJ).map .fz),.dd (gl L),.dead]) (ρ1:=[lD (.fz (bx B)),lD (.rf 0),lD (.rf 1),lD (.fz (.list ((qv B).map aJ))),Ld,Ld,Ld,Ld]) (wq (c9 (rv:= .ow ((qv B).map aJ)) (am (af rfl) ay) rfl rfl lf)) rfl ?_;refine jJ (De (fun k ρ ω=>∃(t4 t5:Option SV) (J:aX),ρ=[lD (.fz (bx B)),lD (.rf 0),lD (.rf 1),lD (.fz (.list ((gY B (L.take k)).map aJ))),t4,t5,Ld,Ld]/\ω= .dead:: .dd (gl L)::J) (i:=0) (ds:=L.map aJ) (bG rfl) rfl ⟨Ld,Ld,[.dead],by unfold gY;rw[Pa,List.flatMap_nil,L6],rfl⟩ ?_ ?_)
  ·rintro k d ρ ω hd ⟨t4,t5,J,rfl,rfl⟩
   obtain⟨a,ha,rfl⟩:=uJ hd;refine⟨_,_,rfl,?_⟩;have ne:=HM a.1 [];have dt:=CC (B:=B) ha;have dlk:(gY B (L.take k)).length<=6000:=xC hB (by rw[Ms];omega);refine Fg (b:= !decide (a.1=[])) (sJ (bp (dN (dy:=sD []) (af rfl) (cz (ds:=[]) ay rfl (Mr _)) rfl rfl ne) rfl)) (fun hb=> ?_) fun hb=> ?_
   ·have OK:a.1≠[]:=by simpa using hb
    have ln:=vQ hB a.1 a.2;have lnl:=tI hB a.1 a.2;have ad:bI (.list ((gY B (L.take k)).map aJ)) (.list ((iu B a.1 a.2).map aJ))=lD (.ow ((gY B (L.take (k+1))).map aJ)):=by show(if _ then _ else _)=_;rw[if_pos (by rw[Lh,Lh];omega),dt,LW];unfold k6;rw[if_neg OK]
    exact CT (x:= .fz (.list ((gY B (L.take (k+1))).map aJ))) (wq (aZ (rv:= .ow ((gY B (L.take (k+1))).map aJ)) (af rfl) (c9 (rv:= .ow ((iu B a.1 a.2).map aJ)) (am (af rfl) (am (af rfl) (am (af rfl) ay))) rfl rfl ln) rfl rfl ad)) rfl ⟨_,_,J++[.dead],rfl,rfl⟩
   ·have OK:a.1=[]:=by simpa using hb
    have de:gY B (L.take (k+1))=gY B (L.take k):=by rw[dt];unfold k6;rw[if_pos OK,L6]
    exact rR ⟨_,_,J,by rw[de];rfl,rfl⟩
  ·rintro ρ ω ⟨t4,t5,J,rfl,rfl⟩
   rw[Lh,M7];show OU (_:RS W0) _ _ _;refine jJ (Bz (fun k ρ ω=>∃(t4 t5:Option SV),ρ=[lD (.fz (bx B)),lD (.rf 0),lD (.rf 1),lD (.fz (.list ((gY B L).map aJ))),t4,t5,Ld,Ld]/\ω= .lst ((L.map aJ).map .fz):: .dd (gl L)::J) (ds:=(gY B L).map aJ) (ω1:= .lst ((L.map aJ).map .fz):: .dd (gl L)::J) (ud (cM (d:= .list ((gY B L).map aJ)) (af rfl) rfl rfl)) ⟨_,_,rfl,rfl⟩ ?_ ?_)
   ·rintro k d ρ ω hd ⟨t4,t5,rfl,rfl⟩
    obtain⟨q,hq,rfl⟩:=uJ hd;refine⟨_,_,rfl,?_⟩;obtain⟨a,ha,ea,le⟩:=hd1 q (LH hq);have gp:=Bi nd1 a ha;rw[ea] at gp;have di:=pS (neg:=Lk) (fk:=aL (ae 4)) (fd:=bV 2) (ρ:=[lD (.fz (bx B)),lD (.rf 0),lD (.rf 1),lD (.fz (.list ((gY B L).map aJ))),lD (.fz (sD q.1)),lD (.fz (nd q.2)),Ld,Ld]) (ω:= .lst ((L.map aJ).map .fz):: .dd (gl L)::J) (bf (af rfl)) (i:=1) (bG rfl) (iV q.1) rfl;rw[gp] at di;have dg:=zr (fk:=aL (ae 4)) (fd:=bV 2) (ρ:=[lD (.fz (bx B)),lD (.rf 0),lD (.rf 1),lD (.fz (.list ((gY B L).map aJ))),lD (.fz (sD q.1)),lD (.fz (nd q.2)),Ld,Ld]) (ω:= .lst ((L.map aJ).map .fz):: .dd (gl L)::J) (i:=1) (bG rfl) (bf (af rfl)) (iV q.1) rfl gp;have gt:GG (nd a.2) (nd q.2)=lD (.fz (.bool Lw)):=by show lD (RV.fz (.bool (decide ((q.2:Int)<(a.2:Int)))))=_;rw[decide_eq_false (by omega)]
    exact Hs (sS (d8 di) (d8 (tU dg (bf (af rfl)) (Ag gt)))) (rR ⟨_,_,rfl,rfl⟩)
   ·rintro ρ ω ⟨t4,t5,rfl,rfl⟩
    have cA:kz (dC (gN 0) eE (bW (aa (ae 0) (aa (pC (.bool Lk)) aq))) ((gY B L).map aJ) [Ld] [])= .ok ((gY B L).map Fk):=pM (f:=aJ) (g:=Fk) (cp:=[]) (gY B L) (by omega) rfl fun a _=>cz (ds:=[aJ a,.bool Lk]) (am (af rfl) (am cR ay)) rfl (LV rfl);have dl:=zS (ρ:=[lD (.fz (bx B)),lD (.rf 0),lD (.rf 1),lD (.fz (.list ((gY B L).map aJ))),t4,t5,Ld,Ld]) (ω:= .lst ((L.map aJ).map .fz):: .dd (gl L)::J) (fe:=aL (iB 1 [] (gX (ae 3)) (gN 0) eE (bW (aa (ae 0) (aa (pC (.bool Lk)) aq))))) (mL (jT (cM (d:= .list ((gY B L).map aJ)) (af rfl) rfl rfl) rfl cA)) aU (D1 (gY B L)) (by rw[Lh];omega);have hm:∀a∈L,(bw (LD.Vt [] ((gY B L).map fun a=>(aJ a,Lg.bool Lk))) (aJ a)).isSome=Lk:=fun a ha=>BG (aJ a) (Ap a) _ _ (.inr ⟨_,Lz.mpr ⟨a,hd2 a ha,rfl⟩,rfl⟩);generalize LD.Vt [] ((gY B L).map fun a=>(aJ a,Lg.bool Lk))=M at dl hm;generalize hJ:J++[Cell.lst (((gY B L).map Fk).map .fz)]++[Cell.dd M]=J2;have hJ2:(Cell.lst ((L.map aJ).map SV.fz)::Cell.dd (gl L)::J)++[Cell.lst (((gY B L).map Fk).map .fz)]++[Cell.dd M]= .lst ((L.map aJ).map .fz):: .dd (gl L)::J2:=by rw[<-hJ];rfl
    rw[hJ2] at dl;have at6:(Cell.lst ((L.map aJ).map SV.fz)::Cell.dd (gl L)::J2)[((Cell.lst ((L.map aJ).map SV.fz)::Cell.dd (gl L)::J)++[Cell.lst (((gY B L).map Fk).map .fz)]).length]? =lD (.dd M):=by rw[<-hJ2];exact aU
    have n6:0≠((Cell.lst ((L.map aJ).map SV.fz)::Cell.dd (gl L)::J)++[Cell.lst (((gY B L).map Fk).map .fz)]).length:=by simp
    generalize ((Cell.lst ((L.map aJ).map SV.fz)::Cell.dd (gl L)::J)++[Cell.lst (((gY B L).map Fk).map .fz)]).length=p6 at dl at6 n6;refine eX (ρ1:=[lD (.fz (bx B)),lD (.rf 0),lD (.rf 1),lD (.fz (.list ((gY B L).map aJ))),t4,t5,lD (.rf p6),Ld]) dl rfl ?_;have aas:(Cell.dead::Cell.dd (gl L)::J2)[p6]? =lD (.dd M):=by
     cases p6 with
     |zero=>exact absurd rfl n6
     |succ p=>exact at6
    have cv:bM (lz 0) CW (lg Lw (aL (ae 0)) (bV 1)) (L.map aJ) (fY 1 [6] [lD (.fz (bx B)),lD (.rf 0),lD (.rf 1),lD (.fz (.list ((gY B L).map aJ))),t4,t5,lD (.rf p6),Ld]) (.dead:: .dd (gl L)::J2) []= .ok ([]++L.map fun _=>SV.fz (.bool Lk)) (.dead:: .dd (gl L)::J2):=by refine pf aJ (fun _=>SV.fz (.bool Lk)) _ (fun ρ=>∃t,ρ=[t,lD (.rf p6)]) L _ [] ⟨Ld,rfl⟩ (by simp;omega) ?_;rintro a ha ρ ⟨t,rfl⟩;have di:=pS (neg:=Lw) (fk:=aL (ae 0)) (fd:=bV 1) (ρ:=[lD (.fz (aJ a)),lD (.rf p6)]) (ω:= .dead:: .dd (gl L)::J2) (bf (af rfl)) (bG rfl) (G3 a) aas;rw[hm a ha] at di;exact⟨[lD (.fz (aJ a)),lD (.rf p6)],rfl,rfl,di,_,rfl⟩
    have cl:=zR (n:=1) (fj:=[6]) (fd:=bV 1) (ρ:=[lD (.fz (bx B)),lD (.rf 0),lD (.rf 1),lD (.fz (.list ((gY B L).map aJ))),t4,t5,lD (.rf p6),Ld]) (ω:= .lst ((L.map aJ).map .fz):: .dd (gl L)::J2) (i:=0) (bG rfl) rfl cv;have sl:(Te ((Cell.dead::Cell.dd (gl L)::J2)++[Cell.lst ([]++L.map fun _=>SV.fz (.bool Lk))]) 0 (Cell.lst ((L.map aJ).map .fz)))=(.lst ((L.map aJ).map .fz):: .dd (gl L)::J2)++[Cell.lst ((L.map fun _=>Lg.bool Lk).map .fz)]:=by rw[Oh,show(L.map fun _=>SV.fz (.bool Lk))=((L.map fun _=>Lg.bool Lk).map SV.fz) by rw[Mq];rfl];rfl
    rw[sl] at cl;have al:=tM (fun _=>Lk) L;rw[show(L.all fun _=>Lk)=Lk by simp] at al;refine vG (qu (b:=Lk) (d8 (Fo (ds:=[.list (L.map fun _=> .bool Lk)]) (cu cl eU) (B8 aU) al))) (p0 ?_);generalize hJ3:J2++[Cell.lst ((L.map fun _=>Lg.bool Lk).map .fz)]=J3;have e3:(Cell.lst ((L.map aJ).map SV.fz)::Cell.dd (gl L)::J2)++[Cell.lst ((L.map fun _=>Lg.bool Lk).map .fz)]= .lst ((L.map aJ).map .fz):: .dd (gl L)::J3:=by rw[<-hJ3];rfl
    rw[e3];have cp:EA zj (dF (bV 1) jC) [lD (.fz (bx B)),lD (.rf 0),lD (.rf 1),lD (.fz (.list ((gY B L).map aJ))),t4,t5,lD (.rf p6),Ld] (.lst ((L.map aJ).map .fz):: .dd (gl L)::J3)= .ok (.rf (Cell.lst ((L.map aJ).map .fz):: .dd (gl L)::J3).length) ((.lst ((L.map aJ).map .fz):: .dd (gl L)::J3)++[.lst ((L.map aJ).map .fz)]):=Ha (xs:=[.rf 0]) (ds:=[.list (L.map aJ)]) (cu (bG rfl) eU) (B8 rfl) rfl;refine eX (ρ1:=[lD (.fz (bx B)),lD (.rf 0),lD (.rf 1),lD (.fz (.list ((gY B L).map aJ))),t4,t5,lD (.rf p6),lD (.rf (Cell.lst ((L.map aJ).map .fz):: .dd (gl L)::J3).length)]) cp rfl ?_;refine yh (Gm (i:=0) (xs:=(L.map aJ).map .fz) (ys:=(L.map aJ).map .fz) (x:= .fz (.tuple [.tuple [],.int 0])) (bG rfl) rfl (bf (cz (ds:=[.tuple [],.int 0]) (am (cz (ds:=[]) ay rfl (Mr _)) (am cR ay)) rfl (LV rfl))) rfl (by rw[Lh];omega)) ?_;refine u6 (bG rfl) ⟨_,rfl,?_⟩;rw[fN (by simp)];exact aU)
 exact⟨m,ω',e,h⟩
noncomputable def tm (B:List Wd):List Wd:=(B.drop 1++B.take 1).map fun e=>(e.1,e.2.reverse)
theorem l4 {B:List Wd} {e:Wd} (h:e∈tm B):∃f∈B,e=(f.1,f.2.reverse):=by
 obtain⟨f,hf,rfl⟩:=Lz.mp h;refine⟨f,?_,rfl⟩;rcases LM.mp hf with hf|hf
 ·exact Qn hf
 ·exact Qo hf
theorem nN (B:List Wd):(B.drop 1++B.take 1).Perm B:=Qi.trans (by rw[OE])
theorem CJ {B:List Wd} (h:BB B):BB (tm B) where
 SN:=by unfold tm;rw[Lh,(nN B).length_eq];exact h.SN
 nd:=by
  have e:(tm B).map (·.1)=(B.drop 1++B.take 1).map (·.1):=by unfold tm;rw[Mq];rfl
  rw[e];exact((nN B).map (·.1)).nodup_iff.mpr h.nd
 s1:=fun e he=>by obtain⟨f,hf,rfl⟩:=l4 he;show 1<=f.2.reverse.length;rw[Od];exact h.s1 f hf
 s6:=fun e he=>by obtain⟨f,hf,rfl⟩:=l4 he;show f.2.reverse.length<=6;rw[Od];exact h.s6 f hf
 wc:=fun e he=>by obtain⟨f,hf,rfl⟩:=l4 he;exact h.wc f hf
theorem Ho {B:List Wd} (h:Kw B):Kw (tm B):=fun e he k hk=>by obtain⟨f,hf,rfl⟩:=l4 he;exact h f hf k (PU.mp hk)
theorem xE:∀L:List Rp,Lg.eqvAll (L.map aJ) (L.map aJ)=Lk
 |[]=>by rw[LY,Lg.eqvAll]
 |a::L=>by rw[Lo,Lg.eqvAll,Ap,xE L];rfl
theorem xu:∀L:List Rp,Lg.canLayAll0 (L.map aJ)=Lk
 |[]=>by rw[LY,Lg.canLayAll0]
 |a::L=>by rw[Lo,Lg.canLayAll0,(zJ a).1,xu L];rfl
theorem xK:∀L:List Rp,Lg.depthAll (L.map aJ)<=3
 |[]=>by rw[LY,Lg.depthAll];omega
 |a::L=>by
  rw[Lo,Lg.depthAll];have:=xK L;have:(aJ a).depth<=3:=by unfold aJ sD nd;rw[Lg.depth,Lg.depthAll,Lg.depthAll,Lg.depthAll,Lg.depth,Lg.depth];have:=iX a.1;omega
  omega
theorem F6 (L:List Rp):lA (.list (L.map aJ)) (.list (L.map aJ))=lD (.fz (.bool Lk)):=by unfold lA;rw[if_pos,Lg.eqv,xE];unfold C7;rw[Lg.canLay0,xu];have:=xK L;rw[Lg.depth,decide_eq_true (by omega)];rfl
theorem si {F:pE} {d:D} {ds:List D} {m:Nat} {ω':aX} (h:F [.fz d] []= .ok (.rf m) ω') (hm:ω'[m]? =lD (.lst (ds.map .fz))) (ω:aX):oY F 1 [.fz d] ω= .ok (.rf ω.length) (ω++[.lst (ds.map .fz)]):=by show(match F [.fz d] [] with| .ok x ω'=>jh x ω' ω| .er x _=> .er x ω| .bad=> .bad)=_;rw[h];show(match sh ω' (.rf m) with|some (.list ds)=>gC ω (.ow ds)|_=> .bad)=_;rw[iU hm];rfl
theorem xW (ds:List D):uV (.list ds) .none=lD (.fz (.bool Lw)):=rfl
theorem main (ns:List Int) (SS:ns.length<=63):L10.Iy F_law [.list (ns.map .int)]= .ok (.fz (.bool Lk)):=by
 obtain⟨B,hBk,eb⟩:=Ep ns SS (a:=0) (YQ _);have hB:=hBk.bb;have hK:Kw B:=fun e he k hk=>((hBk.ge e he).st k hk).2;obtain⟨L,j,ωr,hr,hj,hs⟩:=tq hB;obtain⟨L2,j2,ωr2,hr2,TV,Zh⟩:=tq (CJ hB);obtain⟨m,ωc,hc,hm⟩:=i8 hB hK hr hj hs;obtain⟨m2,ωc2,WE,hm2⟩:=i8 (CJ hB) (Ho hK) hr2 TV Zh;have key:∃x ω',F_law [.fz (.list (ns.map .int))] []= .ok x ω'/\x= .fz (.bool Lk):=by
  refine pZ (T:=fun x _=>x= .fz (.bool Lk)) (ρ:=[lD (.fz (.list (ns.map .int))),Ld,Ld,Ld]) rfl ?_;unfold AC;generalize hS:Lg.list (ns.map .int)=S at eb;refine eX (x:= .fz (bx B)) (ω1:=[]) (ρ1:=[lD (.fz S),lD (.fz (bx B)),Ld,Ld]) (bf (c9 (rv:= .fz (bx B)) (am (af rfl) (am cR ay)) rfl rfl eb)) rfl ?_;have h20:=hB.SN;have s1:mE (bx B) (lD 1) Ld=lD (.fz (.tuple ((B.map wD).drop 1))):=ur (B.map wD) 1;have s2:mE (bx B) Ld (lD 1)=lD (.fz (.tuple ((B.map wD).take 1))):=uF (B.map wD) 1;have ad:AH (.tuple ((B.map wD).drop 1)) (.tuple ((B.map wD).take 1))=lD (.fz (.tuple ((B.drop 1++B.take 1).map wD))):=by rw[Hz _ _ (by rw[M6,Ms,Lh];omega),LW,QA,Pz]
  have cmp:kz (dC (gT 2 (nU (gN 0) (nU (gN 1) zg))) eE (bW (aa (ae 0) (aa (Io L9.Cr (ae 1)) aq))) ((B.drop 1++B.take 1).map wD) [Ld,Ld] [])= .ok ((B.drop 1++B.take 1).map fun e=>wD (e.1,e.2.reverse)):=by
   refine p9 (fun ρ=>∃o p,ρ=[o,p]) _ (by rw[(nN B).length_eq];omega) ⟨Ld,Ld,rfl⟩ ?_;rintro e _ ρ ⟨o,p,rfl⟩;have rv:L9.Cr (sD e.2)=lD (.fz (sD e.2.reverse)):=by show lD (RV.fz (.tuple (e.2.map kD).reverse))=_;unfold sD;rw[Vp]
   exact⟨_,G7 rfl rfl (cz (ds:=[tD e.1,sD e.2.reverse]) (am (af rfl) (am (E4 (rv:= .fz (sD e.2.reverse)) (af rfl) rfl rv) ay)) rfl (LV rfl)) rfl rfl,_,_,rfl⟩
  have em:((B.drop 1++B.take 1).map fun e=>wD (e.1,e.2.reverse))=(tm B).map wD:=by unfold tm;rw[Mq];rfl
  rw[em] at cmp;have tp:kr [.list ((tm B).map wD)]=lD (.fz (bx (tm B))):=rfl;refine eX (x:= .fz (bx (tm B))) (ω1:=[]) (ρ1:=[lD (.fz S),lD (.fz (bx B)),lD (.fz (bx (tm B))),Ld]) (bf (b7 (rv:= .fz (bx (tm B))) (am (jT (cM (d:= .tuple ((B.drop 1++B.take 1).map wD)) (aZ (rv:= .fz (.tuple ((B.drop 1++B.take 1).map wD))) (gF (rv:= .fz (.tuple ((B.map wD).drop 1))) (af rfl) (cf cR rfl) b5 rfl s1) (gF (rv:= .fz (.tuple ((B.map wD).take 1))) (af rfl) b5 (cf cR rfl) rfl s2) rfl rfl ad) rfl rfl) rfl cmp) ay) rfl tp)) rfl ?_;refine eX (x:= .rf 0) (ω1:=[.lst ((L.map aJ).map .fz)]) (ρ1:=[lD (.fz S),lD (.fz (bx B)),lD (.fz (bx (tm B))),lD (.rf 0)]) (j4 (xs:=[.fz (bx B)]) (cu (bf (af rfl)) eU) (si hc hm [])) rfl ?_;have i1:Es uV (bV 3) (aL (pC .none)) [lD (.fz S),lD (.fz (bx B)),lD (.fz (bx (tm B))),lD (.rf 0)] [.lst ((L.map aJ).map .fz)]= .ok (.fz (.bool Lw)) [.lst ((L.map aJ).map .fz)]:=tU (bG rfl) (bf cR) (vf (L10.iU (i:=0) rfl) rfl (xW _));have i2:Es uV (k8 cJ 1 (dF (aL (ae 2)) jC)) (aL (pC .none)) [lD (.fz S),lD (.fz (bx B)),lD (.fz (bx (tm B))),lD (.rf 0)] [.lst ((L.map aJ).map .fz)]= .ok (.fz (.bool Lw)) [.lst ((L.map aJ).map .fz),.lst ((L2.map aJ).map .fz)]:=tU (x:= .rf 1) (j4 (xs:=[.fz (bx (tm B))]) (cu (bf (af rfl)) eU) (si WE hm2 [.lst ((L.map aJ).map .fz)])) (bf cR) (vf (L10.iU (i:=1) (ds:=L2.map aJ) rfl) rfl (xW _));refine vG (sS (d8 i1) (d8 i2)) (p0 ?_);exact u6 (x:= .fz (.bool Lk)) (tU (x:= .rf 2) (y:= .rf 0) (j4 (xs:=[.fz (bx B)]) (cu (bf (af rfl)) eU) (si hr hj [.lst ((L.map aJ).map .fz),.lst ((L2.map aJ).map .fz)])) (bG rfl) (vf (L10.iU (i:=2) (ds:=L.map aJ) rfl) (L10.iU (i:=0) (ds:=L.map aJ) rfl) (F6 L))) rfl
 obtain⟨x,ω',h1,rfl⟩:=key;unfold L10.Iy;rw[show([Lg.list (ns.map .int)].map SV.fz)=[.fz (.list (ns.map .int))] from rfl,h1]
end K63
local macro_rules| `(tactic|walk_at "sc")=> `(tactic|exact⟨rfl,rfl,rfl,by decide+kernel,rfl,by decide+kernel,by decide+kernel⟩)
local macro_rules| `(tactic|walk_at "me")=> `(tactic|first
 |exact .head _
 |(apply List.Mem.tail;walk_at "me"))
local macro_rules| `(tactic|walk_at "cm")=> `(tactic|first
 |with_reducible exact L3.sk
 |with_reducible exact L3.CU
 |with_reducible exact L3.CP
 |with_reducible exact L3.vN
 |with_reducible exact L3.Gk
 |with_reducible exact L3.wF
 |with_reducible exact L3.DA)
local macro_rules| `(tactic|walk_at "sp")=> `(tactic|first
 |walk_at "cm"
 |with_reducible exact L3.i6
 |with_reducible exact L3.hE
 |with_reducible exact L3.DD
 |with_reducible exact L3.xT
 |with_reducible exact L3.Cv
 |with_reducible exact L3.jP
 |with_reducible exact L3.rJ
 |with_reducible exact L3.Ed
 |with_reducible exact L3.Cn
 |with_reducible exact L3.vO
 |with_reducible exact L3.mN
 |with_reducible exact L3.wv
 |with_reducible exact L3.u5
 |with_reducible exact L3.Dk
 |with_reducible exact L3.lY
 |with_reducible exact L3.vT
 |with_reducible exact L9.sN
 |with_reducible exact L3.tT
 |with_reducible exact L3.xT)
local macro_rules| `(tactic|walk_at "eo")=> `(tactic|first
 |with_reducible exact L3.au
 |with_reducible exact L3.aW
 |(with_reducible apply L3.bO);(·walk_at "sp");(·walk_at "eo");(·walk_at "eo")
 |with_reducible exact L3.u4
 |(with_reducible apply L3.kS);(·walk_at "ao")
 |(with_reducible apply L3.oM);(·walk_at "sp");(·walk_at "ao")
 |(with_reducible apply L3.gr);(·walk_at "ao")
 |(with_reducible apply L3.gg);(·walk_at "ao")
 |(with_reducible apply L3.z7);(·walk_at "eo")
 |with_reducible exact L3.rj
 |with_reducible exact L3.sE
 |(with_reducible apply L3.tV);(·walk_at "sp");(·walk_at "eo");(·walk_at "oo");(·walk_at "oo")
 |(with_reducible apply L3.qH);(·simp);(·walk_at "eo")
 |(with_reducible apply L3.BS);(·walk_at "eo");(·walk_at "eo")
 |(with_reducible apply L3.Ak);(·walk_at "eo")
 |(with_reducible apply L9.CZ);(·walk_at "eo")
 |(with_reducible apply L3.zv);(·assumption))
local macro_rules| `(tactic|walk_at "ao")=> `(tactic|first
 |(with_reducible apply L3.aK);(·walk_at "eo");(·walk_at "ao")
 |with_reducible exact L3.aV)
local macro_rules| `(tactic|walk_at "tt")=> `(tactic|first
 |(with_reducible apply L3.dc);(with_reducible apply L3.bO);(·walk_at "cm");(·walk_at "eo");(·walk_at "eo")
 |(with_reducible apply L3.wE);(·walk_at "tt");(·walk_at "tt")
 |(with_reducible apply L3.CM);(·walk_at "tt");(·walk_at "tt")
 |(with_reducible apply L3.qD);(·walk_at "tt")
 |(with_reducible apply L3.xc);(·walk_at "eo")
 |with_reducible exact L3.gy)
local macro_rules| `(tactic|walk_at "gg")=> `(tactic|first
 |with_reducible exact L3.a8
 |(with_reducible apply L3.j8);(·walk_at "gg");(·walk_at "gg")
 |with_reducible exact L3.uK
 |(with_reducible apply L3.uH);(·walk_at "gg")
 |with_reducible exact L10.a5
 |(with_reducible apply L10.iQ);(·walk_at "gg");(·walk_at "gg")
 |with_reducible exact L10.r9
 |(with_reducible apply L10.qK);(·walk_at "gg"))
local macro_rules| `(tactic|walk_at "io")=> `(tactic|first
 |(with_reducible apply L3.lR);(·walk_at "ao")
 |(with_reducible apply L3.jD);(·walk_at "eo")
 |(with_reducible apply L3.D8);(·walk_at "ao")
 |with_reducible exact L3.tF
 |(with_reducible apply L10.mD);(·walk_at "io")
 |(with_reducible apply L10.wN);(·walk_at "es"))
local macro_rules| `(tactic|walk_at "oo")=> `(tactic|first
 |(with_reducible apply L3.gD);(·walk_at "eo")
 |with_reducible exact L3.jW)
local macro_rules| `(tactic|walk_at "es")=> `(tactic|first
 |(with_reducible apply L10.aM);(·walk_at "eo")
 |with_reducible exact L10.bv
 |(with_reducible apply L10.vI);(·walk_at "sp");(·walk_at "es");(·walk_at "es")
 |(with_reducible apply L10.i9);(·walk_at "as")
 |(with_reducible apply L10.oU);(·walk_at "as")
 |(with_reducible apply L10.xp);(·walk_at "as")
 |(with_reducible apply L10.xQ);(·walk_at "es");(·walk_at "es")
 |(with_reducible apply L10.qw);(·walk_at "sp");(·walk_at "as")
 |(with_reducible apply L10.qQ);(·walk_at "es"))
local macro_rules| `(tactic|walk_at "as")=> `(tactic|first
 |(with_reducible apply L10.cF);(·walk_at "es");(·walk_at "as")
 |with_reducible exact L10.e8)
local macro_rules| `(tactic|walk_at "ts")=> `(tactic|first
 |(with_reducible apply L10.mH);(with_reducible apply L10.vI);(·walk_at "cm");(·walk_at "es");(·walk_at "es")
 |(with_reducible apply L10.ua);(·walk_at "tt")
 |(with_reducible apply L10.zM);(·walk_at "ts");(·walk_at "ts")
 |(with_reducible apply L10.pI);(·walk_at "ts")
 |(with_reducible apply L10.oK);(·walk_at "es"))
local macro_rules| `(tactic|walk_at "so")=> `(tactic|first
 |(with_reducible apply L3.aC);(·walk_at "so");(·walk_at "so")
 |(with_reducible apply L3.dQ);(·walk_at "eo");(·walk_at "gg")
 |(with_reducible apply L3.mX);(·walk_at "tt");(·walk_at "so");(·walk_at "so")
 |(with_reducible apply L3.cO);(·walk_at "eo")
 |(with_reducible apply L3.xL);(·walk_at "eo")
 |with_reducible exact L3.hW
 |(with_reducible apply L3.rC);(·walk_at "io");(·walk_at "gg");(·walk_at "so")
 |(with_reducible apply L10.bh);(·walk_at "so");(·walk_at "so")
 |(with_reducible apply L10.cX);(·walk_at "es");(·walk_at "gg")
 |(with_reducible apply L10.nr);(·walk_at "ts");(·walk_at "so");(·walk_at "so")
 |(with_reducible apply L10.j7);(·walk_at "es")
 |(with_reducible apply L10.gO);(·walk_at "es")
 |with_reducible exact L10.iG
 |(with_reducible apply L10.qO);(·walk_at "io");(·walk_at "gg");(·walk_at "so")
 |(with_reducible apply L10.oP);(·walk_at "ts");(·walk_at "so"))
local macro_rules| `(tactic|walk_at "to")=> `(tactic|first
 |exact L2.iE
 |exact L2.rq (by assumption)
 |exact L2.An (by assumption)
 |exact L3.w9 (by assumption)
 |exact L3.g8
 |exact L3.xt
 |exact L9.xj
 |exact L3.lL
 |exact L2.HC
 |exact L2.A7
 |exact L2.Fr
 |exact L3.Eb
 |exact L2.ms
 |exact L2.nu
 |exact L2.Gb
 |exact L2.Jg
 |exact L2.HL
 |exact L2.vp
 |exact L2.mj
 |exact L2.gh
 |exact L2.j9
 |exact L3.jg
 |exact L2.jc
 |exact L2.C1
 |exact L3.uX
 |exact L2.Ft
 |exact Wx
 |exact L2.CO
 |exact L2.l7
 |exact L2.CD
 |exact L2.Ji
 |exact L2.zL
 |exact L2.EJ
 |exact L2.sR
 |exact L2.Bp
 |exact L10.uQ
 |exact L2.fu
 |with_reducible exact Pt
 |with_reducible exact Pf
 |with_reducible exact Pg
 |with_reducible exact PySem.F.slot_list_insert
 |with_reducible exact PySem.F.type_list_insert
 |with_reducible exact PySem.F.slot_list_extend
 |with_reducible exact PySem.F.type_list_extend
 |with_reducible exact Og
 |with_reducible exact Pe
 |with_reducible exact Rz
 |exact L2.yW rfl
 |exact L2.RN rfl
 |exact L3.nM rfl
 |rfl)
local macro_rules| `(tactic|walk_at "pe")=> `(tactic|first
 |(with_reducible apply L2.pv);(·rfl);(·(first|exact Or.inl rfl|exact Or.inr (Or.inl rfl)|exact Or.inr (Or.inr rfl)));(·decide);(·decide)
 |with_reducible exact L2.aO
 |(with_reducible apply L2.kl);(·walk_at "to");(·walk_at "pe");(·walk_at "pe");(·exact fun _ _=>rfl)
 |with_reducible exact L2.uB
 |(with_reducible apply L2.fZ);(·walk_at "to");(·walk_at "pe");(·walk_at "pe")
 |(with_reducible apply L2.fK);(·assumption);(·assumption);(·walk_at "pa");(·decide);(·rfl);(·decide);(·rfl);(·rfl)
 |(with_reducible apply L2.fJ);(·walk_at "pa")
 |with_reducible exact L2.qk
 |(with_reducible apply L2.gm);(·walk_at "pa")
 |(with_reducible apply L2.cQ);(·walk_at "to");(·rfl);(·assumption);(·walk_at "to");(·walk_at "pa");(·decide);(·decide);(·rfl);(·rfl)
 |(with_reducible apply L2.fw);(·walk_at "to");(·rfl);(·assumption);(·walk_at "to");(·walk_at "pa");(·decide);(·decide);(·rfl);(·rfl)
 |with_reducible exact L2.sM
 |(with_reducible apply L2.xw);(·walk_at "to");(·walk_at "pe");(·walk_at "pe");(·(first|rfl|with_unfolding_all rfl))
 |(apply L2.Cq);(·walk_at "to");(·walk_at "to");(·walk_at "to");(·walk_at "to");(·walk_at "pe");(·walk_at "pa");(·rfl);(·rfl);(·decide);(·rfl);(·rfl)
 |(with_reducible apply L2.B7);(·walk_at "pe")
 |(with_reducible apply L2.zC);(·walk_at "pe");(·walk_at "pe")
 |(with_reducible apply L2.BL);(·walk_at "pc");(·(first|rfl|with_unfolding_all rfl))
 |(with_reducible apply L2.Fw);(·walk_at "to");(·walk_at "pe")
 |(with_reducible apply L2.CK);(·walk_at "pe")
 |(apply L2.iW);(·walk_at "to");(·walk_at "pe");(·walk_at "po");(·walk_at "po")
 |(apply L2.zN);(·walk_at "pe");(·walk_at "po")
 |(with_reducible apply L2.l6);(·rfl);(·assumption);(·walk_at "to");(·(first|rfl|exact⟨_,rfl⟩));(·decide);(·decide))
local macro_rules| `(tactic|walk_at "pa")=> `(tactic|first
 |(with_reducible apply L2.ar);(·walk_at "pe");(·walk_at "pa");(·rfl)
 |with_reducible exact L2.aE)
local macro_rules| `(tactic|walk_at "pt")=> `(tactic|first
 |(with_reducible apply L2.fV);(·walk_at "to");(·walk_at "pe");(·walk_at "pe");(·(first|rfl|with_unfolding_all rfl))
 |(with_reducible apply L2.mJ);(·walk_at "pt")
 |(with_reducible apply L2.ql);(·walk_at "pc");(·(first|rfl|with_unfolding_all rfl))
 |(with_reducible apply L2.PW.pt);(·walk_at "pw")
 |(with_reducible apply L2.kO);(·walk_at "pe");(·(intro _;rfl)))
local macro_rules| `(tactic|walk_at "pw")=> `(tactic|first
 |(with_reducible apply L2.xY);(·walk_at "pt")
 |(with_reducible apply L2.A6);(·walk_at "pt");(·walk_at "pw")
 |(with_reducible apply L2.uI);(·walk_at "pt")
 |(with_reducible apply L2.Bf);(·walk_at "pt");(·walk_at "pw"))
local macro_rules| `(tactic|walk_at "pc")=> `(tactic|fail)
local macro_rules| `(tactic|walk_at "pg")=> `(tactic|first
 |(with_reducible apply L2.bH);(·(first|assumption|decide+kernel));(·rfl);(·(first|exact Or.inl rfl|exact Or.inr rfl|assumption|rfl));(·(first|exact Or.inl rfl|exact Or.inr rfl|assumption|rfl))
 |(with_reducible apply L2.dR);(·walk_at "pg");(·walk_at "pg");(·rfl)
 |with_reducible exact L2.jR
 |(apply L2.nK);(·rfl);(·walk_at "pg");(·rfl);(·rfl))
local macro_rules| `(tactic|walk_at "pi")=> `(tactic|first
 |(with_reducible apply L2.jk);(·rfl);(·assumption);(·walk_at "pa");(·rfl)
 |(with_reducible apply L2.yj);(·rfl);(·assumption);(·walk_at "pa");(·rfl);(·rfl)
 |(apply L3.gS);(·walk_at "pe"))
local macro_rules| `(tactic|walk_at "po")=> `(tactic|first
 |with_reducible exact L2.lS
 |(with_reducible apply L2.hV);(·walk_at "pe"))
local macro_rules| `(tactic|walk_at "te")=> `(tactic|first
 |(with_reducible apply L2.aD);(·walk_at "te")
 |with_reducible exact L2.dG
 |(with_reducible apply L2.ah);(·walk_at "te");(·walk_at "te")
 |(with_reducible apply L2.bB);(·(first|assumption|decide+kernel));(·rfl);(·(first|exact Or.inl rfl|exact Or.inr rfl|assumption|rfl));(·walk_at "pe");(·rfl);(·(first|exact Or.inl rfl|exact Or.inr rfl|assumption|rfl))
 |(with_reducible apply L2.jN);(·walk_at "pe");(·rfl)
 |(with_reducible apply L2.bJ);(·walk_at "pe")
 |(with_reducible apply L2.iI);(·walk_at "pt");(·walk_at "te");(·walk_at "te")
 |(with_reducible apply L2.jL);(·walk_at "to");(·rfl);(·walk_at "pi");(·walk_at "pg");(·walk_at "te");(·(intro _;rfl))
 |(with_reducible apply L2.sX);(·walk_at "to");(·walk_at "pt");(·walk_at "te"))
local macro_rules| `(tactic|walk_at "ok")=> `(tactic|(intros;refine L3.Ik (by walk_at "so") ?_;first|(apply L2.ah);(·walk_at "te");(·walk_at "te")|(apply L2.aD);(·walk_at "te")))
local macro_rules| `(tactic|walk_at "os")=> `(tactic|(intros;refine L3.uz (by walk_at "so") ?_;first|(apply L2.ah);(·walk_at "te");(·walk_at "te")|(apply L2.aD);(·walk_at "te")))
local macro_rules| `(tactic|walk_at "cm")=> `(tactic|with_reducible exact LD.VX)
local macro_rules| `(tactic|walk_at "to")=> `(tactic|exact LD.WB (by assumption))
namespace K63
open PySem L2 L3
noncomputable def top (i:Nat):NZ:=PySem.Challenge.pw_chordbed_k63_whole_rests_closed.main.body.getD i (.Pass ⟨0,0,0,0⟩)
noncomputable def fb:NZ->List NZ
 | .For _ _ b _ _=>b
 | .If _ b _ _=>b
 |_=>[]
noncomputable def av:NZ->Mv
 | .Assign _ v _=>v
 |_=> .Name "" ⟨0,0,0,0⟩
noncomputable def ss:Mv->Mv
 | .Subscript _ v _=>v
 |e=>e
noncomputable def sP:Mv->Pos
 | .Subscript _ _ p=>p
 |_=>⟨0,0,0,0⟩
noncomputable def lp:Mv->Pos
 | .List _ p=>p
 |_=>⟨0,0,0,0⟩
noncomputable def iT:NZ->Mv
 | .If c _ _ _=>c
 |_=> .Name "" ⟨0,0,0,0⟩
noncomputable def fI:NZ->Mv
 | .For _ i _ _ _=>i
 |_=> .Name "" ⟨0,0,0,0⟩
noncomputable def iP:NZ->Pos
 | .If _ _ _ p=>p
 |_=>⟨0,0,0,0⟩
noncomputable def aP:NZ->Pos
 | .Assign _ _ p=>p
 |_=>⟨0,0,0,0⟩
noncomputable def nP:NZ->Pos
 | .Assign [.Name _ p] _ _=>p
 |_=>⟨0,0,0,0⟩
noncomputable def sv:Mv->Mv
 | .Subscript v _ _=>v
 |e=>e
noncomputable def le:Mv->List Mv
 | .List l _=>l
 |_=>[]
noncomputable def La:Mv->Option Mv
 | .Slice a _ _ _=>a
 |_=>Ld
noncomputable def K8:Mv->Option Mv
 | .Slice _ a _ _=>a
 |_=>Ld
noncomputable def Lb:Mv->Pos
 | .Slice _ _ _ p=>p
 |_=>⟨0,0,0,0⟩
noncomputable def K7:Mv->List Mv
 | .Tuple l _ _=>l
 |_=>[]
noncomputable def K9:NZ->Mv
 | .Return (lD e) _=>e
 |_=> .Name "" ⟨0,0,0,0⟩
noncomputable def rP:NZ->Pos
 | .Return _ p=>p
 |_=>⟨0,0,0,0⟩
noncomputable def bl:Mv->Mv
 | .BinOp a _ _ _=>a
 |e=>e
noncomputable def br:Mv->Mv
 | .BinOp _ _ b _=>b
 |e=>e
noncomputable def bP:Mv->Pos
 | .BinOp _ _ _ p=>p
 |_=>⟨0,0,0,0⟩
noncomputable def dK:Mv->List (Option Mv)
 | .Dict k _ _=>k
 |_=>[]
noncomputable def dV:Mv->List Mv
 | .Dict _ v _=>v
 |_=>[]
noncomputable def dP:Mv->Pos
 | .Dict _ _ p=>p
 |_=>⟨0,0,0,0⟩
noncomputable def DP:NZ:= .Pass ⟨0,0,0,0⟩
noncomputable def DE:Mv:= .Name "" ⟨0,0,0,0⟩
theorem Dp {l p t n env}:Nz (.List l p) t n env=pure Lw:=rfl
theorem IX {l k p t n env}:Nz (.Tuple l k p) t n env=pure Lw:=rfl
theorem JH {a b c p t n env}:Nz (.Call a b c p) t n env=pure Lw:=rfl
theorem tJ {a o b p t n env}:Nz (.BinOp a o b p) t n env=pure Lw:=rfl
theorem Eh {a b p t n env}:Nz (.Subscript a b p) t n env=pure Lw:=rfl
theorem JR {a p t n env}:Nz (.Name a p) t n env=pure Lw:=rfl
theorem Fv {a b p t n env}:Nz (.Constant a b p) t n env=pure Lw:=rfl
theorem HW {o a p t n env}:Nz (.UnaryOp o a p) t n env=pure Lw:=rfl
theorem Hq {a b c p t n env}:Nz (.Compare a b c p) t n env=pure Lw:=rfl
theorem Il {a b p t n env}:Nz (.BoolOp a b p) t n env=pure Lw:=rfl
theorem Js {a b c p t n env}:Nz (.IfExp a b c p) t n env=pure Lw:=rfl
section
variable {P:LR} {w:Mg} {K:Lc} {mg:Str->Option Lf} {base:Heap} {f:Lp} {fd:M8}
theorem rL (F:PY K "_law_cell" "_law_cell" (top 8) f fd):FnOk P w K mg base fT 1 f fd ["_law_script","_law_k"] (jM K 2 bT):=iz (N:=["_law_script","_law_k"]) (g:=iA) F (by walk_at "sc") rfl rfl rfl fun Ny A outer s H E nd hr hu Sl hv=>uz (cO (bO i6 (bO hE (tV lY au (gD au) (gD (bO hE au aW))) (gg (aK aW aV))) aW)) (aD (bJ (kl iE (fZ g8 (iW uX (pv 0) (hV (pv 1)) (hV (fZ g8 (pv 1) aO))) (gm (ar aO aE))) aO (fun _ _=>rfl))))
theorem ll (F:PY K "_law_stirred" "_law_stirred" (top 9) f fd):FnOk P w K mg base fT 1 f fd ["_law_cell_here","_law_salt"] (jM K 2 bA):=iz (N:=["_law_cell_here","_law_salt","_law_number"]) (g:=dH) F (by walk_at "sc") rfl rfl rfl (by delta dH;walk_at "os")
theorem nz (F:PY K "_law_stream" "_law_stream" (top 11) f fd) (Oj:gs P w K mg base 1 "_law_stirred" ["_law_cell_here","_law_salt"] 2 bA) (Tt:mg "max"=Ld) (Np:mg "range"=Ld):FnOk P w K mg base fT 2 f fd ["_law_cell_here","_law_many"] (jM K 2 ej):=iz (N:=["_law_cell_here","_law_many","_law_found","_law_left","_law_k","_law_x","_law_j"]) (g:=d9) F (by walk_at "sc") rfl rfl rfl fun Ny A outer s H E nd hr hu Sl hv=>uz (aC (by walk_at "so")
   (aC (by walk_at "so")
   (aC (by walk_at "so")
   (cO au)))) (ah (by walk_at "te")
   (ah (by walk_at "te")
   (ah (by walk_at "te")
   (aD (bJ (pv 2))))))
theorem lu (F:PY K "_law_name_of" "_law_name_of" (top 15) f fd) (Np:mg "range"=Ld):FnOk P w K mg base fT 1 f fd ["_law_rest"] (jM K 1 dM):=iz (N:=["_law_rest","_law_word","_law_many","_law_k"]) (g:=dJ) F (by walk_at "sc") rfl rfl rfl fun Ny A outer s H E nd hr hu Sl hv=>uz (aC (dQ u4 a8)
   (aC (by walk_at "so")
   (aC (by walk_at "so")
   (aC (by walk_at "so")
   (cO au))))) (ah (bB (i:=1) nd rfl (Or.inl rfl) uB)
   (ah (by walk_at "te")
   (ah (by walk_at "te")
   (ah (by walk_at "te")
   (aD (bJ (pv 1)))))))
theorem kh (F:PY K "_law_stroke_of" "_law_stroke_of" (top 16) f fd) (Np:mg "range"=Ld) (NB:mg "tuple"=Ld):FnOk P w K mg base fT 1 f fd ["_law_rest"] (jM K 1 cV):=iz (N:=["_law_rest","_law_mask","_law_found","_law_key"]) (g:=cg) F (by walk_at "sc") rfl rfl rfl (by delta cg;walk_at "os")
theorem jY (F:PY K "_law_read_book" "_law_read_book" (top 17) f fd) (Qg:gs P w K mg base 1 "_law_name_of" ["_law_rest"] 1 dM) (Px:gs P w K mg base 1 "_law_stroke_of" ["_law_rest"] 1 cV) (Np:mg "range"=Ld) (NB:mg "tuple"=Ld):FnOk P w K mg base fT 2 f fd ["_law_xs"] (jM K 1 cW):=iz (N:=["_law_xs","_law_found","_law_k","_law_word","_law_strokes_here","_law_rest","_law_j"]) (g:=cS) F (by walk_at "sc") rfl rfl rfl fun Ny A outer s H E nd hr hu Sl hv=>uz (aC (by walk_at "so")
   (aC (rC (lR (aK (bO hE aW (bO jP (bO i6 au aW) aW)) aV)) a8 (aC (by walk_at "so")
   (aC (by walk_at "so")
   (aC (by walk_at "so")
   (aC (by walk_at "so")
   (mX (dc (bO wF au (ui rfl rfl tF (uH (j8 a8 (j8 a8 uK))) gy au))) (by walk_at "so") hW))))))
   (by walk_at "so"))) (ah (by walk_at "te")
   (ah (jL OP.never rfl (jk rfl Np (ar (fZ g8 aO (fZ ms (kl iE (pv 0) aO (fun _ _=>rfl)) aO)) aE)) (bH (i:=2) nd rfl (Or.inl rfl)) (ah (by walk_at "te")
   (ah (by walk_at "te")
   (ah (by walk_at "te")
   (ah (by walk_at "te")
   (aD (iI (fV (w9 hv) (pv 3) (fQ ["_law_name","_law_other"] [] rfl (gS (pv 1)) (fun _ _ _ _=>(nK rfl (dR (bH (i:=0) (show Oa (["_law_name","_law_other"]:List Str) by decide+kernel) rfl (Or.inl rfl)) (dR (bH (i:=1) (show Oa (["_law_name","_law_other"]:List Str) by decide+kernel) rfl (Or.inl rfl)) jR)))) (fun _ _ _ _=>fG) (fun _ _ _ _=>(pv 0)) trivial rfl) (by with_unfolding_all rfl)) (aD (by walk_at "te")) dG)))))))
   (aD (by walk_at "te"))))
theorem pF (F:PY K "_law_wide" "_law_wide" (top 10) f fd) (Oj:gs P w K mg base 1 "_law_stirred" ["_law_cell_here","_law_salt"] 2 bA) (Tt:mg "max"=Ld):FnOk P w K mg base fT 2 f fd ["_law_cell_here","_law_salt"] (jM K 2 bS):=iz (N:=["_law_cell_here","_law_salt"]) (g:=eK) F (by walk_at "sc") rfl rfl rfl (by delta eK;walk_at "os")
theorem ox (F:PY K "_law_names" "_law_names" (top 14) f fd) (Np:mg "range"=Ld):FnOk P w K mg base fT 1 f fd ["_law_cell_here","_law_many"] (jM K 2 dS):=iz (N:=["_law_cell_here","_law_many","_law_letters","_law_sign","_law_size","_law_at","_law_found","_law_k","_law_other"]) (g:=e9) F (by walk_at "sc") rfl rfl rfl fun Ny A outer s H E nd hr hu Sl hv=>uz (aC (dQ u4 a8)
   (aC (by walk_at "so")
   (aC (mX (wE (dc (bO sk (bO jP au aW) aW)) (dc (bO CP au aW))) (cO (lQ rfl rfl (lR (aK au aV)) a8 gy (bO L9.sN au (bO hE au aW)))) hW)
   (aC (by walk_at "so")
   (aC (by walk_at "so")
   (aC (dQ (gg aV) a8)
   (aC (by walk_at "so")
   (cO au)))))))) (ah (bB (i:=2) nd rfl (Or.inl rfl) uB)
   (ah (by walk_at "te")
   (ah (iI (PW.pt (A6 (fV (rq hu) (fZ ms (pv 0) aO) aO (jz _)) (xY (fV Fr (pv 1) aO (jz _))))) (aD (bJ (fQ ["_law_k"] [("_law_sign",3)] rfl (jk rfl Np (ar (pv 1) aE)) (fun _ _ _ _=>(bH (i:=0) (show Oa (["_law_k","_law_sign"]:List Str) by decide+kernel) rfl (Or.inl rfl))) (fun _ _ _ _=>fG) (fun _ _ _ _=>(fZ L9.xj (pv 1) (fZ g8 (pv 0) aO))) ⟨⟨rfl,rfl,Or.inl rfl⟩,trivial⟩ rfl))) dG)
   (ah (by walk_at "te")
   (ah (by walk_at "te")
   (ah (bB (i:=6) nd rfl (Or.inl rfl) (gm aE))
   (ah (by walk_at "te")
   (aD (bJ (pv 6))))))))))
noncomputable abbrev D9 (P:LR) (w:Mg) (K:Lc) (mg:Str->Option Lf) (base:Heap) (f:Lp) (Ny:Lf) (A:L0) (outer:List Env) (s:Lm) (H:Hp) (E:XK):Cx:=(lF fT P w K mg base ["_law_cell_here","_law_wide_here","_law_some","_law_bits","_law_keys","_law_key"] "_law_stroke" (aF (top 13)) f Ny A outer s H E).Vx
noncomputable def iy:NZ:=(bZ (top 13)).getD 0 DP
noncomputable def Ax:NZ:=(bZ (top 13)).getD 1 DP
noncomputable def AK:NZ:=(bZ (top 13)).getD 2 DP
noncomputable def kg:Mv:=av iy
noncomputable def xf:Mv:=(le kg).getD 0 DE
noncomputable def wB:Mv:=(le kg).getD 1 DE
noncomputable def xi:Mv:=(le kg).getD 2 DE
noncomputable def xU:Mv:=(le kg).getD 3 DE
theorem bK:OM ["_law_cell_here","_law_wide_here","_law_some","_law_bits","_law_keys","_law_key"] ["_law_cell_here","_law_wide_here"] (aF (top 13)):=by walk_at "sc"
theorem mF (F:PY K "_law_stroke" "_law_stroke" (top 13) f fd) (Np:mg "range"=Ld) (OL:mg "len"=Ld) (NB:mg "tuple"=Ld):FnOk P w K mg base fT 1 f fd ["_law_cell_here","_law_wide_here"] (jM K 2 cI):=by
 refine KH (k:=0) (n:=2) (m:=6) (g:=eu) (FF:=cI) F bK rfl rfl rfl (fun Ny A outer s H E hr=> ?_);have hu:=hr.units;have hv:=Bs hr;have nd:=bK.nd;obtain⟨tq3,uq3,vq3⟩:∃t,PE (D9 P w K mg base f Ny A outer s H E) xf t/\EO K E t (bW (aa (pC (.int 0)) aq)):=⟨_,(fJ (ar aO aE)),(gr (aK aW aV))⟩;obtain⟨tq4,uq4,vq4⟩:∃t,PE (D9 P w K mg base f Ny A outer s H E) wB t/\EO K E t (bW (aa (pC (.int 1)) aq)):=⟨_,(fJ (ar aO aE)),(gr (aK aW aV))⟩;obtain⟨tq5,uq5,vq5⟩:∃t,PE (D9 P w K mg base f Ny A outer s H E) xi t/\EO K E t (bW (aa (pC (.int 0)) (aa (pC (.int 1)) aq))):=⟨_,(fJ (ar aO (ar aO aE))),(gr (aK aW (aK aW aV)))⟩;obtain⟨tq6,uq6,vq6⟩:∃t,PE (D9 P w K mg base f Ny A outer s H E) xU t/\EO K E t (bW (aa (pC (.int 2)) (aa (pC (.int 11)) aq))):=⟨_,(fJ (ar aO (ar aO aE))),(gr (aK aW (aK aW aV)))⟩;have UJ:yG xf=Lw:=rfl;have UZ:yG wB=Lw:=rfl;have UL:yG xi=Lw:=rfl;have UU:yG xU=Lw:=rfl;obtain⟨pq2,X1⟩:∃pp,kg= .List [xf,wB,xi,xU] pp:=⟨_,rfl⟩;obtain⟨tq2,uq2,vq2⟩:∃t,PE (D9 P w K mg base f Ny A outer s H E) kg t/\EO K E t (eG (aa (bW (aa (pC (.int 0)) aq)) (aa (bW (aa (pC (.int 1)) aq)) (aa (bW (aa (pC (.int 0)) (aa (pC (.int 1)) aq))) (aa (bW (aa (pC (.int 2)) (aa (pC (.int 11)) aq))) aq))))):=by rw[X1];generalize xf=z0 at*;generalize wB=z1 at*;generalize xi=z2 at*;generalize xU=z3 at*;exact⟨_,gm (JG uq3 (JG uq4 (JG uq5 (JG uq6 aE UU) UL) UZ) UJ),gg (aK vq3 (aK vq4 (aK vq5 (aK vq6 aV))))⟩
 clear X1 UJ UZ UL UU uq3 vq3 uq4 vq4 uq5 vq5 uq6 vq6;have Ys:iy= .Assign [.Name "_law_some" (nP iy)] kg (aP iy):=rfl;have Yo:Nz kg (lD (.Name "_law_some" (nP iy))) (aP iy).line (D9 P w K mg base f Ny A outer s H E).env=pure Lw:=rfl;obtain⟨tq1,uq1,vq1⟩:∃t,PS (D9 P w K mg base f Ny A outer s H E) iy t/\SO K E t (aR (eG (aa (bW (aa (pC (.int 0)) aq)) (aa (bW (aa (pC (.int 1)) aq)) (aa (bW (aa (pC (.int 0)) (aa (pC (.int 1)) aq))) (aa (bW (aa (pC (.int 2)) (aa (pC (.int 11)) aq))) aq))))) (gN 2)):=by rw[Ys];generalize kg=z0 at*;generalize nP iy=z1 at*;generalize aP iy=z2 at*;exact⟨_,bB (i:=2) bK.nd rfl (Or.inl rfl) uq2 (hs:=Yo),dQ vq2 a8⟩
 clear Ys Yo uq2 vq2;obtain⟨tq7,uq7,vq7⟩:∃t,PS (D9 P w K mg base f Ny A outer s H E) Ax t/\SO K E t (jo (aN (ae 1)) (aA (aR (aG cm (ae 0) (pC (.int 4))) (gN 3))
 (aA (aR (eG aq) (gN 4))
 (aA (dW (gK dZ (aa (pC (.int 12)) aq)) (gN 5) (aA (jo (aN (aG lA (aG bq (ae 3) (pC (.int 2))) (pC (.int 1)))) (cH (fE 4 (ae 5))) bU)
 (aR (aG cm (ae 3) (pC (.int 2))) (gN 3))))
 (jo (aN (aG GG (gJ dw (aa (ae 4) aq)) (pC (.int 0)))) (cE (gJ kr (aa (ae 4) aq))) bU)))) bU):=⟨_,(iI (kO (pv 1)) (ah (bB (i:=3) bK.nd rfl (Or.inl rfl) (fZ nu (pv 0) aO) (hs:=tJ))
   (ah (bB (i:=4) bK.nd rfl (Or.inl rfl) (gm aE) (hs:=Dp))
   (ah (jL OP.never rfl (jk rfl Np (ar aO aE)) (bH (i:=5) bK.nd rfl (Or.inl rfl)) (ah (iI (fV (rq hu) (fZ ms (pv 3) aO) aO (jz _)) (aD (jN (Cq Pt Pf Pg jc (pv 4) (ar (pv 5) aE)))) dG)
   (aD (bB (i:=3) bK.nd rfl (Or.inl rfl) (fZ nu (pv 3) aO) (hs:=tJ)))))
   (aD (iI (fV A7 (cQ mj rfl OL CO (ar (pv 4) aE)) aO (jz _)) (aD (bJ (fw gh rfl NB l7 (ar (pv 4) aE)))) dG))))) dG),(mX (xc au) (aC (dQ (bO rJ au aW) a8)
   (aC (dQ (gg aV) a8)
   (aC (rC (lR (aK aW aV)) a8 (aC (mX (dc (bO sk (bO jP au aW) aW)) (xL (z7 au)) hW)
   (dQ (bO rJ au aW) a8)))
   (mX (dc (bO vN (oM vO (aK au aV)) aW)) (cO (oM mN (aK au aV))) hW)))) hW)⟩
 obtain⟨tq8,uq8,vq8⟩:∃t,PS (D9 P w K mg base f Ny A outer s H E) AK t/\SO K E t (cE (aG eO (ae 2) (aG bq (ae 0) (pC (.int 4))))):=⟨_,(bJ (kl iE (pv 2) (fZ ms (pv 0) aO) (fun _ _=>rfl))),(cO (bO i6 au (bO jP au aW)))⟩;have hb:(bZ (top 13))=[iy,Ax,AK]:=rfl;rw[hb];generalize iy=z0 at*;generalize Ax=z1 at*;generalize AK=z2 at*;exact uz (aC vq1
   (aC vq7
   vq8)) (ah uq1
   (ah uq7
   (aD uq8)))
theorem rD (F:PY K "_law_book" "_law_book" (top 18) f fd) (QW:gs P w K mg base 1 "_law_cell" ["_law_script","_law_k"] 2 bT) (Qp:gs P w K mg base 2 "_law_stream" ["_law_cell_here","_law_many"] 2 ej) (Pw:gs P w K mg base 2 "_law_read_book" ["_law_xs"] 1 cW) (QU:gs P w K mg base 2 "_law_wide" ["_law_cell_here","_law_salt"] 2 bS) (QE:gs P w K mg base 1 "_law_names" ["_law_cell_here","_law_many"] 2 dS) (Qq:gs P w K mg base 1 "_law_stroke" ["_law_cell_here","_law_wide_here"] 2 cI) (Np:mg "range"=Ld) (NB:mg "tuple"=Ld):FnOk P w K mg base fT 3 f fd ["_law_script","_law_at"] (jM K 2 fP):=iz (N:=["_law_script","_law_at","_law_first_here","_law_sort","_law_many","_law_most","_law_names_here","_law_found","_law_k","_law_cell_here","_law_strokes_here","_law_j"]) (g:=gc) F (by walk_at "sc") rfl rfl rfl fun Ny A outer s H E nd hr hu Sl hv=>uz (aC (by walk_at "so")
   (aC (by walk_at "so")
   (aC (by walk_at "so")
   (aC (by walk_at "so")
   (aC (by walk_at "so")
   (aC (dQ aW a8)
   (aC (by walk_at "so")
   (aC (by walk_at "so")
   (aC (dQ (gg aV) a8)
   (aC (by walk_at "so")
   (by walk_at "so"))))))))))) (ah (by walk_at "te")
   (ah (by walk_at "te")
   (ah (by walk_at "te")
   (ah (by walk_at "te")
   (ah (by walk_at "te")
   (ah (bB (i:=5) nd rfl (Or.inl rfl) aO)
   (ah (by walk_at "te")
   (ah (by walk_at "te")
   (ah (bB (i:=7) nd rfl (Or.inl rfl) (gm aE))
   (ah (by walk_at "te")
   (aD (by walk_at "te"))))))))))))
theorem yD (F:PY K "begins" "begins" (top 6) f fd) (OL:mg "len"=Ld):FnOk P w K mg base fT 1 f fd ["part","whole"] (jM K 2 eL):=iz (N:=["part","whole"]) (g:=mV) F (by walk_at "sc") rfl rfl rfl fun Ny A outer s H E nd hr hu Sl hv=>uz (cO (bO sk (tV vT au jW (gD (oM vO (aK au aV)))) au)) (aD (bJ (xw (rq hu) (iW lL (pv 1) lS (hV (cQ mj rfl OL CO (ar (pv 0) aE)))) (pv 0) (jz _))))
theorem oh (F:PY K "first_ways" "first_ways" (top 4) f fd) (QC:gs P w K mg base 1 "begins" ["part","whole"] 2 eL) (OL:mg "len"=Ld):FnOk P w K mg base fT 2 f fd ["book"] (jM K 1 dE):=iz (N:=["book","ways","one","part","other","whole"]) (g:=ie) F (by walk_at "sc") rfl rfl rfl fun Ny A outer s H E nd hr hu Sl hv=>uz (aC (dQ (gg aV) a8)
   (aC (by walk_at "so")
   (cO au))) (ah (bB (i:=1) nd rfl (Or.inl rfl) (gm aE))
   (ah (by walk_at "te")
   (aD (bJ (pv 1)))))
theorem sj (F:PY K "next_ways" "next_ways" (top 5) f fd) (QC:gs P w K mg base 1 "begins" ["part","whole"] 2 eL) (OL:mg "len"=Ld):FnOk P w K mg base fT 2 f fd ["book","way"] (jM K 2 eP):=iz (N:=["book","way","price","rest","ways","word","strokes","over"]) (g:=iR) F (by walk_at "sc") rfl rfl rfl fun Ny A outer s H E nd hr hu Sl hv=>uz (aC (by walk_at "so")
   (aC (by walk_at "so")
   (aC (by walk_at "so")
   (aC (dQ (gg aV) a8)
   (aC (by walk_at "so")
   (cO au)))))) (ah (by walk_at "te")
   (ah (by walk_at "te")
   (ah (by walk_at "te")
   (ah (bB (i:=4) nd rfl (Or.inl rfl) (gm aE))
   (ah (by walk_at "te")
   (aD (bJ (pv 4))))))))
theorem oz (F:PY K "_law_first" "_law_first" (top 22) f fd) (OL:mg "len"=Ld):FnOk P w K mg base fT 1 f fd ["_law_book_here"] (jM K 1 eY):=iz (N:=["_law_book_here","_law_found","_law_name","_law_strokes_here","_law_other","_law_more"]) (g:=hZ) F (by walk_at "sc") rfl rfl rfl fun Ny A outer s H E nd hr hu Sl hv=>uz (aC (dQ (gg aV) a8)
   (aC (by walk_at "so")
   (cO au))) (ah (bB (i:=1) nd rfl (Or.inl rfl) (gm aE))
   (ah (by walk_at "te")
   (aD (bJ (pv 1)))))
theorem pG (F:PY K "_law_next" "_law_next" (top 23) f fd) (OL:mg "len"=Ld):FnOk P w K mg base fT 1 f fd ["_law_book_here","_law_rest","_law_price"] (jM K 3 gf):=iz (N:=["_law_book_here","_law_rest","_law_price","_law_found","_law_name","_law_strokes_here"]) (g:=iK) F (by walk_at "sc") rfl rfl rfl fun Ny A outer s H E nd hr hu Sl hv=>uz (aC (dQ (gg aV) a8)
   (aC (by walk_at "so")
   (cO au))) (ah (bB (i:=3) nd rfl (Or.inl rfl) (gm aE))
   (ah (by walk_at "te")
   (aD (bJ (pv 3)))))
theorem nY (F:PY K "_law_whole" "_law_whole" (top 12) f fd) (Nr:mg "isinstance"=Ld) (UE:mg "int"=Ld) (S1:mg "bool"=Ld):FnOk P w K mg base fT 1 f fd ["_law_thing"] (jM K 1 bR):=iz (N:=["_law_thing"]) (g:=g9) F (by walk_at "sc") rfl rfl rfl fun Ny A outer s H E nd hr hu Sl hv=>uz (cO (BS (qH (by simp) au) (Ak (qH (by simp) au)))) (aD (bJ (zC (cQ jg rfl Nr fu (ar (pv 0) (ar (l6 (v:= .ty "int") rfl UE EJ rfl) aE))) (B7 (CK (cQ jg rfl Nr fu (ar (pv 0) (ar (l6 (v:= .ty "bool") rfl S1 GK rfl) aE))))))))
theorem lq (F:PY K "_law_strokes" "_law_strokes" (top 21) f fd) (Ol:gs P w K mg base 1 "_law_whole" ["_law_thing"] 1 bR) (Nr:mg "isinstance"=Ld) (NB:mg "tuple"=Ld) (RK:mg "all"=Ld):FnOk P w K mg base fT 2 f fd ["_law_found"] (jM K 1 dI):=iz (N:=["_law_found","_law_some"]) (g:=fD) F (by walk_at "sc") rfl rfl rfl fun Ny A outer s H E nd hr hu Sl hv=>uz (aC (by walk_at "so")
   (aC (rC (jD au) a8 (mX (CM (qD (xc (qH (by simp) au))) (qD (xc (oM u5 (aK (lQ rfl rfl (jD au) a8 gy (kS (aK au aV))) aV))))) (cO sE) hW))
   (cO sE))) (ah (by walk_at "te")
   (ah (jL OP.never rfl (gS (pv 0)) (bH (i:=1) nd rfl (Or.inl rfl)) (aD (iI (PW.pt (Bf (mJ (kO (cQ jg rfl Nr fu (ar (pv 1) (ar (l6 (v:= .ty "tuple") rfl NB l7 rfl) aE))))) (uI (mJ (kO (cQ (nM rfl) rfl RK Bp (ar (fQ ["_law_key"] [] rfl (gS (pv 1)) (fun _ _ _ _=>(bH (i:=0) (show Oa (["_law_key"]:List Str) by decide+kernel) rfl (Or.inl rfl))) (fun _ _ _ _=>fG) (fun _ _ _ _=>(fK Ol hr (ar (pv 0) aE))) trivial rfl) aE))))))) (aD (bJ sM)) dG)))
   (aD (bJ sM))))
theorem nQ (F:PY K "_law_shaped" "_law_shaped" (top 24) f fd) (Qb:gs P w K mg base 2 "_law_strokes" ["_law_found"] 1 dI) (Ol:gs P w K mg base 1 "_law_whole" ["_law_thing"] 1 bR) (Nr:mg "isinstance"=Ld) (Rj:mg "list"=Ld) (NB:mg "tuple"=Ld) (OL:mg "len"=Ld) (Np:mg "range"=Ld):FnOk P w K mg base fT 3 f fd ["_law_found"] (jM K 1 eA):=iz (N:=["_law_found","_law_one","_law_k"]) (g:=gn) F (by walk_at "sc") rfl rfl rfl fun Ny A outer s H E nd hr hu Sl hv=>uz (aC (by walk_at "so")
   (aC (by walk_at "so")
   (aC (by walk_at "so")
   (cO sE)))) (ah (by walk_at "te")
   (ah (by walk_at "te")
   (ah (by walk_at "te")
   (aD (bJ sM)))))
end
end K63
namespace K63
open PySem L2 L3 L10
section
variable {P:LR} {w:Mg} {K:Lc} {mg:Str->Option Lf} {base:Heap} {f:Lp} {fd:M8}
theorem Bh (F:PY K "offer" "offer" (top 3) f fd) (RH:mg "min"=Ld):FnOk P w K mg base fT 3 f fd ["offers","ways"] (yH K 2 kf):=zQ (N:=["offers","ways","way","rest"]) (g:=lN) F (by walk_at "sc") rfl rfl rfl fun Ny A outer s H E nd hr hu Sl hv=>Ik (qO (wN bv) a5 (bh (cX (aM (bO i6 au aW)) a5)
   (oN bv (aM au) (qw Cd (cF (aM au) (cF (uE bv (aM au) (aM au)) e8)))))) (aD (jL OP.never rfl (gS (pv 1)) (bH (i:=2) nd rfl (Or.inl rfl)) (ah (bB (i:=3) nd rfl (Or.inl rfl) (kl iE (pv 2) aO (fun _ _=>rfl)))
   (aD (LD.Sz hu (pv 0) (pv 3) (cQ (LD.RN rfl hu) rfl RH zL (ar (pv 2) (ar (LD.TM hu (pv 0) (pv 3) (pv 2) ⟨rfl,rfl,rfl,rfl⟩) aE))) rfl)))))
theorem kM (F:PY K "cheapest_ways" "cheapest_ways" (top 2) f fd) (Q7:Ae P w K mg base 3 "offer" ["offers","ways"] 2 kf) (PF:gs P w K mg base 2 "first_ways" ["book"] 1 dE) (Qa:gs P w K mg base 2 "next_ways" ["book","way"] 2 eP) (RH:mg "min"=Ld):FnOk P w K mg base fT 4 f fd ["book"] (yH K 1 df):=zQ (N:=["book","ways","offers","way"]) (g:=dr) F (by walk_at "sc") rfl rfl rfl fun Ny A outer s H E nd hr hu Sl hv=>Ik (bh (cX oJ a5)
   (bh (cX oJ a5)
   (bh (j7 (i9 (cF bv (cF (aM (kS (aK au aV))) e8))))
   (bh (oP (oK (zo bv)) (bh (cX (yB bv) a5)
   (bh (oN bv (aM (bO i6 au aW)) (yP bv (aM (bO i6 au aW))))
   (j7 (i9 (cF bv (cF (B2 rfl rfl (mD (jD (kS (aK au (aK au aV))))) a5 (oK (mz (aM (bO i6 au aW)) bv)) (aM au)) e8)))))))
   (gO bv))))) (ah (bB (i:=1) nd rfl (Or.inr rfl) LD.Rh)
   (ah (bB (i:=2) nd rfl (Or.inl rfl) LD.Rh)
   (ah (jN (fK Q7 hr (ar (pv 2) (ar (fK PF hr (ar (pv 0) aE)) aE))))
   (ah (sX OP.never (ql (LD.V4 hu (pv 2)) (by with_unfolding_all rfl)) (ah (bB (i:=3) nd rfl (Or.inl rfl) (cQ (LD.T9 rfl hu) rfl RH zL (ar (LD.T7 (pv 2) rfl rfl) aE)))
   (ah (LD.Sz hu (pv 1) (kl iE (pv 3) aO (fun _ _=>rfl)) (LD.U5 hu (pv 2) (kl iE (pv 3) aO (fun _ _=>rfl)) ⟨rfl,rfl,rfl,rfl⟩) rfl)
   (aD (jN (fK Q7 hr (ar (pv 2) (ar (fQ ["further"] [("ways",1)] rfl (gS (fK Qa hr (ar (pv 0) (ar (pv 3) aE)))) (fun _ _ _ _=>(bH (i:=0) (show Oa (["further","ways"]:List Str) by decide+kernel) rfl (Or.inl rfl))) (fun _ _ _ _=>(BC (ql (LD.SA hu (kl iE (pv 0) aO (fun _ _=>rfl)) (pv 1)) (by with_unfolding_all rfl)))) (fun _ _ _ _=>(pv 0)) ⟨⟨rfl,rfl,Or.inl rfl⟩,trivial⟩ rfl) aE))))))))
   (aD (bJ (pv 1)))))))
theorem Az (F:PY K "rests" "rests" (top 1) f fd) (OI:Ae P w K mg base 4 "cheapest_ways" ["book"] 1 df) (Rf:mg "sorted"=Ld):FnOk P w K mg base fT 5 f fd ["book"] (yH K 1 el):=zQ (N:=["book","ways"]) (g:=rT) F (by walk_at "sc") rfl rfl rfl fun Ny A outer s H E nd hr hu Sl hv=>Ik (bh (cX (i9 (cF (aM au) e8)) a5)
   (gO (LD.T1 LD.TL))) (ah (bB (i:=1) nd rfl (Or.inr rfl) (fK OI hr (ar (pv 0) aE)))
   (aD (bJ (cQ (LD.S6 hu) rfl Rf sR (ar (LD.VO (fQ ["rest"] [("ways",1)] rfl (LD.UO (pv 1)) (fun _ _ _ _=>(bH (i:=0) (show Oa (["rest","ways"]:List Str) by decide+kernel) rfl (Or.inl rfl))) (fun _ _ _ _=>fG) (fun _ _ _ _=>fJ (ar (pv 0) (ar (kl Ba (LD.U6 hu (pv 1) (pv 0) (fun _ _=>rfl)) aO (fun _ _=>rfl)) aE))) ⟨⟨rfl,rfl,Or.inl rfl⟩,trivial⟩ rfl)) aE)))))
theorem nh (F:PY K "_law_closed" "_law_closed" (top 25) f fd) (QF:Ae P w K mg base 5 "rests" ["book"] 1 el) (Pj:gs P w K mg base 3 "_law_shaped" ["_law_found"] 1 eA) (PH:gs P w K mg base 1 "_law_first" ["_law_book_here"] 1 eY) (Qf:gs P w K mg base 1 "_law_next" ["_law_book_here","_law_rest","_law_price"] 3 gf) (Sa:mg "dict"=Ld) (RK:mg "all"=Ld) (Rj:mg "list"=Ld):FnOk P w K mg base fT 6 f fd ["_law_book_here"] (yH K 1 cJ):=zQ (N:=["_law_book_here","_law_found","_law_prices","_law_due","_law_rest","_law_price","_law_known","_law_kept"]) (g:=eg) F (by walk_at "sc") rfl rfl rfl fun Ny A outer s H E nd hr hu Sl hv=>Ik (bh (cX (oU (cF (aM au) e8)) a5)
   (bh (nr (pI (oK (xp (cF bv e8)))) (gO (aM rj)) iG)
   (bh (cX (LD.Tj bv) a5)
   (bh (cX (qQ (aM (kS (aK au aV)))) a5)
   (bh (LD.Ve bv (qK (iQ a5 (iQ a5 r9))) (nr (ua (dc (bO CU au (gr aV)))) (cX (qQ (aM (bO hE au (kS (aK au (aK au (aK au aV))))))) a5) iG))
   (bh (qO (mD (jD au)) (qK (iQ a5 (iQ a5 r9))) (nr (zM (oK (mz (aM au) bv)) (mH (vI vN (yF bv (aM au)) (aM au)))) (gO (aM rj)) iG))
   (bh (cX (LD.Tj (aM (lQ rfl rfl (jD au) a8 gy (gr (aK au (aK sE aV)))))) a5)
   (bh (nr (pI (oK (qw u5 (cF (LD.TU rfl rfl bv a5 Ci (mz (aM au) bv)) e8)))) (gO (aM rj)) iG)
   (bh (cX (qw wv (cF bv e8)) a5)
   (bh (j7 (xQ bv (aM (gr (aK (gr aV) (aK aW aV))))))
   (gO bv))))))))))) (ah (bB (i:=1) nd rfl (Or.inl rfl) (fK QF hr (ar (pv 0) aE)))
   (ah (iI (mJ (kO (fK Pj hr (ar (pv 1) aE)))) (aD (bJ qk)) dG)
   (ah (bB (i:=2) nd rfl (Or.inl rfl) (fw (LD.QR rfl hu) rfl Sa uQ (ar (pv 1) aE)))
   (ah (bB (i:=3) nd rfl (Or.inl rfl) (fK PH hr (ar (pv 0) aE)))
   (ah (LD.VS (jL OP.never rfl (LD.Th (pv 1)) (nK rfl (dR (bH (i:=4) nd rfl (Or.inl rfl)) (dR (bH (i:=5) nd rfl (Or.inl rfl)) jR))) (aD (iI (fV (An hu) (pv 4) (fJ aE) (jz _)) (aD (bB (i:=3) nd rfl (Or.inl rfl) (fZ g8 (pv 3) (fK Qf hr (ar (pv 0) (ar (pv 4) (ar (pv 5) aE))))))) dG))))
   (ah (jL OP.never rfl (gS (pv 3)) (nK rfl (dR (bH (i:=4) nd rfl (Or.inl rfl)) (dR (bH (i:=5) nd rfl (Or.inl rfl)) jR))) (aD (iI (PW.pt (Bf (ql (LD.SA hu (pv 4) (pv 2)) (by with_unfolding_all rfl)) (uI (fV A7 (LD.U8 hu (pv 2) (pv 4) (fun _ _=>rfl)) (pv 5) (jz _))))) (aD (bJ qk)) dG)))
   (ah (bB (i:=6) nd rfl (Or.inr rfl) (fw (LD.QR rfl hu) rfl Sa uQ (ar (fQ ["_law_one"] [] rfl (gS (pv 3)) (fun _ _ _ _=>(bH (i:=0) (show Oa (["_law_one"]:List Str) by decide+kernel) rfl (Or.inl rfl))) (fun _ _ _ _=>fG) (fun _ _ _ _=>(fJ (ar (pv 0) (ar sM aE)))) trivial rfl) aE)))
   (ah (iI (mJ (kO (cQ (nM rfl) rfl RK Bp (ar (LD.V1 (fQ ["_law_one"] [("_law_known",6)] rfl (LD.Th (pv 1)) (fun _ _ _ _=>(bH (i:=0) (show Oa (["_law_one","_law_known"]:List Str) by decide+kernel) rfl (Or.inl rfl))) (fun _ _ _ _=>fG) (fun _ _ _ _=>(BL (LD.VU hu (pv 0) (pv 1)) (by with_unfolding_all rfl))) ⟨⟨rfl,rfl,Or.inl rfl⟩,trivial⟩ rfl)) aE)))) (aD (bJ qk)) dG)
   (ah (bB (i:=7) nd rfl (Or.inl rfl) (fw j9 rfl Rj CD (ar (pv 1) aE)))
   (ah (jN (Cq Pt Pf Pg jc (pv 1) (ar (fJ (ar (fJ aE) (ar aO aE))) aE)))
   (aD (bJ (pv 7)))))))))))))
theorem Hu (F:PY K "law" "law" (top 26) f fd) (Qr:Ae P w K mg base 6 "_law_closed" ["_law_book_here"] 1 cJ) (QF:Ae P w K mg base 5 "rests" ["book"] 1 el) (QS:gs P w K mg base 3 "_law_book" ["_law_script","_law_at"] 2 fP) (NB:mg "tuple"=Ld):FnOk P w K mg base fT 7 f fd ["_law_script"] (yH K 1 F_law):=zQ (N:=["_law_script","_law_book_here","_law_other","_law_kept"]) (g:=AC) F (by walk_at "sc") rfl rfl rfl fun Ny A outer s H E nd hr hu Sl hv=>Ik (bh (by walk_at "so")
   (bh (cX (aM (oM mN (aK (lQ rfl rfl (jD (bO tT (tV vT au (gD aW) jW) (tV vT au jW (gD aW)))) (uH (j8 a8 (j8 a8 uK))) gy (gr (aK au (aK (L9.CZ au) aV)))) aV))) a5)
   (bh (by walk_at "so")
   (bh (by walk_at "so")
   (by walk_at "so"))))) (ah (by walk_at "te")
   (ah (bB (i:=2) nd rfl (Or.inl rfl) (fw gh rfl NB l7 (ar (fQ ["_law_name","_law_strokes_here"] [] rfl (gS (fZ xt (iW lL (pv 1) (hV aO) lS) (iW lL (pv 1) lS (hV aO)))) (fun _ _ _ _=>(nK rfl (dR (bH (i:=0) (show Oa (["_law_name","_law_strokes_here"]:List Str) by decide+kernel) rfl (Or.inl rfl)) (dR (bH (i:=1) (show Oa (["_law_name","_law_strokes_here"]:List Str) by decide+kernel) rfl (Or.inl rfl)) jR)))) (fun _ _ _ _=>fG) (fun _ _ _ _=>(fJ (ar (pv 0) (ar (zN (pv 1) (hV (Fw C1 aO))) aE)))) trivial rfl) aE)))
   (ah (by walk_at "te")
   (ah (by walk_at "te")
   (aD (by walk_at "te"))))))
end
end K63
theorem K2 {α:Type}:∀{l:List α},l.length=1->∃a,l=[a]
 |[a],_=>⟨a,rfl⟩
theorem KZ {α:Type}:∀{l:List α},l.length=2->∃a b,l=[a,b]
 |[a,b],_=>⟨a,b,rfl⟩
theorem K6 {α:Type}:∀{l:List α},l.length=3->∃a b c,l=[a,b,c]
 |[a,b,c],_=>⟨a,b,c,rfl⟩
local macro_rules| `(tactic|walk_at "ba")=> `(tactic|(intro _ _ _ _ _ _ us hl;first|(obtain⟨_,h⟩:=K2 hl;subst h;rfl)|(obtain⟨_,_,h⟩:=KZ hl;subst h;rfl)|(obtain⟨_,_,_,h⟩:=K6 hl;subst h;rfl)|(match us,hl with|[_,_,_,_],_=>rfl)|(match us,hl with|[_,_,_,_,_],_=>rfl)|(match us,hl with|[],_=>rfl)))
local macro_rules| `(tactic|walk_at "fl")=> `(tactic|first|exact List.forall_mem_nil _|(refine List.forall_mem_cons.mpr ⟨?_,?_⟩;(·(show Nh _ _ _=_;k_is));walk_at "fl"))
local macro_rules| `(tactic|walk_at "ki")=> `(tactic|first|(refine' L3.NI.mk ?a ⟨_,L2.AD ?b ?c ?d⟩;(case a=>k_is);(case b=>k_is);(case c=>k_is);(case d=>k_is))|(refine' L3.MI.mk ?a ?e ⟨_,L2.AD ?b ?c ?d⟩;(case a=>k_is);(case e=>k_is);(case b=>k_is);(case c=>k_is);(case d=>k_is))|(refine' L3.CI.mk ?a ?b ?c ?d ?e ?f ?g ?i;(case a=>k_is);(case b=>k_is);(case c=>k_is);(case d=>k_is);(case e=>k_is);(case f=>k_is);(case g=>k_is);(case i=>walk_at "fl"))|k_is|k_exc|rfl|decide+kernel|(rw[<-UA];rfl))
namespace K63
open PySem L2 L3
noncomputable def F_lawH:FN:=L10.Iy F_law
theorem all_mk {l:Ui} {w:Mg} {K:Lc} {h:Heap} {mg:Str->Option Lf} {fa:Lp}
  {f0 f1 f2 f3 f4 f5 f6 f7 f8 f9 f10 f11 f12 f13 f14 f15 f16 f17 f18 f19 f20 f21 f22:Lp} (X:K.In h) (G:h.Ns Ma mg) (ZY:mg "law"=lD (.ref fa))
  (h0:NI K f0 "_law_cell" (top 8))
  (h1:NI K f1 "_law_stirred" (top 9))
  (h2:NI K f2 "_law_stream" (top 11))
  (h3:NI K f3 "_law_name_of" (top 15))
  (h4:NI K f4 "_law_stroke_of" (top 16))
  (h5:NI K f5 "_law_read_book" (top 17))
  (h6:NI K f6 "_law_wide" (top 10))
  (h7:NI K f7 "_law_names" (top 14))
  (h8:NI K f8 "_law_stroke" (top 13))
  (h9:NI K f9 "_law_book" (top 18))
  (h10:NI K f10 "begins" (top 6))
  (h11:NI K f11 "first_ways" (top 4))
  (h12:NI K f12 "next_ways" (top 5))
  (h13:NI K f13 "_law_first" (top 22))
  (h14:NI K f14 "_law_next" (top 23))
  (h15:NI K f15 "_law_whole" (top 12))
  (h16:NI K f16 "_law_strokes" (top 21))
  (h17:NI K f17 "_law_shaped" (top 24))
  (h18:NI K f18 "offer" (top 3))
  (h19:NI K f19 "cheapest_ways" (top 2))
  (h20:NI K f20 "rests" (top 1))
  (h21:NI K f21 "_law_closed" (top 25))
  (h22:NI K f22 "law" (top 26))
  (y0:MF K Ma "max"=lD Ld)
  (y1:MF K Ma "range"=lD Ld)
  (y2:MF K Ma "tuple"=lD Ld)
  (y3:MF K Ma "len"=lD Ld)
  (y4:MF K Ma "isinstance"=lD Ld)
  (y5:MF K Ma "int"=lD Ld)
  (y6:MF K Ma "bool"=lD Ld)
  (y7:MF K Ma "all"=lD Ld)
  (y8:MF K Ma "list"=lD Ld)
  (y9:MF K Ma "min"=lD Ld)
  (y10:MF K Ma "sorted"=lD Ld)
  (y11:MF K Ma "dict"=lD Ld):
  ∃fd:M8,(∀(s:Lm) (v:Lf),QP s fd ⟨[v],[]⟩ [("_law_script",v)])/\∀base:Heap,K.In base->base.Ns Ma mg->FnOk l.prog w K mg base fT 7 fa fd ["_law_script"] (L3.jM K 1 F_lawH):=by
 have Tt:=MA X G y0;have Np:=MA X G y1;have NB:=MA X G y2;have OL:=MA X G y3;have Nr:=MA X G y4;have UE:=MA X G y5;have S1:=MA X G y6;have RK:=MA X G y7;have Rj:=MA X G y8;have RH:=MA X G y9;have Rf:=MA X G y10;have Sa:=MA X G y11;refine h22.law X G ZY (by walk_at "ba") fun base fd WV=> ?_;have QW:=h0.Ro (P:=l.prog) (w:=w) (mg:=mg) (base:=base) X G (by walk_at "ba") fun _ z=>rL z;have Oj:=h1.Ro (P:=l.prog) (w:=w) (mg:=mg) (base:=base) X G (by walk_at "ba") fun _ z=>ll z;have Qp:=h2.Ro (P:=l.prog) (w:=w) (mg:=mg) (base:=base) X G (by walk_at "ba") fun _ z=>nz z Oj Tt Np;have Qg:=h3.Ro (P:=l.prog) (w:=w) (mg:=mg) (base:=base) X G (by walk_at "ba") fun _ z=>lu z Np;have Px:=h4.Ro (P:=l.prog) (w:=w) (mg:=mg) (base:=base) X G (by walk_at "ba") fun _ z=>kh z Np NB;have Pw:=h5.Ro (P:=l.prog) (w:=w) (mg:=mg) (base:=base) X G (by walk_at "ba") fun _ z=>jY z Qg Px Np NB;have QU:=h6.Ro (P:=l.prog) (w:=w) (mg:=mg) (base:=base) X G (by walk_at "ba") fun _ z=>pF z Oj Tt;have QE:=h7.Ro (P:=l.prog) (w:=w) (mg:=mg) (base:=base) X G (by walk_at "ba") fun _ z=>ox z Np;have Qq:=h8.Ro (P:=l.prog) (w:=w) (mg:=mg) (base:=base) X G (by walk_at "ba") fun _ z=>mF z Np OL NB;have QS:=h9.Ro (P:=l.prog) (w:=w) (mg:=mg) (base:=base) X G (by walk_at "ba") fun _ z=>rD z QW Qp Pw QU QE Qq Np NB;have QC:=h10.Ro (P:=l.prog) (w:=w) (mg:=mg) (base:=base) X G (by walk_at "ba") fun _ z=>yD z OL;have PF:=h11.Ro (P:=l.prog) (w:=w) (mg:=mg) (base:=base) X G (by walk_at "ba") fun _ z=>oh z QC OL;have Qa:=h12.Ro (P:=l.prog) (w:=w) (mg:=mg) (base:=base) X G (by walk_at "ba") fun _ z=>sj z QC OL;have PH:=h13.Ro (P:=l.prog) (w:=w) (mg:=mg) (base:=base) X G (by walk_at "ba") fun _ z=>oz z OL;have Qf:=h14.Ro (P:=l.prog) (w:=w) (mg:=mg) (base:=base) X G (by walk_at "ba") fun _ z=>pG z OL;have Ol:=h15.Ro (P:=l.prog) (w:=w) (mg:=mg) (base:=base) X G (by walk_at "ba") fun _ z=>nY z Nr UE S1;have Qb:=h16.Ro (P:=l.prog) (w:=w) (mg:=mg) (base:=base) X G (by walk_at "ba") fun _ z=>lq z Ol Nr NB RK;have Pj:=h17.Ro (P:=l.prog) (w:=w) (mg:=mg) (base:=base) X G (by walk_at "ba") fun _ z=>nQ z Qb Ol Nr Rj NB OL Np;have Q7:=h18.Ro (P:=l.prog) (w:=w) (mg:=mg) (base:=base) X G (by walk_at "ba") fun _ z=>Bh z RH;have OI:=h19.Ro (P:=l.prog) (w:=w) (mg:=mg) (base:=base) X G (by walk_at "ba") fun _ z=>kM z Q7 PF Qa RH;have QF:=h20.Ro (P:=l.prog) (w:=w) (mg:=mg) (base:=base) X G (by walk_at "ba") fun _ z=>Az z OI Rf;have Qr:=h21.Ro (P:=l.prog) (w:=w) (mg:=mg) (base:=base) X G (by walk_at "ba") fun _ z=>nh z QF Pj PH Qf Sa RK Rj;exact(Hu WV Qr QF QS NB).imp (fun _ _ _ _ h=>L10.GD h)
end K63
noncomputable def PySem.W.Fast.tw1489349209938769057:Unit:=()
noncomputable def PySem.W.Fast.tw1292599130100226896:Unit:=()
noncomputable def PySem.W.Fast.tw1586051831842871644:Unit:=()
noncomputable def PySem.W.Fast.tw18110564318835511000:Unit:=()
noncomputable def PySem.W.Fast.tw13320817092542433361:Unit:=()
noncomputable def PySem.W.Fast.tw11158433031441140542:Unit:=()
noncomputable def PySem.W.Fast.tw8352915195042450360:Unit:=()
noncomputable def PySem.W.Fast.tw6941480173686363921:Unit:=()
noncomputable def PySem.W.Fast.tw1502359118706016615:Unit:=()
noncomputable def PySem.W.Fast.tw13908975300537833701:Unit:=()
noncomputable def PySem.W.Fast.tw6615434881191221775:Unit:=()
noncomputable def PySem.W.Fast.tw4422838404948056046:Unit:=()
noncomputable def PySem.W.Fast.tw10656322626879261070:Unit:=()
noncomputable def PySem.W.Fast.tw16557096923907465140:Unit:=()
noncomputable def PySem.W.Fast.tw14627234339280750647:Unit:=()
noncomputable def PySem.W.Fast.tw9278783931973991139:Unit:=()
noncomputable def PySem.W.Fast.tw5478835976667924721:Unit:=()
noncomputable def PySem.W.Fast.tw17243022957631756928:Unit:=()
noncomputable def PySem.W.Fast.tw11997355515224536914:Unit:=()
noncomputable def PySem.W.Fast.tw5138279775053420574:Unit:=()
noncomputable def PySem.W.Fast.tw8289491103717107618:Unit:=()
noncomputable def PySem.W.Fast.tw7062349868224162625:Unit:=()
noncomputable def PySem.W.Fast.tw17710253079376193949:Unit:=()
noncomputable def PySem.W.Fast.tw3517787126702477588:Unit:=()
noncomputable def PySem.W.Fast.tw6514536242206167105:Unit:=()
noncomputable def PySem.W.Fast.tw17522582562594011425:Unit:=()
noncomputable def PySem.W.Fast.tw7249501044224438397:Unit:=()
noncomputable def PySem.W.Fast.tw9119219494616771052:Unit:=()
noncomputable def PySem.W.Fast.tw13503571771237259645:Unit:=()
noncomputable def PySem.W.Fast.tw2450970124916937305:Unit:=()
noncomputable def PySem.W.Fast.tw16179793891052759666:Unit:=()
noncomputable def PySem.W.Fast.tw16971564290441343927:Unit:=()
noncomputable def PySem.W.Fast.tw14375906162647639939:Unit:=()
noncomputable def PySem.W.Fast.tw6864183819099007096:Unit:=()
noncomputable def PySem.W.Fast.tw11927506262868485492:Unit:=()
noncomputable def PySem.W.Fast.tw14016060030789684714:Unit:=()
noncomputable def PySem.W.Fast.tw17905018891680179891:Unit:=()
noncomputable def PySem.W.Fast.tw12449774367837927669:Unit:=()
noncomputable def PySem.W.Fast.tw16932043025556852334:Unit:=()
noncomputable def PySem.W.Fast.tw18096817817877261322:Unit:=()
noncomputable def PySem.W.Fast.tw6539089021894439838:Unit:=()
noncomputable def PySem.W.Fast.tw5354139388994549084:Unit:=()
noncomputable def PySem.W.Fast.tw3426628106670360179:Unit:=()
noncomputable def PySem.W.Fast.tw1333797985968761081:Unit:=()
noncomputable def PySem.W.Fast.tw7067181830403156421:Unit:=()
noncomputable def PySem.W.Fast.tw12139766010313603561:Unit:=()
noncomputable def PySem.W.Fast.tw14012638767656908217:Unit:=()
noncomputable def PySem.W.Fast.tw9722088489424563518:Unit:=()
noncomputable def PySem.W.Fast.tw17928561397640088256:Unit:=()
noncomputable def PySem.W.Fast.tw1671539728522546221:Unit:=()
noncomputable def PySem.W.Fast.tw18107062380171792589:Unit:=()
noncomputable def PySem.W.Fast.tw14625375932200299672:Unit:=()
noncomputable def PySem.W.Fast.tw7835012714255497984:Unit:=()
noncomputable def PySem.W.Fast.tw15277917722059855477:Unit:=()
noncomputable def PySem.W.Fast.tw2809293672337420866:Unit:=()
noncomputable def PySem.W.Fast.tw17013378986040450804:Unit:=()
noncomputable def PySem.W.Fast.tw6035429460764151442:Unit:=()
noncomputable def PySem.W.Fast.tw8733317958374692556:Unit:=()
noncomputable def PySem.W.Fast.tw13829790571008791468:Unit:=()
noncomputable def PySem.W.Fast.tw9421385023881834637:Unit:=()
noncomputable def PySem.W.Fast.tw14451574989396646317:Unit:=()
noncomputable def PySem.W.Fast.tw1174759742603166842:Unit:=()
noncomputable def PySem.W.Fast.tw12007460036757475591:Unit:=()
noncomputable def PySem.W.Fast.tw13631511057139242550:Unit:=()
noncomputable def PySem.W.Fast.tw10439255829285973148:Unit:=()
noncomputable def PySem.W.Fast.tw6922442694506016776:Unit:=()
noncomputable def PySem.W.Fast.tw1657655452193744210:Unit:=()
noncomputable def PySem.W.Fast.tw4072125737688082645:Unit:=()
noncomputable def PySem.W.Fast.tw5934158709148750444:Unit:=()
noncomputable def PySem.W.Fast.tw15588990547663145399:Unit:=()
noncomputable def PySem.W.Fast.tw5752688100427986319:Unit:=()
noncomputable def PySem.W.Fast.tw9848845100175297176:Unit:=()
noncomputable def PySem.W.Fast.tw14336650699436904390:Unit:=()
noncomputable def PySem.W.Fast.tw9830915945184393150:Unit:=()
noncomputable def PySem.W.Fast.tw9260791384368756593:Unit:=()
noncomputable def PySem.W.Fast.tw15906287383131493093:Unit:=()
noncomputable def PySem.W.Fast.tw838800157098080759:Unit:=()
noncomputable def PySem.W.Fast.tw6132239336791132387:Unit:=()
noncomputable def PySem.W.Fast.tw1572947083166228212:Unit:=()
noncomputable def PySem.W.Fast.tw14065206819716096779:Unit:=()
noncomputable def PySem.W.Fast.tw11668117905476767320:Unit:=()
noncomputable def PySem.W.Fast.tw15644188024807942018:Unit:=()
noncomputable def PySem.W.Fast.tw2860202427156425004:Unit:=()
noncomputable def PySem.W.Fast.tw6823702870651710372:Unit:=()
noncomputable def PySem.W.Fast.tw13656893552547863268:Unit:=()
noncomputable def PySem.W.Fast.tw1291466851619345972:Unit:=()
noncomputable def PySem.W.Fast.tw3033026074749603834:Unit:=()
noncomputable def PySem.W.Fast.tw4923401987402916284:Unit:=()
noncomputable def PySem.W.Fast.tw5109663991303188844:Unit:=()
noncomputable def PySem.W.Fast.tw10555504276825707479:Unit:=()
noncomputable def PySem.W.Fast.tw16113328597014789158:Unit:=()
noncomputable def PySem.W.Fast.tw2189798128109067465:Unit:=()
noncomputable def PySem.W.Fast.tw13817880926347740114:Unit:=()
noncomputable def PySem.W.Fast.tw9200086402264868804:Unit:=()
noncomputable def PySem.W.Fast.tw15328336002206850142:Unit:=()
noncomputable def PySem.W.Fast.tw4396125361714888516:Unit:=()
noncomputable def PySem.W.Fast.tw6055168912153043117:Unit:=()
noncomputable def PySem.W.Fast.tw9317492551784159419:Unit:=()
noncomputable def PySem.W.Fast.tw17564991754285596457:Unit:=()
noncomputable def PySem.W.Fast.tw180478623088933737:Unit:=()
noncomputable def PySem.W.Fast.tw3852462333501391122:Unit:=()
noncomputable def PySem.W.Fast.tw13775206952394264549:Unit:=()
noncomputable def PySem.W.Fast.tw13324624729048329017:Unit:=()
noncomputable def PySem.W.Fast.tw5994517109046945441:Unit:=()
noncomputable def PySem.W.Fast.tw7841774991778625540:Unit:=()
noncomputable def PySem.W.Fast.tw4445811027673706155:Unit:=()
noncomputable def PySem.W.Fast.tw8234233092215446312:Unit:=()
open PySem PySem.W PyProof.Rows
set_option maxRecDepth 100000 in
set_option maxHeartbeats 0 in
theorem PySem.Challenge.cw_chordbed_k63_whole_rests_closed_holds : PySem.Challenge.rw_chordbed_k63_whole_rests_closed.Holds := by
 w_on;o_law;k_head;(case hw=>w_witness2)
 k_fill
 refine L3.Jw (l:=PySem.Challenge.rw_chordbed_k63_whole_rests_closed) (n:=63) (k:=7) (x:= "_law_script") (F:=K63.F_lawH) rfl (by decide) rfl ⟨rfl,by decide,by decide⟩ (fun w h Y=>PySem.W.kIn_of Y) ?F K63.main
 case F=>
  intro w mg fa h KX G Yn
  apply K63.all_mk KX G Yn
  all_goals walk_at "ki"
