import PyProof.Rows.All
import Wide.All
import OpenK.AllK
import Wide.FinOn
import Lean
import PyProof.EqAt
import PyProof.EqKinds
import PyProof.TupleCall
import KE.KIntText
import KE.KRevSl
import PyProof.Rows.SeqMore
import PyProof.WalkInts
import PyProof.Rows.MinMaxN
import PyProof.ExcInit
import OpenK.KMake
import PyProof.InstStoreFacts
import PyProof.FString2
import PyProof.Rows.FStr
import PyProof.Rows.SetFrom
import PyProof.SeqRoads2
import PyProof.RangeFor
import PyProof.WalksMore
import PyProof.StrBlock2
import PyProof.Rows.SortShell
import PyProof.TupleOfSeq
import KE.KDictList
import KE.KDictOf
import PyProof.IsiH_tuple
import PyProof.Rows.RuleN_abs
import PyProof.Rows.Range3
import KE.KRevIter
import PyProof.StrLawsRepr
import PyProof.ReprStr
import PySem.Challenge.RW_chordbed_k62_words_written_and_read
set_option Elab.async false
set_option linter.all false
set_option maxRecDepth 100000
open PySem.W renaming Frag->Hf,nsIn->HA,kitOne->HN,findIn->Ia,mg_none_of->Ij,subIn->IA,mg_of->IH,typeIn->IP,isClsIn->IU,keepIn->Jx,kia_one->JY,specialIn->J8,isFn->J9,cellsFrom_some->Ka,fnOf->Kc,InstAt->Ke,hasDictIn->KQ,tailIn->Lr,excIn->LN,clsIn->LO,methodObj->Mc,readsIn->MJ,findCls->MK,codeIn->MV,nsOkIn->MZ,notCls->M0,callWith_K->OC,tail_of_in->OG,plainOver->Pc,plainGet->Pq,instObj->P6,makesIn->P9,OpenLaw->Qd,lookIn->Qm,mroIn->Q0
open PySem renaming Value->Hg,wpAny_bind->Hh,Shared->Hi,Addr->Hj,wpAny_pure->Hq,PyData->Hr,sizeLine->Ht,mainGlobals->Hw,Program->Hy,NameKind->HG,Expr->HI,starEach->HL,Around->HM,World->HU,bootBuiltins->Iq,FuncData->IB,wpAny_newObj_type->II,wpAny_field->IS,swapsWith->Ja,binaryOp->Jj,mem_of_lookup->Jk,compareOp->Jn,wpAny_loadPart_at->Jo,Stmt->Js,cellsFrom->Jt,wpAny_holding->JA,call_meets->JB,wpAny_standAt->JC,sizeLine_eq->JL,wpAny_Call_Name_kw->JM,Scope->JP,wpAny_passesOwn->JQ,builtinLookup_eq_fast->JS,wpAny_truthy_bool->JT,codeAny_call_builtin->J0,noFill_tuple_add->J5,wpAny_typeOf->J6,wpAny_isSubtype_exc->Kd,wpAny_execs_nil->Ki,wpAny_ite_split->Kj,sysModules->Km,wpAny_getItem_str_slice->Kp,wpAny_setField->KA,ExcBaseFacts->KC,PassesOwn->KJ,seq_tuple_add->KO,typeLookup_type->K2,tupleKind_room_in1->Ld,IsPart->Lq,GenState->LI,wpAny_callSpecial?_slot->LJ,codeAny_mono->LU,wpAny_inplaceOp_concat->LV,post_val_or_str->Mb,BindsTo->MD,evalPart_none->MN,wpAny_call->MU,typeIs_int->MX,Model->Np,Keyword->Nq,wpAny_sequenceKey->Nr,wpAny_Call_ofName->Nu,wpAny_execs_cons->NM,Result->NN,wpAny_call_entry->NO,IsRangeIter->N5,pushCells_keeps->N8,wpAny_specialOf->N9,ItemsOf->Oa,OsState->Oq,Code->OB,wpAny_binaryOp_repeat_ref->Pe,wpAny_getItem_list_slice->Pr,wpAny_comprehension_free->Pt,wpAny_pyIter_tuple->Pu,plainId_quiet->Pw,Drawn->P7,CmpOp->P8,wpAny_pyIter_list->Qc,wpAny_pyNext_range_end->Qk,wpAny_pyIter_rangeiter->Ql,concat_meets->Qn,wpAny_isTrue_Compare1->QZ,wpAny_loadName_local->Rf,wpAny_Slice->Rg,wpAny_loadName_cell->Rt,wpAny_raiseNew_none->Rx,wpAny_Name->RY,wpAny_pyIter_range->R0,typeIs_str->R8,wpAny_assign_Name->SX,slot_list_getitem->SY,OwnTail->S1,Data->Tt,DictEntry->TH,call->TK,wpAny_isInstance->TM,codeAny_builtin->U8,wpAny_Compare1->VZ,wpAny_Expr_any->V0,Operator->V1,Walks->V2,fitsIndex_both->V5,wpAny_loadPart->Wa,refuseLoop_ref->Wb,isSubtype_type->Wc,callType_codes->We,intBits_le_64->XT,call_list_seq->XU,strLen_append->XW,seqIndex_neg->YX
open List renaming length_map->Hk,replicate->Hl,getElem?_eq_some_iff->Hm,length_append->Hn,size_toArray->Hs,getElem?_map->Hv,length_range->HC,getElem?_eq_getElem->HD,length_replicate->HE,range->HF,map_cons->HH,length_cons->HP,map_append->HV,mem_of_getElem?->HX,length_drop->HY,mem_singleton->HZ,mem_cons_of_mem->Ic,mem_cons->Ie,length_take->Ig,mem_append->Ih,mem_cons_self->Ik,replicate_succ->Im,getElem?_append_left->Io,mem_append_right->Ir,append_nil->Iv,find?_cons->Iw,lookup_cons->Iz,length_reverse->IC,length_singleton->IE,getElem?_set->IG,getElem?_append_right->IK,mem_map->IL,length_set->IZ,all_eq_true->Jc,mem_range->Jd,reverse_cons->Ji,drop_eq_getElem_cons->Ju,nodup_cons->Jv,length_nil->Jw,take_length->Jy,getElem?_set_self->JE,drop_eq_nil_of_le->JF,take_of_length_le->JG,getElem_range->JH,flatten_cons->JN,getElem?_set_ne->JR,getElem_mem->JU,filterMap_cons->JX,contains_cons->J7,getElem?_replicate->Kb,take_succ_eq_append_getElem->Kk,getElem?_eq_none->Kr,map_reverse->Kw,mem_reverse->Kx,Nodup->Ky,any_cons->Kz,length->KG,foldl->KR,pairwise_cons->KU,append_assoc->K5,map_take->La,map_drop->Lb,map_map->Ln,take_append_drop->LF,mem_append_left->LL,getElem?_range->Ma,mem_filterMap->Mn,map_nil->ME,getElem_map->MO,cons_append->MP,cons_ne_nil->MQ,of_mem_zip->Nj,foldl_cons->Nk,nil_append->Nl,nodup_iff_pairwise_ne->NJ,mem_iff_getElem->Pf,lookup->Pg,flatten_append->Px,filterMap_map->Qa,set_cons_zero->Qe,set_cons_succ->Qf,find?_eq_none->Qg,ext_getElem?->Qq,pairwise_map->Qs,not_mem_nil->Q2,nodup_range->Q3,any_eq_true->Q4,mem_filter->Rc,drop_zero->Rv,nodup_nil->Ry,take_zero->Rz,drop_left->RA,drop_drop->RB,take_nil->Sb
open Nat renaming le_refl->Ho,lt_of_lt_of_le->Hx,ne_of_lt->HK,le_of_ble_eq_true->HQ,le_trans->Il,lt_irrefl->IT,ne_of_gt->Jp,zero_le->Jq,le_of_lt->JV,lt_trans->Kn,le_of_succ_le->K9,min_le_right->MW,lt_succ_self->MY,min_eq_right->M4,min_eq_left->Nv,mul_le_mul->NP,add_sub_cancel_left->Ou,zero_add->OE,sub_self->OH,lt_of_le_of_lt->Qo,add_sub_cancel->Qt,lt_succ_of_lt->Q1,succ_mul->TJ,sub_zero->TL
open Bool renaming false_ne_true->Hu,and_eq_true->Ip,eq_iff_iff->KI,or_true->KP,false_eq_true->KS,true_or->Lo,false_and->LM,bne_false->LP,true_and->N6,false_or->N7,or_eq_true->Rh,and_false->Ru,or_false->R9,and_self->Sa
open Int renaming emod_nonneg->Hz,emod_lt_of_pos->HB,toNat_natCast->IV,ediv_nonneg->JK,ediv_one->OD
open Option.some renaming inj->HJ
open PyProof.Rows renaming slot_tuple_getitem->HS,envOfC->Ii,callWith_type1->Je,callWith_builtin1->U7
open Array renaming getElem?_eq_some_iff->Iy,length_toList->IM,getElem?_setIfInBounds_self_of_lt->LC,getElem?_setIfInBounds_ne->MF,getElem?_eq_getElem->NH,getElem?_toList->Ot,mem_toList_iff->OA,find?_toList->Pp,toList_inj->Qp,all_toList->Qr,toList->RZ
open PySem.F renaming args_tuple_add_2->Jb,entry_tuple_add->Jf,slot_tuple_add->Jl,attrBase_ValueError->JI,excBase_ValueError->JO,plainAttrs_list->J1,slot_list_insert->Nt,slot_list_append->Nw,type_list_append->Nx,slot_list_count->NF,slot_list_index->NG
open Option renaming isSome_map->Mo,isSome_iff_exists->NC,none->Oo,isSome_some->Pd,getD_none->Qb
open List.cons renaming inj->M3
open List.Pairwise renaming nil->ND,imp_of_mem->TN
open PySem.PassesOwn renaming never->Sd
open PySem.AutoSeq1 renaming list_insert_list_int_val_1->S0
open PySem.EqMixed renaming eq_bool_str->Tu,eq_int_str->Tv,eq_str_bool->Tw,eq_str_int->Tx,ne_bool_str->Tz,ne_int_str->TB,ne_str_bool->TC,ne_str_int->TF
open PySem.EqNone renaming eq_none_none->US,eq_none_bool->UT,eq_none_int->UU,eq_none_str->UW,eq_bool_none->UX,eq_int_none->UY,eq_str_none->UZ,ne_none_none->U0,ne_none_bool->U1,ne_none_int->U2,ne_none_str->U3,ne_bool_none->U4,ne_int_none->U5,ne_str_none->U6
open PySem.SeqAt renaming compareEq_reads->V3,compareNe_reads->V4,in_list_reads->V6,in_tuple_reads->V7,notIn_list_reads->V8,notIn_tuple_reads->V9
open PySem.IsL renaming update->YY
namespace L2
open PySem PySem.Spec PyProof.Rows
abbrev aK:=Sum Int Str
noncomputable def mv:aK->Hg->Bool
 | .inl k,v=>Hg.isInt k v
 | .inr x,v=>Hg.isStrOf x v
noncomputable def Gq (w:HU):aK->Int
 | .inl k=>hashInt k
 | .inr x=>hashStr w x
theorem bJ:∀{k:aK} {v:Hg},mv k v=true->(∃i t,k=Sum.inl i/\v=Hg.int i t)\/(∃x t,k=Sum.inr x/\v=Hg.str x t)
 | .inl i,v,h=>by obtain⟨t,e⟩:=Hg.isInt_shape (k:=i) (v:=v) h;exact .inl ⟨i,t,rfl,e⟩
 | .inr x,v,h=>by obtain⟨t,e⟩:=Hg.isStrOf_shape (x:=x) (v:=v) h;exact .inr ⟨x,t,rfl,e⟩
theorem vU (i:Int) (t:Tok):mv (.inl i) (.int i t)=true:=by simp[mv,Hg.isInt]
theorem vt (x:Str) (t:Tok):mv (.inr x) (.str x t)=true:=by simp[mv,Hg.isStrOf]
theorem De (a b:Int):decide ((Sum.inl a:aK)=Sum.inl b)=(a==b):=by
 by_cases e:a=b
 ·subst e;simp
 ·have h:¬(Sum.inl a:aK)=Sum.inl b:=fun q=>e (Sum.inl.inj q);rw[decide_eq_false h];exact(beq_eq_false_iff_ne.mpr e).symm
theorem Cs (a b:Str):decide ((Sum.inr a:aK)=Sum.inr b)=decide (a=b):=by
 by_cases e:a=b
 ·subst e;simp
 ·have h:¬(Sum.inr a:aK)=Sum.inr b:=fun q=>e (Sum.inr.inj q);rw[decide_eq_false h,decide_eq_false e]
theorem Cl (a:Int) (b:Str):decide ((Sum.inl a:aK)=Sum.inr b)=false:=decide_eq_false (fun q=>nomatch q)
theorem CJ (a:Str) (b:Int):decide ((Sum.inr a:aK)=Sum.inl b)=false:=decide_eq_false (fun q=>nomatch q)
noncomputable def bK (prog:Hy) (w:HU):PySem.KeyKind prog w aK where
 is:=mv
 hash:=Gq w
 inj:=fun v a b ha hb=>by
  rcases bJ ha with⟨i,t,rfl,rfl⟩|⟨x,t,rfl,rfl⟩
  ·rcases bJ hb with⟨j,u,rfl,e⟩|⟨y,u,rfl,e⟩
   ·injection e with e1 _;rw[e1]
   ·exact nomatch e
  ·rcases bJ hb with⟨j,u,rfl,e⟩|⟨y,u,rfl,e⟩
   ·exact nomatch e
   ·injection e with e1 _;rw[e1]
 byValue:=fun k v h=>by rcases bJ h with⟨i,t,rfl,rfl⟩|⟨x,t,rfl,rfl⟩<;>rfl
 pyHash:=fun hv h=>by
  rcases bJ hv with⟨i,t,rfl,rfl⟩|⟨x,t,rfl,rfl⟩
  ·exact wpAny_pyHash_int h
  ·exact wpAny_pyHash_str h
 eqBool:=fun hu hv h=>by
  rcases bJ hu with⟨i,t,rfl,rfl⟩|⟨x,t,rfl,rfl⟩
  ·rcases bJ hv with⟨j,u,rfl,rfl⟩|⟨y,u,rfl,rfl⟩
   ·rw[De] at h;exact wpAny_eqBool_int h
   ·rw[Cl] at h;exact SeqAt.EqAt.int_str i t y u _ _ _ _ h
  ·rcases bJ hv with⟨j,u,rfl,rfl⟩|⟨y,u,rfl,rfl⟩
   ·rw[CJ] at h;exact SeqAt.EqAt.str_int x t j u _ _ _ _ h
   ·rw[Cs] at h;exact wpAny_eqBool_str h
 «strs»:=fun k x t v h=>by
  rcases bJ h with⟨i,u,rfl,e⟩|⟨y,u,rfl,e⟩
  ·exact nomatch e
  ·injection e with e1 _
   subst e1;cases v<;>rfl
theorem ph (prog:Hy) (w:HU) (i:Int) (t:Tok):(bK prog w).is (.inl i) (.int i t)=true:=vU i t
theorem pD (prog:Hy) (w:HU) (x:Str) (t:Tok):(bK prog w).is (.inr x) (.str x t)=true:=vt x t
inductive V where
 |JD|bl (b:Bool)|int (i:Int)|str (x:Str)|Pk (b:Array UInt8)|Ts (b:UInt64)|ref (a:Hj)|ty (n:String)
 deriving DecidableEq
def RelV:V->Hg->Prop
 | .JD,u=>u=Hg.none
 | .bl b,u=>u=Hg.bool b
 | .int i,u=>∃t,u=Hg.int i t
 | .str x,u=>∃t,u=Hg.str x t
 | .Pk b,u=>∃t,u=Hg.bytes b t
 | .Ts b,u=>∃t,u=Hg.float b t
 | .ref a,u=>u=Hg.ref a
 | .ty n,u=>u=Hg.type n
noncomputable abbrev Vals:List V->List Hg->Prop:=Paired RelV
theorem Vals.length {xs:List V} {us:List Hg} (r:Vals xs us):xs.length=us.length:=Paired.length r
theorem Vals.get:∀{xs:List V} {us:List Hg} {i:Nat} {x:V},Vals xs us->xs[i]? =some x->∃u,us[i]? =some u/\RelV x u
 |_,_,_,_,.nil,e=>by simp at e
 |_,_,0,_,.cons r _,e=>by simp at e;subst e;exact⟨_,rfl,r⟩
 |_,_,i+1,x,.cons _ t,e=>by obtain⟨u,h1,h2⟩:=Vals.get (i:=i) (x:=x) t (by simpa using e);exact⟨u,by simpa using h1,h2⟩
theorem Vals.append:∀{xs ys:List V} {us ws:List Hg},Vals xs us->Vals ys ws->Vals (xs++ys) (us++ws)
 |_,_,_,_,.nil,s=>s
 |_,_,_,_,.cons r t,s=> .cons r (Vals.append t s)
theorem Vals.take:∀{xs:List V} {us:List Hg} (n:Nat),Vals xs us->Vals (xs.take n) (us.take n)
 |_,_,0,_=> .nil
 |_,_,_+1,.nil=> .nil
 |_,_,n+1,.cons r t=> .cons r (Vals.take n t)
theorem Vals.drop:∀{xs:List V} {us:List Hg} (n:Nat),Vals xs us->Vals (xs.drop n) (us.drop n)
 |_,_,0,r=>r
 |_,_,_+1,.nil=> .nil
 |_,_,n+1,.cons _ t=>Vals.drop n t
def ML:Option V->Option Hg->Prop
 |some v,some u=>RelV v u
 |none,none=>True
 |_,_=>False
def KV {κ:Type}:List (κ×V)->List (κ×Hg)->Prop:=Paired fun(p:κ×V) (q:κ×Hg)=>p.1=q.1/\RelV p.2 q.2
noncomputable def kV:aK->V
 | .inl i=> .int i
 | .inr x=> .str x
inductive HO where
 |lst (xs:List V)
 |tup (xs:List V)
 |dK (kvs:List (aK×V))|dT (kvs:List (List aK×V))
 |set (S:Int->Bool) (n:Nat)
 |ins (C dx:Hj) (fs:List (Str×V))
 |own (x:Hj)
 |xd (fs:List (Str×V))
 |met (f x:Hj)
 |Vv (lo hi:Int)
 |frz (o:Obj) (u:HO)
 |RM (ps:Array Hg)
 |ext (φ:Heap->Prop)
abbrev Hp:=Hj->Option HO
noncomputable def aY (H:Hp) (a:Hj) (o:HO):Hp:=fun b=>if b=a then some o else H b
theorem ar {H:Hp} {a:Hj} {o:HO}:aY H a o a=some o:=by unfold aY;rw[if_pos rfl]
theorem aj {H:Hp} {a b:Hj} {o:HO} (h:b≠a):aY H a o b=H b:=by unfold aY;rw[if_neg h]
theorem Fy {H:Hp} {a b:Hj} {o u:HO} (h:H a=some o) (h':H b=some u) (d:o≠u):a≠b:=by intro e;subst e;rw[h] at h';exact d (HJ h')
theorem b7 {H:Hp} {a b:Hj} {o:HO} (h:H a=some o) (h':H b=none):a≠b:=by intro e;subst e;rw[h] at h';cases h'
def Mq (h:Heap) (a:Hj) (items:Array Hg):Prop:=∃o,h.get? a=some o/\(o.cls= .type "tuple"/\∃n,o.data= .seq items n)/\o.dict=none
theorem Mq.tup {h:Heap} {a:Hj} {items:Array Hg} (x:Mq h a items):IsTup h a items:=let⟨o,e,c,_⟩:=x;⟨o,e,c⟩
theorem Mq.lt {h:Heap} {a:Hj} {items:Array Hg} (x:Mq h a items):a<h.objs.size:=let⟨_,e,_⟩:=x;Heap.lt_size e
theorem Mq.new (h:Heap) (xs:Array Hg):Mq (h.push {cls:= .type "tuple",data:= .seq xs}) h.objs.size xs:=⟨_,Heap.get?_push_size _ rfl,⟨rfl,_,rfl⟩,rfl⟩
section
variable (P:Hy) (w:HU)
def ObjOk (H:Hp) (h:Heap) (a:Hj):HO->Prop
 | .lst xs=>xs.length<=Ht/\∃(HW:List Hg) (n:Nat),Vals xs HW/\h.get? a=some {cls:= .type "list",data:= .seq HW.toArray n}
 | .tup xs=>xs.length<=Ht/\∃HW:List Hg,Vals xs HW/\Mq h a HW.toArray
 | .dK kvs=>kvs.length<=Ht/\(a==Km)=false/\∃vs,KV kvs vs/\h.DictOf (bK P w) a vs
 | .dT kvs=>kvs.length<=Ht/\(a==Km)=false/\∃xs:List (List aK×Hj×Hg),
   Paired (fun(p:List aK×V) (q:List aK×Hj×Hg)=>p.1=q.1/\H q.2.1=some (.tup (p.1.map kV))/\RelV p.2 q.2.2) kvs xs/\
   ∃o es ep,h.get? a=some o/\o.ExactDict/\o.data= .dict es ep/\es.toList=xs.map (entryOfKey (tupleKind (bK P w)))/\(xs.map (·.1)).Nodup
 | .set S n=>h.SetOf (intKind P w) a S n
 | .ins C dx fs=>H dx=some (.own a)/\fs.length<=1000/\dx≠a/\h.get? a=some (P6 C dx)/\
   ∃mA,h.Ns1 dx mA/\(∀f,ML (fs.lookup f) (mA f))/\PySem.Within mA (fs.map (·.1))
 | .own _=>∃o,h.get? a=some o
 | .xd fs=>∃mA,h.Ns1 a mA/\∀f,ML (fs.lookup f) (mA f)
 | .Vv lo hi=>∃t u v,h.get? a=some {cls:= .type "range",data:= .fields #[.int lo t,.int hi u,.int 1 v]}
 | .frz o u=>h.get? a=some o/\ObjOk H h a u
 | .RM ps=>h.get? a=some {cls:= .none,data:= .fields ps}
 | .met f x=>h.get? a=some (Mc (.ref f) (.ref x))
 | .ext φ=>φ h/\(∃o,h.get? a=some o)/\∀h1 h2:Heap,φ h1->(∀o,h1.get? a=some o->h2.get? a=some o)->φ h2
def LK (H:Hp) (h:Heap):Prop:=∀a o,H a=some o->ObjOk P w H h a o
end
section
variable {P:Hy} {w:HU} {H H':Hp} {h h':Heap} {a:Hj} {o:HO}
theorem ObjOk.lt (x:ObjOk P w H h a o):a<h.objs.size:=by
 cases o with
 |lst xs=>obtain⟨_,_,_,_,e⟩:=x;exact Heap.lt_size e
 |tup xs=>obtain⟨_,_,_,p⟩:=x;exact p.lt
 |dK kvs=>obtain⟨_,_,_,_,o,_,_,e,_⟩:=x;exact Heap.lt_size e
 |dT kvs=>obtain⟨_,_,_,_,o,_,_,e,_⟩:=x;exact Heap.lt_size e
 |set S n=>obtain⟨o,_,_,_,e,_⟩:=x;exact Heap.lt_size e
 |ins C dx fs=>obtain⟨_,_,_,e,_⟩:=x;exact Heap.lt_size e
 |own y=>obtain⟨_,e⟩:=x;exact Heap.lt_size e
 |xd fs=>obtain⟨_,⟨_,_,_,e,_⟩,_⟩:=x;exact Heap.lt_size e
 |Vv lo hi=>obtain⟨_,_,_,e⟩:=x;exact Heap.lt_size e
 |frz ob u=>obtain⟨e,_⟩:=x;exact Heap.lt_size e
 |RM ps=>exact Heap.lt_size (show h.get? a=some _ from x)
 |met f y=>exact Heap.lt_size (show h.get? a=some _ from x)
 |ext φ=>obtain⟨_,⟨_,e⟩,_⟩:=x;exact Heap.lt_size e
theorem Paired.Mi {α β:Type} {F G:α->β->Prop}:∀{l₁:List α} {l₂:List β},Paired F l₁ l₂->(∀a b,F a b->G a b)->Paired G l₁ l₂
 |_,_,.nil,_=> .nil
 |_,_,.cons r t,f=> .cons (f _ _ r) (Paired.Mi t f)
theorem ObjOk.Lw (x:ObjOk P w H h a o) (k:∀b u,(b=a\/H b=some (.own a))->h.get? b=some u->h'.get? b=some u)
  (ho:∀b,H b=some (.own a)->H' b=some (.own a)) (ht:∀b xs,H b=some (.tup xs)->H' b=some (.tup xs)):ObjOk P w H' h' a o:=by
 induction o with
 |lst xs=>obtain⟨z,HW,n,r,e⟩:=x;exact⟨z,HW,n,r,k _ _ (.inl rfl) e⟩
 |tup xs=>obtain⟨z,HW,r,ob,e,c⟩:=x;exact⟨z,HW,r,ob,k _ _ (.inl rfl) e,c⟩
 |dK kvs=>obtain⟨z,y,vs,r,ob,es,ep,e,c⟩:=x;exact⟨z,y,vs,r,ob,es,ep,k _ _ (.inl rfl) e,c⟩
 |dT kvs=>obtain⟨z,y,xs,r,ob,es,ep,e,c⟩:=x;exact⟨z,y,xs,Paired.Mi r fun p q z=>⟨z.1,ht _ _ z.2.1,z.2.2⟩,ob,es,ep,k _ _ (.inl rfl) e,c⟩
 |set S n=>obtain⟨ob,es,ep,t,e,c⟩:=x;exact⟨ob,es,ep,t,k _ _ (.inl rfl) e,c⟩
 |ins C dx fs=>obtain⟨d,z,ne,e,mA,⟨od,es,ep,e2,c⟩,r⟩:=x;exact⟨ho _ d,z,ne,k _ _ (.inl rfl) e,mA,⟨od,es,ep,k _ _ (.inr d) e2,c⟩,r⟩
 |own y=>obtain⟨ob,e⟩:=x;exact⟨ob,k _ _ (.inl rfl) e⟩
 |xd fs=>obtain⟨mA,⟨od,es,ep,e,c⟩,r⟩:=x;exact⟨mA,⟨od,es,ep,k _ _ (.inl rfl) e,c⟩,r⟩
 |Vv lo hi=>obtain⟨t,u,v,e⟩:=x;exact⟨t,u,v,k _ _ (.inl rfl) e⟩
 |frz ob u ih=>obtain⟨e,q⟩:=x;exact⟨k _ _ (.inl rfl) e,ih q⟩
 |RM ps=>have e:h.get? a=some {cls:= .none,data:= .fields ps}:=x;show h'.get? a=some {cls:= .none,data:= .fields ps};exact k a _ (.inl rfl) e
 |met f y=>have e:h.get? a=some (Mc (.ref f) (.ref y)):=x;show h'.get? a=some (Mc (.ref f) (.ref y));exact k a _ (.inl rfl) e
 |ext φ=>obtain⟨p,⟨o,e⟩,st⟩:=x;exact⟨st _ _ p fun o q=>k _ _ (.inl rfl) q,⟨o,k _ _ (.inl rfl) e⟩,st⟩
theorem LK.lt (x:LK P w H h) (e:H a=some o):a<h.objs.size:=(x a o e).lt
theorem LK.fresh (x:LK P w H h) (e:h.objs.size<=a):H a=none:=by
 cases q:H a with
 |none=>rfl
 |some u=>exact absurd (Hx (x.lt q) e) (IT _)
theorem LK.kept (x:LK P w H h) (k:∀b u,h.get? b=some u->h'.get? b=some u):LK P w H h':=fun a o e=>
 (x a o e).Lw (fun b u _ q=>k b u q) (fun _ q=>q) fun _ _ q=>q
theorem LK.laid (x:LK P w H h) (k:∀b u,h.get? b=some u->h'.get? b=some u) (hp:h.objs.size<=a) (new:ObjOk P w (aY H a o) h' a o):LK P w (aY H a o) h':=fun b u e=>by
 have hn:=x.fresh hp;by_cases hb:b=a
 ·subst hb;rw[ar] at e;cases e;exact new
 ·rw[aj hb] at e;exact(x b u e).Lw (fun c v _ q=>k c v q) (fun c q=>by rw[aj (b7 q hn)];exact q) fun c xs q=>by rw[aj (b7 q hn)];exact q
end
def Rd (H:Hp) (a:Hj) (u:HO):Prop:=H a=some u\/∃o,H a=some (.frz o u)
theorem Rd.of {H:Hp} {a:Hj} {u:HO} (h:H a=some u):Rd H a u:= .inl h
theorem Rd.ok {P:Hy} {w:HU} {H:Hp} {h:Heap} {a:Hj} {u:HO} (r:Rd H a u) (x:LK P w H h):ObjOk P w H h a u:=by
 rcases r with r|⟨o,r⟩
 ·exact x a u r
 ·obtain⟨_,q⟩:=x a _ r;exact q
def Fi:Option HO->Prop
 |some (.lst _)=>True
 |some (.dK _)=>True
 |some (.dT _)=>True
 |some (.set _ _)=>True
 |some (.ins _ _ _)=>True
 |some (.ext _)=>True
 |_=>False
section
variable {P:Hy} {w:HU} {H:Hp} {h h':Heap} {x e:Hj} {o':HO}
theorem LK.write (ok:LK P w H h) (mu:Fi (H x)) (he:e=x\/H e=some (.own x)) (k:∀b u,b≠e->h.get? b=some u->h'.get? b=some u) (Tp:∃u,h'.get? e=some u)
  (new:ObjOk P w (aY H x o') h' x o'):LK P w (aY H x o') h':=fun b u q=>by
 have T5:∀c y,H c=some (.own y)->c≠x:=fun c y r z=>by subst z;rw[r] at mu;exact mu
 have Wq:∀c xs,H c=some (.tup xs)->c≠x:=fun c xs r z=>by subst z;rw[r] at mu;exact mu
 by_cases hb:b=x
 ·subst hb;rw[ar] at q;cases q;exact new
 ·rw[aj hb] at q
  by_cases Su:b=e
  ·have q':H b=some (.own x):=by
    rcases he with z|z
    ·exact absurd (Su.trans z) hb
    ·rw[Su];exact z
   rw[q] at q';cases q';obtain⟨v,hv⟩:=Tp;exact⟨v,by rw[Su];exact hv⟩
  ·refine(ok b u q).Lw (fun c v hc r=>k c v ?_ r) (fun c r=>by rw[aj (T5 c b r)];exact r) fun c xs r=>by rw[aj (Wq c xs r)];exact r
   rcases hc with rfl|hc
   ·exact Su
   ·rintro rfl
    rcases he with z|z
    ·exact T5 c b hc z
    ·rw[hc] at z;cases z;exact hb rfl
end
structure Un (fs ex:List Hj) (H H':Hp) (h h':Heap):Prop where
 keep:∀b o,h.get? b=some o->H b=none->b∉fs->b∉ex->h'.get? b=some o
 slot:∀b o,h.get? b=some o->H b=none->b∈fs->b∉ex->∃sl,h'.get? b=some {o with slots:=sl}
 free:∀b o,h.get? b=some o->H b=none->b∉ex->H' b=none
 there:∀b o,h.get? b=some o->b∉ex->∃o',h'.get? b=some o'
 MA:∀b xs,H b=some (.tup xs)->H' b=some (.tup xs)
 Ml:∀b o u,H b=some (.frz o u)->H' b=some (.frz o u)
 Mr:∀b ps,H b=some (.RM ps)->∃more,H' b=some (.RM (ps++more))
section
variable {fs S3 ex ex':List Hj} {H H1 H2:Hp} {h h1 h2 h':Heap} {a x e:Hj} {o:HO}
theorem Un.any (u:Un fs ex H H1 h h1) {b:Hj} {ob:Obj} (q:h.get? b=some ob) (n:H b=none) (hx:b∉ex):∃sl,h1.get? b=some {ob with slots:=sl}:=by
 by_cases hb:b∈fs
 ·exact u.slot b ob q n hb hx
 ·exact⟨ob.slots,u.keep b ob q n hb hx⟩
theorem Un.kept (k:∀b u,h.get? b=some u->h'.get? b=some u):Un fs ex H H h h':=
 ⟨fun b ob q _ _ _=>k b ob q,fun b ob q _ _ _=>⟨ob.slots,k b ob q⟩,fun _ _ _ n _=>n,fun b ob q _=>⟨ob,k b ob q⟩,fun _ _ q=>q,fun _ _ _ q=>q,fun _ ps q=>⟨#[],by rw[q];simp⟩⟩
theorem Un.refl:Un fs ex H H h h:=Un.kept fun _ _ q=>q
theorem Un.laid (k:∀b u,h.get? b=some u->h'.get? b=some u) (hp:h.objs.size<=a) (hn:H a=none):Un fs ex H (aY H a o) h h' where
 keep:=fun b u q _ _ _=>k b u q
 slot:=fun b u q _ _ _=>⟨u.slots,k b u q⟩
 free:=fun b u q n _=>by rw[aj (HK (Hx (Heap.lt_size q) hp))];exact n
 there:=fun b u q _=>⟨u,k b u q⟩
 MA:=fun b xs q=>by rw[aj (b7 q hn)];exact q
 Ml:=fun b u xs q=>by rw[aj (b7 q hn)];exact q
 Mr:=fun b ps q=>⟨#[],by rw[aj (b7 q hn),q];simp⟩
theorem Un.write (mu:Fi (H x)) (he:e=x\/H e=some (.own x)) (k:∀b u,b≠e->h.get? b=some u->h'.get? b=some u) (Tp:∃u,h'.get? e=some u):Un fs ex H (aY H x o) h h':=by
 have hx:∀b,H b=none->b≠x:=fun b n z=>by subst z;rw[n] at mu;exact mu
 have hb:∀b,H b=none->b≠e:=fun b n z=>by
  subst z;rcases he with r|r
  ·exact hx b n r
  ·rw[n] at r;cases r
 have hm:∀b u,H b=some u->¬Fi (some u)->b≠x:=fun b u q nm z=>by subst z;rw[q] at mu;exact nm mu
 refine⟨fun b u q n _ _=>k b u (hb b n) q,fun b u q n _ _=>⟨u.slots,k b u (hb b n) q⟩,fun b u q n _=>by rw[aj (hx b n)];exact n,fun b u q _=> ?_,
  fun b xs q=>by rw[aj (hm b _ q fun z=>z)];exact q,fun b u xs q=>by rw[aj (hm b _ q fun z=>z)];exact q,fun b ps q=>⟨#[],by rw[aj (hm b _ q fun z=>z),q];simp⟩⟩
 by_cases Su:b=e
 ·subst Su;exact Tp
 ·exact⟨u,k b u Su q⟩
end
noncomputable def F8 (h:Heap) (H:Hp):List Hj:=(HF h.objs.size).filter fun a=>(H a).isSome
noncomputable def oK (h:Heap) (H:Hp):Heap:=PySem.W.hideAll h (F8 h H)
theorem wu (h:Heap) (H:Hp):(oK h H).objs.size=h.objs.size:=PySem.W.hideAll_size _ _
theorem yl {h:Heap} {H:Hp} {b:Hj} {o:Obj} (e:h.get? b=some o) (n:H b=none):(oK h H).get? b=some o:=
 PySem.W.hideAll_get _ e fun hm=>by have q:(H b).isSome=true:=(Rc.mp hm).2;rw[n] at q;simp at q
theorem AF {h:Heap} {H:Hp} {b:Hj} {o:Obj} (e:(oK h H).get? b=some o):h.get? b=some o/\H b=none:=by
 have e':h.get? b=some o:=PySem.W.of_hideAll (F8 h H) e;refine⟨e',?_⟩;cases q:H b with
 |none=>rfl
 |some x=>have hm:b∈F8 h H:=Rc.mpr ⟨Jd.mpr (Heap.lt_size e'),by simp[q]⟩;have z:(oK h H).get? b=none:=PySem.W.hideAll_none (F8 h H) hm;rw[z] at e;cases e
structure Mod (K:Hf) (mg:Str->Option Hg) (base:Heap):Prop where
 Qv:K.In base
 glob:base.Ns Hw mg
 blt:∃mb,base.Ns builtinsNs mb/\∀x:Str,x≠ "__name__"->mb x=Iq x
 nolimit:base.NoLimit
structure Cx where
 prog:Hy
 w:HU
 K:Hf
 mg:Str->Option Hg
 base:Heap
 A:HM
 N:List Str
 s₀:Hi
 H₀:Hp
 env:Env
 outer:List Env
 stack:List Env
 ex:List Hj
 fn:Str->Bool
 calm:Bool
 pn:List (Hj×Obj)
 xe:Hg->Hi->Prop
noncomputable def pd (l:List Env):List Hj:=l.filterMap (·.frame)
noncomputable abbrev Cx.fs (X:Cx):List Hj:=pd X.outer
def F1 (sc:JP) (x:Str):Prop:=sc.names.lookup x=some .local\/sc.names.lookup x=some .cell\/sc.names.lookup x=some .free
def Fd (sc:JP) (x:Str):Prop:=sc.names.lookup x=some .local\/sc.names.lookup x=some .cell
def Gk (env:Env) (h:Heap) (m:Str->Option Hg) (x:Str) (u:Hg):Prop:=
 (env.kindOf x=some .local/\m x=some u)\/((env.kindOf x=some .cell\/env.kindOf x=some .free)/\∃c,env.cells.lookup x=some c/\h.IsCell c (some u))
structure Cx.Ok (X:Cx):Prop where
 mod:Mod X.K X.mg X.base
 kind:X.env.scope.kind= .function
 glob:X.env.globals=Hw
 blt:X.env.builtins=builtinsNs
 above:X.s₀.heap.objs.size<=X.env.locals
 inj:∀x y c,X.env.cells.lookup x=some c->X.env.cells.lookup y=some c->x=y
 has:∀x,(X.env.kindOf x=some .cell\/X.env.kindOf x=some .free)->∃c,X.env.cells.lookup x=some c
 RG:∀x c,X.fn x=true->X.env.cells.lookup x=some c->X.s₀.heap.objs.size<=c
 hd:X.calm=true->X.A.handled=none
 frames:X.A.frames=some X.stack
 SE:X.stack=X.outer\/(X.stack=X.env::X.outer/\X.env.frame=some X.env.locals)
 Sn:∀b∈X.ex,b≠X.env.locals/\∀x c,X.env.cells.lookup x=some c->c≠b
 bs:∀b o,X.base.get? b=some o->X.s₀.heap.get? b=some o/\X.H₀ b=none
 Qi:X.base.objs.size<=X.s₀.heap.objs.size
 Od:∀b o,X.base.get? b=some o->b∉X.ex
 Oi:∀b∈X.ex,b∉X.fs
 LZ:X.s₀.heap.FunFrames X.base X.outer
 Rb:∀b∈X.fs,X.H₀ b=none
structure Inv (X:Cx) (pins:List (Hj×Obj)) (σ:List (Option V)) (H:Hp) (s:Hi):Prop where
 ok:X.Ok
 os:s.os=X.s₀.os
 bare:AllBare s.gens
 base:Un X.fs X.ex X.H₀ H X.s₀.heap s.heap
 loc:∃m,s.heap.Ns X.env.locals m/\∀(i:Nat) (x:Str) (v:V),X.N[i]? =some x->σ[i]? =some (some v)->F1 X.env.scope x->∃u,RelV v u/\Gk X.env s.heap m x u
 cell:∀x c,X.env.cells.lookup x=some c->∃v,s.heap.IsCell c v
 free:H X.env.locals=none
 Kl:∀x c,X.env.cells.lookup x=some c->H c=none
 pin:∀p∈X.pn++pins,s.heap.get? p.1=some p.2/\H p.1=none/\p.1≠X.env.locals/\p.1∉X.fs/\∀v,p.2.data≠ .cell v
 IW:LK X.prog X.w H s.heap
 len:σ.length=X.N.length
section
variable {X:Cx} {pins:List (Hj×Obj)} {σ:List (Option V)} {H H':Hp} {s:Hi} {h':Heap}
theorem Cx.Ok.Wm (ok:X.Ok) {b:Hj} {o:Obj} (e:X.base.get? b=some o):b∉X.fs:=fun hb=>by have:=(ok.LZ.mem hb).1;rw[e] at this;cases this
theorem Inv.bs (I:Inv X pins σ H s):∀b o,X.base.get? b=some o->s.heap.get? b=some o/\H b=none:=fun b o e=>
 ⟨I.base.keep b o (I.ok.bs b o e).1 (I.ok.bs b o e).2 (I.ok.Wm e) (I.ok.Od b o e),I.base.free b o (I.ok.bs b o e).1 (I.ok.bs b o e).2 (I.ok.Od b o e)⟩
theorem Inv.bk (I:Inv X pins σ H s):∀b o,X.base.get? b=some o->s.heap.get? b=some o:=fun b o e=>(I.bs b o e).1
theorem Inv.mod (I:Inv X pins σ H s):Mod X.K X.mg X.base:=I.ok.mod
theorem Inv.Mj (I:Inv X pins σ H s):X.K.In s.heap:=I.ok.mod.Qv.keeps I.bk
theorem Inv.lt (I:Inv X pins σ H s):X.env.locals<s.heap.objs.size:=let⟨_,hn,_⟩:=I.loc;hn.lt
theorem Inv.sz (I:Inv X pins σ H s):X.s₀.heap.objs.size<=s.heap.objs.size:=Il I.ok.above (JV I.lt)
theorem Inv.XO (I:Inv X pins σ H s) {a:Hj} (h:s.heap.objs.size<=a):a∉X.fs:=fun hb=>by obtain⟨_,o,ho,_⟩:=I.ok.LZ.mem hb;exact absurd (Hx (Heap.lt_size ho) (Il I.sz h)) (IT _)
theorem Inv.Qw (I:Inv X pins σ H s):∀x c,X.env.cells.lookup x=some c->c≠X.env.locals:=fun x c e z=>by obtain⟨v,o,ho,hd⟩:=I.cell x c e;obtain⟨m,⟨o',es,ep,Rk,SQ,_⟩,_⟩:=I.loc;rw[z,Rk] at ho;cases ho;rw[SQ] at hd;cases hd
theorem Inv.LZ (I:Inv X pins σ H s):s.heap.FunFrames X.base X.outer:=by
 have all:∀(l:List Env),(∀b∈pd l,b∈X.fs)->X.s₀.heap.FunFrames X.base l->s.heap.FunFrames X.base l:=by
  intro l
  induction l with
  |nil=>intro _ _;trivial
  |cons env r ih=>intro hs hl;obtain⟨hk,⟨L,o,hf,hn,ho,hd⟩,hr⟩:=hl;have hL:L∈X.fs:=hs L (by unfold pd;rw[JX,hf];exact Ik);obtain⟨sl,e⟩:=I.base.slot L o ho (I.ok.Rb L hL) hL fun z=>I.ok.Oi L z hL;exact⟨hk,⟨L,_,hf,hn,e,hd⟩,ih (fun b hb=>hs b (by unfold pd;rw[JX,hf];exact Ic _ hb)) hr⟩
 exact all X.outer (fun _ hb=>hb) I.ok.LZ
theorem Inv.stack (I:Inv X pins σ H s):s.heap.FunFrames X.base X.stack:=by
 rcases I.ok.SE with e|⟨e,hf⟩
 ·rw[e];exact I.LZ
 ·rw[e];obtain⟨m,hn,_⟩:=I.loc;refine .cons (by rw[I.ok.kind];decide) hf hn ?_ I.LZ;exact Heap.get?_none_of_le (Il I.ok.Qi I.ok.above)
theorem Inv.Mz (I:Inv X pins σ H s):∀b∈pd X.stack,b∈X.env.locals::X.fs:=fun b hb=>by
 rcases I.ok.SE with e|⟨e,hf⟩
 ·rw[e] at hb;exact Ic _ hb
 ·rw[e] at hb;unfold pd at hb;rw[JX,hf] at hb;exact hb
theorem Inv.MR (I:Inv X pins σ H s):∀b∈pd X.stack,H b=none:=fun b hb=>by
 rcases Ie.mp (I.Mz b hb) with e|hb
 ·rw[e];exact I.free
 ·obtain⟨_,o,ho,_⟩:=I.ok.LZ.mem hb;exact I.base.free b o ho (I.ok.Rb b hb) fun z=>I.ok.Oi b z hb
theorem Inv.step {g':Array LI} {t':Nat} {d':P7} {ch:List Hj} (I:Inv X pins σ H s)
  (Q8:∀b∈ch,(b∈X.ex\/X.s₀.heap.objs.size<=b)/\b≠X.env.locals/\(∀x c,X.env.cells.lookup x=some c->c≠b)/\∀p∈X.pn++pins,p.1≠b)
  (keep:∀b o,b≠X.env.locals->b∉X.fs->b∉ch->s.heap.get? b=some o->H b=none->h'.get? b=some o)
  (slot:∀b o,b≠X.env.locals->b∈X.fs->b∉ch->s.heap.get? b=some o->H b=none->∃sl,h'.get? b=some {o with slots:=sl}) (free:∀b o,b∉ch->s.heap.get? b=some o->H b=none->H' b=none)
  (there:∀b o,b∉ch->s.heap.get? b=some o->∃o',h'.get? b=some o')
  (MA:∀b xs,H b=some (.tup xs)->H' b=some (.tup xs)) (Ml:∀b o u,H b=some (.frz o u)->H' b=some (.frz o u)) (Mr:∀b ps,H b=some (.RM ps)->∃more,H' b=some (.RM (ps++more)))
  (ns:∀m,s.heap.Ns X.env.locals m->h'.Ns X.env.locals m) (IW:LK X.prog X.w H' h') (hg:AllBare g'):
  Inv X pins σ H' {s with heap:=h',gens:=g',drawn:=d',toks:=t'}:=by
 have YA:∀b o,X.s₀.heap.get? b=some o->b≠X.env.locals:=fun b o e=>HK (Hx (Heap.lt_size e) I.ok.above);have Vm:∀b o,X.s₀.heap.get? b=some o->b∉X.ex->b∉ch:=fun b o e hx hb=>by
  rcases(Q8 b hb).1 with z|z
  ·exact hx z
  ·exact absurd (Hx (Heap.lt_size e) z) (IT _)
 have cellK:∀x c,X.env.cells.lookup x=some c->∀v,s.heap.IsCell c v->h'.IsCell c v:=fun x c e v ⟨o,ho,hd⟩=>by
  have UJ:c∉ch:=fun z=>(Q8 c z).2.2.1 x c e rfl;by_cases hc:c∈X.fs
  ·obtain⟨sl,q⟩:=slot c o (I.Qw x c e) hc UJ ho (I.Kl x c e);exact⟨_,q,hd⟩
  ·exact⟨o,keep c o (I.Qw x c e) hc UJ ho (I.Kl x c e),hd⟩
 refine⟨I.ok,I.os,hg,⟨fun b o e n hb hx=> ?_,fun b o e n hb hx=> ?_,fun b o e n hx=> ?_,fun b o e hx=> ?_,fun b xs e=>MA b xs (I.base.MA b xs e),fun b o xs e=>Ml b o xs (I.base.Ml b o xs e),fun b ps e=> ?_⟩,?_,fun x c e=> ?_,?_,fun x c e=> ?_,fun p hp=> ?_,IW,I.len⟩
 ·exact keep b o (YA b o e) hb (Vm b o e hx) (I.base.keep b o e n hb hx) (I.base.free b o e n hx)
 ·obtain⟨sl,e1⟩:=I.base.slot b o e n hb hx;obtain⟨S5,e2⟩:=slot b _ (YA b o e) hb (Vm b o e hx) e1 (I.base.free b o e n hx);exact⟨S5,e2⟩
 ·obtain⟨o',e1⟩:=I.base.there b o e hx;exact free b o' (Vm b o e hx) e1 (I.base.free b o e n hx)
 ·obtain⟨o',e1⟩:=I.base.there b o e hx;exact there b o' (Vm b o e hx) e1
 ·obtain⟨m1,e1⟩:=I.base.Mr b ps e;obtain⟨m2,e2⟩:=Mr b _ e1;exact⟨m1++m2,by rw[e2,Array.append_assoc]⟩
 ·obtain⟨m,hn,hl⟩:=I.loc
  refine⟨m,ns m hn,fun i x v e1 e2 e3=> ?_⟩;obtain⟨u,r,l⟩:=hl i x v e1 e2 e3;refine⟨u,r,?_⟩;rcases l with l|⟨k,c,e,z⟩
  ·exact .inl l
  ·exact .inr ⟨k,c,e,cellK x c e _ z⟩
 ·obtain⟨v,z⟩:=I.cell x c e;exact⟨v,cellK x c e v z⟩
 ·obtain⟨m,⟨o,_,_,ho,_⟩,_⟩:=I.loc;exact free _ o (fun z=>(Q8 _ z).2.1 rfl) ho I.free
 ·obtain⟨v,o,ho,hd⟩:=I.cell x c e;exact free c o (fun z=>(Q8 c z).2.2.1 x c e rfl) ho (I.Kl x c e)
 ·obtain⟨e,n,ne,nf,d⟩:=I.pin p hp;have UJ:p.1∉ch:=fun z=>(Q8 p.1 z).2.2.2 p hp rfl;exact⟨keep p.1 p.2 ne nf UJ e n,free p.1 p.2 UJ e n,ne,nf,d⟩
theorem Inv.un {t':Nat} (I:Inv X pins σ H s) (u:Un X.fs [] H H' s.heap h') (IW:LK X.prog X.w H' h'):Inv X pins σ H' {s with heap:=h',toks:=t'}:=by obtain⟨m,⟨o,es,ep,ho,r⟩,_⟩:=id I.loc;obtain⟨sl,hL⟩:=u.any ho I.free (by simp);exact I.step (g':=s.gens) (d':=s.drawn) (ch:=[]) (fun _ z=>nomatch z) (fun b o _ hb _ e n=>u.keep b o e n hb (by simp)) (fun b o _ hb _ e n=>u.slot b o e n hb (by simp)) (fun b o _ e n=>u.free b o e n (by simp)) (fun b o _ e=>u.there b o e (by simp)) u.MA u.Ml u.Mr (fun m' hm=>by obtain⟨o',Vh,VN,Rk,r'⟩:=hm;rw[ho] at Rk;cases Rk;exact⟨_,Vh,VN,hL,r'⟩) IW I.bare
theorem Inv.call {g':Array LI} {t':Nat} {d':P7} {ch:List Hj} (I:Inv X pins σ H s) (u:Un (pd X.stack) ch H H' s.heap h') (IW:LK X.prog X.w H' h') (hg:AllBare g')
  (Q8:∀b∈ch,(b∈X.ex\/X.s₀.heap.objs.size<=b)/\b≠X.env.locals/\(∀x c,X.env.cells.lookup x=some c->c≠b)/\∀p∈X.pn++pins,p.1≠b):
  Inv X pins σ H' {s with heap:=h',gens:=g',drawn:=d',toks:=t'}:=by
 obtain⟨m,⟨o,es,ep,ho,r⟩,_⟩:=id I.loc;obtain⟨sl,hL⟩:=u.any ho I.free fun z=>(Q8 _ z).2.1 rfl;exact I.step (ch:=ch) Q8 (fun b o hL hb hc e n=>u.keep b o e n (fun z=>(Ie.mp (I.Mz b z)).elim hL hb) hc) (fun b o _ _ hc e n=>u.any e n hc) (fun b o hc e n=>u.free b o e n hc) (fun b o hc e=>u.there b o e hc) u.MA u.Ml u.Mr (fun m' hm=>by obtain⟨o',Vh,VN,Rk,r'⟩:=hm;rw[ho] at Rk;cases Rk;exact⟨_,Vh,VN,hL,r'⟩) IW hg
theorem Inv.turned {t':Nat} {it:Hj} (I:Inv X pins σ H s) (k:∀b o,b≠it->s.heap.get? b=some o->h'.get? b=some o) (hn:H it=none) (hL:it≠X.env.locals)
  (h1:it∈X.ex\/X.s₀.heap.objs.size<=it) (h2:∀x c,X.env.cells.lookup x=some c->c≠it) (h3:∀p∈X.pn++pins,p.1≠it):Inv X pins σ H {s with heap:=h',toks:=t'}:=by
 have Yx:∀b u,H b=some u->b≠it:=fun b u e z=>by rw[z,hn] at e;cases e
 refine I.step (g':=s.gens) (d':=s.drawn) (ch:=[it]) (fun b hb=> ?_) (fun b o _ _ hc e _=>k b o (fun z=>hc (by simp[z])) e) (fun b o _ _ hc e _=>⟨o.slots,k b o (fun z=>hc (by simp[z])) e⟩) (fun _ _ _ _ n=>n)
  (fun b o hc e=>⟨o,k b o (fun z=>hc (by simp[z])) e⟩) (fun _ _ e=>e) (fun _ _ _ e=>e) (fun b ps e=>⟨#[],by rw[e];simp⟩) (fun m hm=> ?_) (fun b u e=> ?_) I.bare
 ·have e:b=it:=by simpa using hb
  subst e;exact⟨h1,hL,h2,h3⟩
 ·obtain⟨o,es,ep,ho,r⟩:=hm;exact⟨o,es,ep,k _ o (Ne.symm hL) ho,r⟩
 ·refine(I.IW b u e).Lw (fun c v hc q=>k c v ?_ q) (fun _ q=>q) fun _ _ q=>q
  rcases hc with z|z
  ·rw[z];exact Yx b u e
  ·exact Yx c _ z
theorem Inv.tok (I:Inv X pins σ H s) (t:Nat):Inv X pins σ H {s with toks:=t}:=I.un (h':=s.heap) (t':=t) Un.refl I.IW
theorem Inv.kept {t':Nat} (I:Inv X pins σ H s) (k:∀b u,s.heap.get? b=some u->h'.get? b=some u):Inv X pins σ H {s with heap:=h',toks:=t'}:=I.un (Un.kept k) (I.IW.kept k)
theorem Inv.laid {a:Hj} {o:HO} {t':Nat} (I:Inv X pins σ H s) (k:∀b u,s.heap.get? b=some u->h'.get? b=some u) (hp:s.heap.objs.size<=a) (new:ObjOk X.prog X.w (aY H a o) h' a o):
  Inv X pins σ (aY H a o) {s with heap:=h',toks:=t'}:=I.un (Un.laid k hp (I.IW.fresh hp)) (I.IW.laid k hp new)
theorem Inv.write {x e:Hj} {o:HO} {t':Nat} (I:Inv X pins σ H s) (mu:Fi (H x)) (he:e=x\/H e=some (.own x)) (k:∀b u,b≠e->s.heap.get? b=some u->h'.get? b=some u) (Tp:∃u,h'.get? e=some u)
  (new:ObjOk X.prog X.w (aY H x o) h' x o):Inv X pins σ (aY H x o) {s with heap:=h',toks:=t'}:=I.un (Un.write mu he k Tp) (I.IW.write mu he k Tp new)
theorem Inv.NZ {RU:List (Hj×Obj)} (I:Inv X pins σ H s) (h:∀p∈RU,s.heap.get? p.1=some p.2/\H p.1=none/\p.1≠X.env.locals/\p.1∉X.fs/\∀v,p.2.data≠ .cell v):Inv X RU σ H s:=
 ⟨I.ok,I.os,I.bare,I.base,I.loc,I.cell,I.free,I.Kl,fun p hp=>(Ih.mp hp).elim (fun z=>I.pin p (LL _ z)) (h p),I.IW,I.len⟩
theorem lS {N:List Str} (hN:N.Nodup) {i j:Nat} {x:Str} (a:N[i]? =some x) (b:N[j]? =some x):i=j:=by obtain⟨h1,e1⟩:=Hm.mp a;obtain⟨h2,e2⟩:=Hm.mp b;exact(List.getElem_inj hN).mp (e1.trans e2.symm)
theorem mF {M:Np} {A:HM} {E:Hg->Hi->Prop} {i:Nat} {x:Str} {v:V} {u:Hg} {Q:Unit->Hi->Prop} (I:Inv X pins σ H s) (hN:X.N.Nodup) (hi:X.N[i]? =some x) (hx:Fd X.env.scope x) (r:RelV v u)
  (h:∀s',Inv X pins (σ.set i (some v)) H s'->(∃a,Heap.SameBut a s.heap s'.heap/\(a=X.env.locals\/X.env.cells.lookup x=some a))->Q () s') (hf:X.fn x=true\/X.env.scope.names.lookup x=some .local:=by first|exact .inl rfl|exact .inr rfl|assumption):wpAny M A (storeName X.env x u) Q E s:=by
 obtain⟨m,hn,hl⟩:=id I.loc;have SH:(X.env.scope.kind== .class||(X.env.scope.kind== .module&&X.env.locals !=X.env.globals))=false:=by rw[I.ok.kind];rfl
 have YF:i<σ.length:=by rw[I.len];exact(Hm.mp hi).1
 have Qw:=I.Qw;have tracked:∀{a:Hj} {h':Heap},(∃o,s.heap.get? a=some o/\H a=none)->Heap.SameBut a s.heap h'->LK X.prog X.w H h':=fun{a h'} ha hs b ob e=>by
  obtain⟨_,_,RX⟩:=ha;refine(I.IW b ob e).Lw (fun c w' hc q=>(hs.2 c ?_).trans q) (fun _ q=>q) fun _ _ q=>q;rintro rfl;rcases hc with rfl|hc
  ·rw[RX] at e;cases e
  ·rw[RX] at hc;cases hc
 rcases hx with hk|hk
 ·refine wpAny_storeName_local hk hn (fun h' Tg hs=> ?_) SH
  obtain⟨oL,_,_,hoL,_⟩:=id hn;refine h _ ⟨I.ok,I.os,I.bare,⟨fun b o e n hb hx=> ?_,fun b o e n hb hx=> ?_,I.base.free,fun b o e hx=> ?_,I.base.MA,I.base.Ml,I.base.Mr⟩,⟨_,Tg,fun j y v' e1 e2 e3=> ?_⟩,fun y c e=> ?_,I.free,I.Kl,fun p hp=> ?_,tracked ⟨oL,hoL,I.free⟩ hs,by simpa using I.len⟩ ⟨_,hs,.inl rfl⟩
  ·exact(hs.2 b (HK (Hx (Heap.lt_size e) I.ok.above))).trans (I.base.keep b o e n hb hx)
  ·obtain⟨sl,e1⟩:=I.base.slot b o e n hb hx;exact⟨sl,(hs.2 b (HK (Hx (Heap.lt_size e) I.ok.above))).trans e1⟩
  ·obtain⟨o',e1⟩:=I.base.there b o e hx;exact⟨o',(hs.2 b (HK (Hx (Heap.lt_size e) I.ok.above))).trans e1⟩
  ·by_cases hj:j=i
   ·subst hj;rw[hi] at e1;cases e1;rw[JE YF] at e2;cases e2;exact⟨u,r,.inl ⟨hk,by simp⟩⟩
   ·rw[JR (Ne.symm hj)] at e2
    obtain⟨u',r',q⟩:=hl j y v' e1 e2 e3;refine⟨u',r',?_⟩;rcases q with⟨k,e⟩|⟨k,c,e,z⟩
    ·refine .inl ⟨k,?_⟩;have:y≠x:=fun e=>hj (lS hN e1 (e▸hi));simp[this,e]
    ·exact .inr ⟨k,c,e,z.sameBut hs (Qw y c e)⟩
  ·obtain⟨w',z⟩:=I.cell y c e;exact⟨w',z.sameBut hs (Qw y c e)⟩
  ·obtain⟨e,n,ne,nf,d⟩:=I.pin p hp;exact⟨(hs.2 p.1 ne).trans e,n,ne,nf,d⟩
 ·have Xj:X.fn x=true:=by
   rcases hf with z|z
   ·exact z
   ·rw[z] at hk;cases hk
  obtain⟨c,hc⟩:=I.ok.has x (.inl hk);obtain⟨w',z⟩:=I.cell x c hc;refine wpAny_storeName_cell I.ok.kind hk hc z (fun h' Oy hs=> ?_);obtain⟨oc,Th,WH⟩:=id z;refine h {s with heap:=h'} ⟨I.ok,I.os,I.bare,⟨fun b o e n hb hx=> ?_,fun b o e n hb hx=> ?_,I.base.free,fun b o e hx=> ?_,I.base.MA,I.base.Ml,I.base.Mr⟩,⟨m,hn.sameBut hs (Ne.symm (Qw x c hc)),fun j y v' e1 e2 e3=> ?_⟩,fun y c' e=> ?_,I.free,I.Kl,fun p hp=> ?_,tracked ⟨oc,Th,I.Kl x c hc⟩ hs,by simpa using I.len⟩ ⟨c,hs,.inr hc⟩
  ·exact(hs.2 b (HK (Hx (Heap.lt_size e) (I.ok.RG x c Xj hc)))).trans (I.base.keep b o e n hb hx)
  ·obtain⟨sl,e1⟩:=I.base.slot b o e n hb hx;exact⟨sl,(hs.2 b (HK (Hx (Heap.lt_size e) (I.ok.RG x c Xj hc)))).trans e1⟩
  ·obtain⟨o',e1⟩:=I.base.there b o e hx;exact⟨o',(hs.2 b (HK (Hx (Heap.lt_size e) (I.ok.RG x c Xj hc)))).trans e1⟩
  ·by_cases hj:j=i
   ·subst hj;rw[hi] at e1;cases e1;rw[JE YF] at e2;cases e2;exact⟨u,r,.inr ⟨.inl hk,c,hc,Oy⟩⟩
   ·rw[JR (Ne.symm hj)] at e2
    obtain⟨u',r',q⟩:=hl j y v' e1 e2 e3;refine⟨u',r',?_⟩;rcases q with q|⟨k,c',e,z'⟩
    ·exact .inl q
    ·refine .inr ⟨k,c',e,z'.sameBut hs ?_⟩;rintro rfl;exact hj (lS hN e1 (I.ok.inj _ _ _ e hc▸hi))
  ·by_cases X9:c'=c
   ·subst X9;exact⟨_,Oy⟩
   ·obtain⟨w2,z2⟩:=I.cell y c' e;exact⟨w2,z2.sameBut hs X9⟩
  ·obtain⟨e,n,ne,nf,d⟩:=I.pin p hp;refine⟨(hs.2 p.1 ?_).trans e,n,ne,nf,d⟩;intro q;rw[q,Th] at e;have q':oc=p.2:=HJ e;exact d w' (by rw[<-q'];exact WH)
theorem jc {M:Np} {A:HM} {E:Hg->Hi->Prop} {i:Nat} {x:Str} {v:V} {u:Hg} {Q:Unit->Hi->Prop} (I:Inv X pins σ H s) (hN:X.N.Nodup) (hi:X.N[i]? =some x) (hx:Fd X.env.scope x) (r:RelV v u)
  (h:∀s',Inv X pins (σ.set i (some v)) H s'->Q () s') (hf:X.fn x=true\/X.env.scope.names.lookup x=some .local:=by first|exact .inl rfl|exact .inr rfl|assumption):wpAny M A (storeName X.env x u) Q E s:=
 mF I hN hi hx r (fun s' I' _=>h s' I') hf
theorem Inv.RO {s':Hi} {ch:List Hj} (I:Inv X pins σ H s) (ho:s'.os=s.os) (u:Un (pd X.stack) ch H H' s.heap s'.heap) (IW:LK X.prog X.w H' s'.heap) (hg:AllBare s'.gens)
  (Q8:∀b∈ch,(b∈X.ex\/X.s₀.heap.objs.size<=b)/\b≠X.env.locals/\(∀x c,X.env.cells.lookup x=some c->c≠b)/\∀p∈X.pn++pins,p.1≠b):Inv X pins σ H' s':=by
 obtain⟨h',g',d',t',o'⟩:=s';have e:o'=s.os:=ho;subst e;exact I.call (g':=g') (t':=t') (d':=d') u IW hg Q8
end
abbrev XK:=Hg->Option Hj->Hp->Prop
abbrev St:=List (Option V)
abbrev VK:=V->Hp->Prop
abbrev TE:=St->Hp->VK->Prop
abbrev TT:=St->Hp->(Bool->Hp->Prop)->Prop
abbrev TA:=St->Hp->(List V->Hp->Prop)->Prop
structure Ends where
 nx:St->Hp->Prop
 rt:VK
 bk:St->Hp->Prop:=fun _ _=>False
 ct:St->Hp->Prop:=fun _ _=>False
abbrev TS:=Ends->St->Hp->Prop
def EP (X:Cx) (pins:List (Hj×Obj)) (σ:St) (Q:VK) (u:Hg) (s':Hi):Prop:=∃v H',Inv X pins σ H' s'/\RelV v u/\Q v H'
def TP (X:Cx) (pins:List (Hj×Obj)) (σ:St) (Q:Bool->Hp->Prop) (b:Bool) (s':Hi):Prop:=∃H',Inv X pins σ H' s'/\Q b H'
def AP (X:Cx) (pins:List (Hj×Obj)) (σ:St) (Q:List V->Hp->Prop) (us:List Hg) (s':Hi):Prop:=∃vs H',Inv X pins σ H' s'/\Vals vs us/\Q vs H'
def SP (X:Cx) (pins:List (Hj×Obj)) (D:Ends) (f:Flow) (s':Hi):Prop:=
 match f with
 | .next=>∃σ' H',Inv X pins σ' H' s'/\D.nx σ' H'
 | .brk=>∃σ' H',Inv X pins σ' H' s'/\D.bk σ' H'
 | .cont=>∃σ' H',Inv X pins σ' H' s'/\D.ct σ' H'
 | .ret u=>∃v σ' H',Inv X pins σ' H' s'/\RelV v u/\D.rt v H'
def PE (X:Cx) (e:HI) (t:TE):Prop:=
 ∀(pins:List (Hj×Obj)) (s:Hi) (σ:St) (H:Hp) (Q:VK),Inv X pins σ H s->t σ H Q->wpAny (model X.prog X.w) X.A (eval e X.env) (EP X pins σ Q) X.xe s
def PT (X:Cx) (e:HI) (t:TT):Prop:=
 ∀(pins:List (Hj×Obj)) (s:Hi) (σ:St) (H:Hp) (Q:Bool->Hp->Prop),Inv X pins σ H s->t σ H Q->wpAny (model X.prog X.w) X.A (isTrue e X.env (eval e X.env)) (TP X pins σ Q) X.xe s
def PW (X:Cx) (e:HI) (t:TT):Prop:=
 ∀(whole:Sem Hg) (pins:List (Hj×Obj)) (s:Hi) (σ:St) (H:Hp) (Q:Bool->Hp->Prop),Inv X pins σ H s->t σ H Q->wpAny (model X.prog X.w) X.A (isTrue e X.env whole) (TP X pins σ Q) X.xe s
theorem PW.pt {X:Cx} {e:HI} {t:TT} (h:PW X e t):PT X e t:=h _
def PA (X:Cx) (es:List HI) (t:TA):Prop:=
 ∀(pos:Pos) (pins:List (Hj×Obj)) (s:Hi) (σ:St) (H:Hp) (Q:List V->Hp->Prop),Inv X pins σ H s->t σ H Q->wpAny (model X.prog X.w) X.A (spliced (backTo pos (HL es X.env))) (AP X pins σ Q) X.xe s
def PS (X:Cx) (st:Js) (t:TS):Prop:=
 ∀(pins:List (Hj×Obj)) (s:Hi) (σ:St) (H:Hp) (D:Ends),Inv X pins σ H s->t D σ H->wpAny (model X.prog X.w) X.A (exec st X.env) (SP X pins D) X.xe s
def MS (X:Cx) (st:List Js) (t:TS):Prop:=
 ∀(pins:List (Hj×Obj)) (s:Hi) (σ:St) (H:Hp) (D:Ends),Inv X pins σ H s->t D σ H->wpAny (model X.prog X.w) X.A (execs st X.env) (SP X pins D) X.xe s
theorem bF {α:Type} {t:Sem α} {Q Q':α->Hi->Prop} {M:Np} {A:HM} {E:Hg->Hi->Prop} {s:Hi} (h:wpAny M A t Q E s) (hQ:∀a s,Q a s->Q' a s):wpAny M A t Q' E s:=wpAny_mono h hQ fun _ _ x=>x
section
variable {X:Cx}
def mY (i:Nat):TE:=fun σ H Q=>∃v,σ[i]? =some (some v)/\Q v H
def tC (v:V):TE:=fun _ H Q=>Q v H
theorem Dz {i:Nat} {x:Str} {pos:Pos} (hN:X.N[i]? =some x) (hv:F1 X.env.scope x) (hd:(x==("__debug__":Str))=false:=by decide) (Pm:(x==("__classdict__":Str))=false:=by decide):PE X (.Name x pos) (mY i):=by
 intro pins s σ H Q I h;obtain⟨v,e,h⟩:=h;obtain⟨m,hn,hl⟩:=I.loc;obtain⟨u,r,l⟩:=hl i x v hN e hv;have fin:EP X pins σ Q u s:=⟨v,H,I,r,h⟩;rcases l with⟨hk,hm⟩|⟨hk,c,hc,Me⟩
 ·exact RY (Rf I.ok.kind hk hn hm fin) hd
 ·rcases hk with hk|hk
  ·exact RY (Rt I.ok.kind hk hc Me fin) hd
  ·exact RY (wpAny_loadName_free I.ok.kind hk hc Me fin Pm) hd
theorem aL {i j pos}:PE X (.Constant (.int i) j pos) (tC (.int i)):=fun _ _ _ H _ I h=>wpAny_Constant_int ⟨.int i,H,I.tok _,⟨_,rfl⟩,h⟩
theorem lR {b j pos}:PE X (.Constant (.bool b) j pos) (tC (.bl b)):=fun _ _ _ H _ I h=>Constant_bool ⟨.bl b,H,I,rfl,h⟩
theorem oS {j pos}:PE X (.Constant .none j pos) (tC .JD):=fun _ _ _ H _ I h=>Constant_none ⟨.JD,H,I,rfl,h⟩
theorem rq {x j pos}:PE X (.Constant (.str x) j pos) (tC (.str x)):=fun _ _ _ H _ I h=>Calls.Constant_str ⟨.str x,H,I.tok _,⟨_,rfl⟩,h⟩
def Gl (X:Cx) (x:Str):Prop:=X.env.kindOf x=some .globalImplicit
theorem gM {E:Hg->Hi->Prop} {pins:List (Hj×Obj)} {s:Hi} {σ:St} {H:Hp} {x:Str} {u:Hg} {pos:Pos} {Q:Hg->Hi->Prop} (I:Inv X pins σ H s) (hg:Gl X x) (hm:X.mg x=some u) (h:Q u s)
  (hd:(x==("__debug__":Str))=false:=by decide):wpAny (model X.prog X.w) X.A (eval (.Name x pos) X.env) Q E s:=
 Calls.Name_function_global I.ok.kind hg (Calls.loadGlobal_global (by rw[I.ok.glob];exact I.mod.glob.keeps I.bk) hm h) hd
theorem io {E:Hg->Hi->Prop} {pins:List (Hj×Obj)} {s:Hi} {σ:St} {H:Hp} {x:Str} {u:Hg} {pos:Pos} {Q:Hg->Hi->Prop} (I:Inv X pins σ H s) (hg:Gl X x) (hm:X.mg x=none) (hv:Iq x=some u) (h:Q u s)
  (hn:x≠ "__name__":=by decide) (hd:(x==("__debug__":Str))=false:=by decide):wpAny (model X.prog X.w) X.A (eval (.Name x pos) X.env) Q E s:=by
 obtain⟨mb,h1,h2⟩:=I.mod.blt;exact Calls.Name_function_global I.ok.kind hg (Calls.loadGlobal_builtin (by rw[I.ok.glob];exact I.mod.glob.keeps I.bk) hm (by rw[I.ok.blt];exact h1.keeps I.bk) ((h2 x hn).trans hv) h) hd
theorem cW {x:Str} {v:V} {u:Hg} {pos:Pos} (hg:Gl X x) (hm:X.mg x=some u) (r:RelV v u) (hd:(x==("__debug__":Str))=false:=by decide):PE X (.Name x pos) (tC v):=
 fun _ _ _ H _ I h=>gM I hg hm ⟨v,H,I,r,h⟩ hd
theorem gZ {x:Str} {v:V} {u:Hg} {pos:Pos} (hg:Gl X x) (hm:X.mg x=none) (hv:Iq x=some u) (r:RelV v u) (hn:x≠ "__name__":=by decide) (hd:(x==("__debug__":Str))=false:=by decide):PE X (.Name x pos) (tC v):=
 fun _ _ _ H _ I h=>io I hg hm hv ⟨v,H,I,r,h⟩ hn hd
variable {a b:HI} {ta tb:TE} {pos:Pos}
def PC (X:Cx) (op:P8) (a b:HI) (t:TE):Prop:=
 ∀(pins:List (Hj×Obj)) (s:Hi) (σ:St) (H:Hp) (Q:VK),Inv X pins σ H s->t σ H Q->
  wpAny (model X.prog X.w) X.A (eval a X.env) (fun v s₁=>wpAny (model X.prog X.w) X.A (eval b X.env) (fun u s₂=>wpAny (model X.prog X.w) X.A (Jn op v u) (EP X pins σ Q) X.xe s₂) X.xe s₁) X.xe s
def tB (t:TE):TT:=fun σ H Q=>t σ H fun x H1=>∃c,x= .bl c/\Q c H1
theorem Ch {op:P8} {t:TE} (h:PC X op a b t) (h1:behindInMarks op b=false:=by first|exact QD _ (by decide) (by decide)|rfl):PE X (.Compare a [op] [b] pos) t:=fun pins s σ H Q I hw=>VZ (h pins s σ H Q I hw) h1
theorem sd {op:P8} {t:TE} (h:PC X op a b t) (h1:behindInMarks op b=false:=by first|exact QD _ (by decide) (by decide)|rfl):PT X (.Compare a [op] [b] pos) (tB t):=by intro pins s σ H Q I hw;refine QZ (bF (h pins s σ H _ I hw) fun v s1 h1=>bF h1 fun u s2 h2=>bF h2 fun c s3 ⟨x,H1,I1,r1,q1⟩=> ?_) h1;obtain⟨d,rfl,q⟩:=q1;cases r1;exact JT ⟨H1,I1,q⟩
theorem lu {e:HI} {t:TE} (h:PE X e t) (he:∀whole,isTrue e X.env whole=(do let v<-whole;standAt e.pos;holding [v] (truthy v)):=by intro _;rfl):PT X e (tB t):=by intro pins s σ H Q I hw;refine isTrue_plain (bF (h pins s σ H _ I hw) fun v s1 ⟨x,H1,I1,r1,q1⟩=> ?_) (he _);obtain⟨d,rfl,q⟩:=q1;cases r1;exact JT ⟨H1,I1,q⟩
variable {tA VS:TT} {rest:List HI}
def Ea (t u:TT):TT:=fun σ H Q=>t σ H fun c H1=>if c=true then u σ H1 Q else Q false H1
def GI (t u:TT):TT:=fun σ H Q=>t σ H fun c H1=>if c=true then Q true H1 else u σ H1 Q
def D0 (t:TT):TT:=fun σ H Q=>t σ H fun c H1=>Q (!c) H1
theorem uD (ha:PT X a tA):PW X (.BoolOp .And [a] pos) tA:=by
 intro wh pins s σ H Q I h;refine isTrue_and (bF (ha pins s σ H Q I h) fun c s1 e=> ?_);cases c with
 |true=>exact isTrue_and_nil e
 |false=>exact e
theorem r8 (ha:PT X a tA):PW X (.BoolOp .Or [a] pos) tA:=by
 intro wh pins s σ H Q I h;refine isTrue_or (bF (ha pins s σ H Q I h) fun c s1 e=> ?_);cases c with
 |false=>exact isTrue_or_nil e
 |true=>exact e
theorem xS (ha:PT X a tA) (hb:PW X (.BoolOp .And (b::rest) pos) VS):PW X (.BoolOp .And (a::b::rest) pos) (Ea tA VS):=by
 intro wh pins s σ H Q I h;refine isTrue_and (bF (ha pins s σ H _ I h) fun c s1 ⟨H1,I1,q1⟩=> ?_);cases c with
 |true=>exact hb wh pins s1 σ H1 Q I1 q1
 |false=>exact⟨H1,I1,q1⟩
theorem xC (ha:PT X a tA) (hb:PW X (.BoolOp .Or (b::rest) pos) VS):PW X (.BoolOp .Or (a::b::rest) pos) (GI tA VS):=by
 intro wh pins s σ H Q I h;refine isTrue_or (bF (ha pins s σ H _ I h) fun c s1 ⟨H1,I1,q1⟩=> ?_);cases c with
 |true=>exact⟨H1,I1,q1⟩
 |false=>exact hb wh pins s1 σ H1 Q I1 q1
theorem na (ha:PT X a tA):PT X (.UnaryOp .Not a pos) (D0 tA):=by intro pins s σ H Q I h;exact isTrue_not (ha pins s σ H (fun c H1=>Q (!c) H1) I h)
def ye (ta tb:TE):TE:=fun σ H Q=>ta σ H fun x H1=>∃c,x= .bl c/\if c=true then tb σ H1 Q else Q (.bl false) H1
def BG (ta:TE):TE:=fun σ H Q=>ta σ H fun x H1=>∃c,x= .bl c/\Q (.bl (!c)) H1
theorem oM {op} {t:TE} (h:PE X a t):PE X (.BoolOp op [a] pos) t:=fun pins s σ H Q I hw=>BoolOp_one (h pins s σ H Q I hw)
theorem jx (ha:PE X a ta) (hb:PE X (.BoolOp .And (b::rest) pos) tb):PE X (.BoolOp .And (a::b::rest) pos) (ye ta tb):=by
 intro pins s σ H Q I h;refine BoolOp_and (bF (ha pins s σ H _ I h) fun v s1 ⟨x,H1,I1,r1,q1⟩=> ?_);obtain⟨c,rfl,q1⟩:=q1;cases r1;refine JT ?_;cases c with
 |true=>exact hb pins s1 σ H1 Q I1 q1
 |false=>exact⟨.bl false,H1,I1,rfl,q1⟩
theorem xD (ha:PE X a ta):PE X (.UnaryOp .Not a pos) (BG ta):=by intro pins s σ H Q I h;refine UnaryOp_ (bF (ha pins s σ H _ I h) fun v s1 ⟨x,H1,I1,r1,q1⟩=> ?_);obtain⟨c,rfl,q1⟩:=q1;cases r1;exact not_of (JT ⟨.bl (!c),H1,I1,rfl,q1⟩)
def G5 (t:TT) (ta tb:TE):TE:=fun σ H Q=>t σ H fun c H1=>if c=true then ta σ H1 Q else tb σ H1 Q
end
def Lk (K:Hf) (H:Hp) (a:Hj) (xs:List V):Prop:=
 Rd H a (.lst xs)\/
  ∃(o:Obj) (HW:Array Hg) (n:Nat),K.lookup a=some o/\o.cls= .type "list"/\o.dict=none/\o.data= .seq HW n/\HW.size<=Ht/\Vals xs HW.toList
def Lh (K:Hf) (H:Hp) (a:Hj) (xs:List V):Prop:=
 Rd H a (.tup xs)\/
  ∃(o:Obj) (HW:Array Hg) (n:Nat),K.lookup a=some o/\(o.cls= .type "tuple"/\o.dict=none)/\o.data= .seq HW n/\HW.size<=Ht/\Vals xs HW.toList
noncomputable def GB:Hg->Option V
 | .none=>some .JD
 | .bool b=>some (.bl b)
 | .int i _=>some (.int i)
 | .str x _=>some (.str x)
 | .bytes b _=>some (.Pk b)
 | .float b _=>some (.Ts b)
 | .ref a=>some (.ref a)
 | .type n=>some (.ty n)
 |_=>none
theorem RelV.abs {x:V} {u:Hg} (r:RelV x u):GB u=some x:=by
 cases x with
 |JD=>cases r;rfl
 |bl _=>cases r;rfl
 |int _=>obtain⟨t,rfl⟩:=r;rfl
 |str _=>obtain⟨t,rfl⟩:=r;rfl
 |Pk _=>obtain⟨t,rfl⟩:=r;rfl
 |Ts _=>obtain⟨t,rfl⟩:=r;rfl
 |ref _=>cases r;rfl
 |ty _=>cases r;rfl
theorem RelV.inj {x y:V} {u:Hg} (r:RelV x u) (q:RelV y u):x=y:=HJ (r.abs.symm.trans q.abs)
theorem Vals.inj:∀{xs ys:List V} {us:List Hg},Vals xs us->Vals ys us->xs=ys
 |_,_,_,.nil,.nil=>rfl
 |_,_,_,.cons r t,.cons r' t'=>by rw[r.inj r',Vals.inj t t']
section
variable {X:Cx} {pins:List (Hj×Obj)} {σ:St} {H:Hp} {s:Hi} {a:Hj} {xs ys:List V}
theorem Lk.of {K:Hf} (h:H a=some (.lst xs)):Lk K H a xs:= .inl (.inl h)
theorem Lh.of {K:Hf} (h:H a=some (.tup xs)):Lh K H a xs:= .inl (.inl h)
theorem Inv.list (I:Inv X pins σ H s) (h:Lk X.K H a xs):∃HW:List Hg,Vals xs HW/\PlainL s.heap a HW.toArray/\xs.length<=Ht:=by
 rcases h with h|⟨o,HW,n,hk,hc,hd,hs,hz,r⟩
 ·obtain⟨z,HW,n,r,e⟩:=h.ok I.IW;exact⟨HW,r,⟨_,n,e,rfl,rfl,rfl⟩,z⟩
 ·refine⟨HW.toList,r,⟨o,n,I.Mj a o hk,hc,hd,by simpa using hs⟩,?_⟩;have e:=r.length;simp only[IM] at e;omega
theorem Inv.tuple (I:Inv X pins σ H s) (h:Lh X.K H a xs):∃HW:List Hg,Vals xs HW/\IsTup s.heap a HW.toArray/\xs.length<=Ht:=by
 rcases h with h|⟨o,HW,n,hk,hc,hs,hz,r⟩
 ·obtain⟨z,HW,r,p⟩:=h.ok I.IW;exact⟨HW,r,p.tup,z⟩
 ·refine⟨HW.toList,r,⟨o,I.Mj a o hk,hc.1,n,by simpa using hs⟩,?_⟩;have e:=r.length;simp only[IM] at e;omega
theorem Inv.SR (I:Inv X pins σ H s) (h:Lh X.K H a xs):∃HW:List Hg,Vals xs HW/\Mq s.heap a HW.toArray/\xs.length<=Ht:=by
 rcases h with h|⟨o,HW,n,hk,hc,hs,hz,r⟩
 ·obtain⟨z,HW,r,p⟩:=h.ok I.IW;exact⟨HW,r,p,z⟩
 ·refine⟨HW.toList,r,⟨o,I.Mj a o hk,⟨hc.1,n,by simpa using hs⟩,hc.2⟩,?_⟩;have e:=r.length;simp only[IM] at e;omega
theorem Inv.QU (I:Inv X pins σ H s) (h:Lk X.K H a xs) (h':Lk X.K H a ys):xs=ys:=by
 obtain⟨HW,r,⟨o,n,e,_,_,d⟩,_⟩:=I.list h;obtain⟨its',r',⟨o',n',e',_,_,d'⟩,_⟩:=I.list h';rw[e] at e';cases e';rw[d] at d';injection d' with d1 _;have:HW=its':=by simpa using congrArg RZ d1
 subst this;exact r.inj r'
theorem Inv.P5 (I:Inv X pins σ H s) (h:Lh X.K H a xs) (h':Lh X.K H a ys):xs=ys:=by
 obtain⟨HW,r,⟨o,e,_,n,d⟩,_⟩:=I.tuple h;obtain⟨its',r',⟨o',e',_,n',d'⟩,_⟩:=I.tuple h';rw[e] at e';cases e';rw[d] at d';injection d' with d1 _;have:HW=its':=by simpa using congrArg RZ d1
 subst this;exact r.inj r'
end
noncomputable abbrev Cx.LY (X:Cx) (E:Hg->Hi->Prop):Cx:={X with xe:=E}
noncomputable abbrev Cx.Q6 (X:Cx):Cx:=X.LY fun _ _=>False
theorem Cx.Ok.LY {X:Cx} (ok:X.Ok) (E:Hg->Hi->Prop):(X.LY E).Ok:=
 ⟨ok.mod,ok.kind,ok.glob,ok.blt,ok.above,ok.inj,ok.has,ok.RG,ok.hd,ok.frames,ok.SE,ok.Sn,ok.bs,ok.Qi,ok.Od,ok.Oi,ok.LZ,ok.Rb⟩
theorem Cx.Ok.K3 {X:Cx} {E:Hg->Hi->Prop} (ok:(X.LY E).Ok):X.Ok:=
 ⟨ok.mod,ok.kind,ok.glob,ok.blt,ok.above,ok.inj,ok.has,ok.RG,ok.hd,ok.frames,ok.SE,ok.Sn,ok.bs,ok.Qi,ok.Od,ok.Oi,ok.LZ,ok.Rb⟩
section
variable {X:Cx} {pins:List (Hj×Obj)} {σ:St} {H:Hp} {s:Hi} {E:Hg->Hi->Prop}
theorem Inv.LY (I:Inv X pins σ H s) (E:Hg->Hi->Prop):Inv (X.LY E) pins σ H s:=⟨I.ok.LY E,I.os,I.bare,I.base,I.loc,I.cell,I.free,I.Kl,I.pin,I.IW,I.len⟩
theorem Inv.K3 (I:Inv (X.LY E) pins σ H s):Inv X pins σ H s:=⟨I.ok.K3,I.os,I.bare,I.base,I.loc,I.cell,I.free,I.Kl,I.pin,I.IW,I.len⟩
theorem SP.K3 {D:Ends} {f:Flow} {s':Hi} (h:SP (X.LY E) pins D f s'):SP X pins D f s':=by
 cases f with
 |next=>obtain⟨σ',H',I,q⟩:=h;exact⟨σ',H',I.K3,q⟩
 |brk=>obtain⟨σ',H',I,q⟩:=h;exact⟨σ',H',I.K3,q⟩
 |cont=>obtain⟨σ',H',I,q⟩:=h;exact⟨σ',H',I.K3,q⟩
 |ret u=>obtain⟨v,σ',H',I,r,q⟩:=h;exact⟨v,σ',H',I.K3,r,q⟩
theorem MS.Q6 {st:List Js} {t:TS} (h:MS X.Q6 st t):MS X st t:=fun pins s σ H D I hw=>
 wpAny_mono (h pins s σ H D (I.LY _) hw) (fun _ _ q=>q.K3) fun _ _ z=>False.elim z
end
section
variable {X:Cx} {st:Js} {rest:List Js} {t u:TS} {e:HI} {te:TE} {pos:Pos}
def u6:TS:=fun D σ H=>D.nx σ H
def AH (t u:TS):TS:=fun D σ H=>t {D with nx:=u D} σ H
theorem di:MS X [] u6:=fun _ _ σ H _ I h=>Ki ⟨σ,H,I,h⟩
theorem ae (h1:PS X st t) (h2:MS X rest u):MS X (st::rest) (AH t u):=by
 intro pins s σ H D I h;refine NM (bF (h1 pins s σ H {D with nx:=u D} I h) fun f s1 q=> ?_);cases f with
 |next=>obtain⟨σ',H',I',q⟩:=q;exact h2 pins s1 σ' H' D I' q
 |ret v=>exact q
 |brk=>exact q
 |cont=>exact q
theorem ay (h1:PS X st t):MS X [st] t:=by
 intro pins s σ H D I h;refine NM (bF (h1 pins s σ H D I h) fun f s1 q=> ?_);cases f with
 |next=>exact Ki q
 |ret v=>exact q
 |brk=>exact q
 |cont=>exact q
theorem Inv.quiet {pins:List (Hj×Obj)} {σ:St} {H:Hp} {s:Hi} (I:Inv X pins σ H s):interactive X.env=false:=by simp[interactive,I.ok.kind]
def qU (te:TE):TS:=fun D σ H=>te σ H fun _ H1=>D.nx σ H1
theorem nQ (he:PE X e te) (hs:Ja e none pos.line X.env=pure false:=by rfl):PS X (.Expr e pos) (qU te):=by intro pins s σ H D I h;exact V0 (bF (he pins s σ H _ I h) fun v s1 ⟨x,H1,I1,r1,q1⟩=>⟨σ,H1,I1,q1⟩) I.quiet hs
def Ah (te:TE):TS:=fun D σ H=>te σ H D.rt
theorem bM (he:PE X e te):PS X (.Return (some e) pos) (Ah te):=by intro pins s σ H D I h;exact wpAny_Return_some (bF (he pins s σ H _ I h) fun v s1 ⟨x,H1,I1,r1,q1⟩=>⟨x,σ,H1,I1,r1,q1⟩)
def z8 (c:TT) (t u:TS):TS:=fun D σ H=>c σ H fun b H1=>if b=true then t D σ H1 else u D σ H1
theorem ia {c:HI} {a b:List Js} {tc:TT} (hc:PT X c tc) (ha:MS X a t) (hb:MS X b u):PS X (.If c a b pos) (z8 tc t u):=by
 intro pins s σ H D I h;refine wpAny_If (bF (hc pins s σ H _ I h) fun d s1 ⟨H1,I1,q1⟩=> ?_);cases d with
 |true=>exact ha pins s1 σ H1 D I1 q1
 |false=>exact hb pins s1 σ H1 D I1 q1
def wT:TS:=fun _ _ _=>False
theorem pL:PS X st wT:=fun _ _ _ _ _ _ h=>h.elim
end
abbrev TG:=V->St->Hp->(St->Hp->Prop)->Prop
abbrev vX:=List V->St->Hp->(St->Hp->Prop)->Prop
def PG (X:Cx) (target:HI) (t:TG):Prop:=
 ∀(pins:List (Hj×Obj)) (s:Hi) (σ:St) (H:Hp) (v:V) (u:Hg) (Q:St->Hp->Prop),Inv X pins σ H s->RelV v u->t v σ H Q->
  wpAny (model X.prog X.w) X.A (assign target X.env u) (fun _ s'=>∃σ' H',Inv X pins σ' H' s'/\Q σ' H') X.xe s
def Gc (X:Cx) (ts:List HI) (t:vX):Prop:=
 ∀(pins:List (Hj×Obj)) (s:Hi) (σ:St) (H:Hp) (vs:List V) (us:List Hg) (Q:St->Hp->Prop),Inv X pins σ H s->Vals vs us->t vs σ H Q->
  wpAny (model X.prog X.w) X.A (assignInOrder ((assignEach ts X.env).map (·.2)) us) (fun _ s'=>∃σ' H',Inv X pins σ' H' s'/\Q σ' H') X.xe s
abbrev F9:=V->V->Hp->VK->Prop
def FW (X:Cx) (op:V1) (t:F9):Prop:=
 ∀(pins:List (Hj×Obj)) (s:Hi) (σ:St) (H:Hp) (x y:V) (v u:Hg) (Q:VK),Inv X pins σ H s->RelV x v->RelV y u->t x y H Q->
  wpAny (model X.prog X.w) X.A (inplaceOp op v u) (EP X pins σ Q) X.xe s
section
variable {X:Cx} {pos:Pos}
def mi (i:Nat):TG:=fun v σ H Q=>Q (σ.set i (some v)) H
theorem b5 {i:Nat} {x:Str} (hN:X.N.Nodup) (hi:X.N[i]? =some x) (hx:Fd X.env.scope x) (hf:X.fn x=true\/X.env.scope.names.lookup x=some .local:=by first|exact .inl rfl|exact .inr rfl|assumption):PG X (.Name x pos) (mi i):=by intro pins s σ H v u Q I r h;exact SX (jc I hN hi hx r (fun s' I'=>⟨_,H,I',h⟩) hf)
noncomputable def DN:vX:=fun vs σ H Q=>vs=[]/\Q σ H
noncomputable def yp (t:TG) (u:vX):vX:=fun vs σ H Q=>∃v r,vs=v::r/\t v σ H fun σ' H'=>u r σ' H' Q
theorem oP:Gc X [] DN:=by intro pins s σ H vs us Q I r h;obtain⟨e,h⟩:=h;subst e;cases r;exact assignInOrder_nil ⟨σ,H,I,h⟩
theorem gF {e:HI} {es:List HI} {t:TG} {u:vX} (h1:PG X e t) (h2:Gc X es u)
  (hs:(assignEach (e::es) X.env).map (·.2)=assign e X.env::(assignEach es X.env).map (·.2):=by rfl):Gc X (e::es) (yp t u):=by
 intro pins s σ H vs us Q I r h;obtain⟨v,vr,e1,h⟩:=h;subst e1;cases r with
 |cons r rr=>rw[hs];refine assignInOrder_cons (bF (h1 pins s σ H _ _ _ I r h) fun _ s1 ⟨σ1,H1,I1,q1⟩=> ?_);exact h2 pins s1 σ1 H1 _ _ Q I1 rr q1
def Cy (K:Hf) (n:Nat) (t:vX):TG:=fun v σ H Q=>∃a xs,v= .ref a/\Lh K H a xs/\xs.length=n/\t xs σ H Q
theorem sC {es:List HI} {k:Nat} {t:vX} {n:Nat} (hc:X.calm=true) (h:Gc X es t)
  (hn:(assignEach es X.env).length=n:=by rfl) (OU:(assignEach es X.env).findIdx? (·.1)=none:=by rfl):PG X (.Tuple es k pos) (Cy X.K n t):=by
 intro pins s σ H v u Q I r hw;obtain⟨a,xs,e1,hq,hl,hw⟩:=hw;subst e1;cases r;obtain⟨HW,rv,ht,hz⟩:=I.tuple hq;refine assign_Tuple_tuple (I.ok.hd hc) ht (by simp[hn,<-hl,rv.length]) OU fun h' hx=> ?_;have I1:Inv X pins σ H {s with heap:=h'}:=I.kept (t':=s.toks) fun b o e=>hx b o (HK (Heap.lt_size e)) e;exact h pins _ σ H xs _ Q I1 (by simpa using rv) hw
def xT (te:TE) (g:TG):TS:=fun D σ H=>te σ H fun x H1=>g x σ H1 D.nx
theorem bV {i:Nat} {x:Str} {e:HI} {te:TE} {pos':Pos} (hN:X.N.Nodup) (hi:X.N[i]? =some x) (hx:Fd X.env.scope x) (he:PE X e te) (hs:Ja e (some (.Name x pos')) pos.line X.env=pure false:=by rfl) (hf:X.fn x=true\/X.env.scope.names.lookup x=some .local:=by first|exact .inl rfl|exact .inr rfl|assumption):
  PS X (.Assign [.Name x pos'] e pos) (xT te (mi i)):=by
 intro pins s σ H D I h;refine wpAny_Assign_Name (bF (he pins s σ H _ I h) fun v s1 ⟨y,H1,I1,r1,q1⟩=> ?_) hs;exact jc I1 hN hi hx r1 (fun s2 I2=>⟨_,H1,I2,q1⟩) hf
def Fe (i:Nat) (te:TE) (ti:F9):TS:=fun D σ H=>∃x,σ[i]? =some (some x)/\te σ H fun y H1=>ti x y H1 fun z H2=>D.nx (σ.set i (some z)) H2
theorem rT {i:Nat} {x:Str} {e:HI} {te:TE} {op:V1} {ti:F9} {pos':Pos} (hN:X.N.Nodup) (hi:X.N[i]? =some x) (hx:Fd X.env.scope x) (he:PE X e te) (ho:FW X op ti) (hf:X.fn x=true\/X.env.scope.names.lookup x=some .local:=by first|exact .inl rfl|exact .inr rfl|assumption):
  PS X (.AugAssign (.Name x pos') op e pos) (Fe i te ti):=by
 intro pins s σ H D I h;obtain⟨v,e1,h⟩:=h;obtain⟨m,hn,hl⟩:=I.loc;have vis:F1 X.env.scope x:=by rcases hx with k|k;exact .inl k;exact .inr (.inl k)
 obtain⟨u,r,l⟩:=hl i x v hi e1 vis;refine wpAny_AugAssign_Name ?_;have go:wpAny (model X.prog X.w) X.A (eval e X.env) (fun w s₂=>wpAny (model X.prog X.w) X.A (inplaceOp op u w) (fun r s₃=>wpAny (model X.prog X.w) X.A (storeName X.env x r) (fun _=>SP X pins D .next) X.xe s₃) X.xe s₂) X.xe s:=by refine bF (he pins s σ H _ I h) fun w s1 ⟨y,H1,I1,r1,q1⟩=> ?_;refine bF (ho pins s1 σ H1 v y u w _ I1 r r1 q1) fun z s2 ⟨zv,H2,I2,r2,q2⟩=> ?_;exact jc I2 hN hi hx r2 (fun s3 I3=>⟨_,H2,I3,q2⟩) hf
 rcases l with⟨hk,hm⟩|⟨hk,c,hc,Me⟩
 ·exact Rf I.ok.kind hk hn hm go
 ·rcases hk with hk|hk
  ·exact Rt I.ok.kind hk hc Me go
  ·rcases hx with k|k
   ·have:X.env.scope.names.lookup x=some .free:=hk;rw[k] at this;cases this
   ·have:X.env.scope.names.lookup x=some .free:=hk;rw[k] at this;cases this
noncomputable def GW (f:Int->Int->Int):F9:=fun x y H Q=>∃i j,x= .int i/\y= .int j/\Q (.int (f i j)) H
theorem DK:FW X .Sub (GW fun i j=>i - j):=by intro pins s σ H x y v u Q I r1 r2 h;obtain⟨i,j,e1,e2,q⟩:=h;subst e1;subst e2;obtain⟨t,rfl⟩:=r1;obtain⟨t',rfl⟩:=r2;exact isub_int ⟨.int _,H,I.tok _,⟨_,rfl⟩,q⟩
end
section
variable {X:Cx} {pos:Pos}
def xG (c:TT) (tb:TS):TS:=fun D σ H=>∃W:Nat->St->Hp->Prop,(∃m,W m σ H)/\∀m σ H,W m σ H->
 c σ H fun b H1=>if b=true then∃N:St->Hp->Prop,(∀σ' H',N σ' H'->∃m',m'<m/\W m' σ' H')/\tb {D with nx:=N,ct:=N,bk:=D.nx} σ H1 else D.nx σ H1
theorem pX {c:HI} {body:List Js} {tc:TT} {tb:TS} (hp:KJ (model X.prog X.w) X.A X.env X.xe) (hc:PT X c tc) (hb:MS X body tb):PS X (.While c body [] pos) (xG tc tb):=by
 intro pins s σ H D I h;obtain⟨W,⟨m0,w0⟩,turn⟩:=h;refine wpAny_While (codeAny_whileLoop (fun n s'=>∃σ' H',Inv X pins σ' H' s'/\W n σ' H') ?_ m0 ⟨σ,H,I,w0⟩);rintro n s1 ⟨σ1,H1,I1,w1⟩;refine JQ hp (bF (hc pins s1 σ1 H1 _ I1 (turn n σ1 H1 w1)) fun b s2 ⟨H2,I2,q2⟩=> ?_);cases b with
 |true=>
  obtain⟨N,hN,q2⟩:=q2;rw[if_pos rfl];refine JQ hp (bF (hb pins s2 σ1 H2 _ I2 q2) fun f s3 q3=> ?_);cases f with
  |next=>obtain⟨σ3,H3,I3,n3⟩:=q3;obtain⟨m',hm,w3⟩:=hN σ3 H3 n3;exact⟨m',hm,σ3,H3,I3,w3⟩
  |cont=>obtain⟨σ3,H3,I3,n3⟩:=q3;obtain⟨m',hm,w3⟩:=hN σ3 H3 n3;exact⟨m',hm,σ3,H3,I3,w3⟩
  |brk=>exact q3
  |ret v=>exact q3
 |false=>rw[if_neg Hu];exact Ki ⟨σ1,H2,I2,q2⟩
end
structure It where
 go:Nat->Hp->Prop
 Us:Nat->Hp->V->Hp->Prop
 stop:Nat->Hp->Prop
def kO (X:Cx) (pins:List (Hj×Obj)) (H:Hp) (b:Hj):Prop:=
 H b=none/\b≠X.env.locals/\b∉X.fs/\(b∈X.ex\/X.s₀.heap.objs.size<=b)/\(∀x c,X.env.cells.lookup x=some c->c≠b)/\∀p∈X.pn++pins,p.1≠b
theorem Inv.Ol {X:Cx} {pins:List (Hj×Obj)} {σ:St} {H H':Hp} {s:Hi} {b:Hj} (I:Inv X pins σ H s) (hb:s.heap.objs.size<=b) (hn:H' b=none):kO X pins H' b:=by
 refine⟨hn,Jp (Hx I.lt hb),I.XO hb,.inr (Il I.sz hb),fun x c e z=> ?_,fun p hp z=> ?_⟩
 ·obtain⟨v,q⟩:=I.cell x c e;exact absurd (Hx q.lt (by rw[z];exact hb)) (IT _)
 ·exact absurd (Hx (Heap.lt_size (I.pin p hp).1) (by rw[z];exact hb)) (IT _)
structure Turn (P:Hy) (w:HU) (K:Hf) (tg:HI) (J:It) (fp:List Hj) (it:Hj) (tn:Nat->Heap->Prop):Prop where
 mem:it∈fp
 obj:∀i h,tn i h->∀b∈fp,∃o,h.get? b=some o/\∀v,o.data≠ .cell v
 keep:∀i h h',tn i h->(∀b∈fp,∀o,h.get? b=some o->h'.get? b=some o)->tn i h'
 item:∀(X:Cx),X.prog=P->X.w=w->X.K=K->X.calm=true->∀(i:Nat) (pins:List (Hj×Obj)) (s:Hi) (σ:St) (H:Hp) (E:Hg->Hi->Prop),Inv X pins σ H s->(∀b∈fp,kO X pins H b)->tn i s.heap->J.go i H->
  wpAny (model P w) X.A (pyNext (.ref it)) (fun r s1=>∃u,r=some u/\
   wpAny (model P w) X.A (letOwnedTupleGo tg (.ref it) u) (fun _ s2=>∃x H',Inv X pins σ H' s2/\RelV x u/\J.Us i H x H'/\tn (i+1) s2.heap/\∀b∈fp,H' b=none) E s1) E s
 done:∀(X:Cx),X.prog=P->X.w=w->X.K=K->X.calm=true->∀(i:Nat) (pins:List (Hj×Obj)) (s:Hi) (σ:St) (H:Hp) (E:Hg->Hi->Prop),Inv X pins σ H s->(∀b∈fp,kO X pins H b)->tn i s.heap->J.stop i H->
  wpAny (model P w) X.A (pyNext (.ref it)) (fun r s1=>r=none/\Inv X pins σ H s1) E s
 self:∀(A:HM) (i:Nat) (s:Hi) (Q:Hg->Hi->Prop) (E:Hg->Hi->Prop),tn i s.heap->Q (.ref it) s->wpAny (model P w) A (pyIter (.ref it)) Q E s
abbrev TI:=St->Hp->(It->Hp->Prop)->Prop
def GA (X:Cx) (pins:List (Hj×Obj)) (σ:St) (tg:HI) (R:It->Hp->Prop) (Vf:Hg) (s2:Hi):Prop:=
 ∃(it:Hj) (fp:List Hj) (tn:Nat->Heap->Prop) (J:It) (H':Hp),Vf= .ref it/\Inv X pins σ H' s2/\Turn X.prog X.w X.K tg J fp it tn/\tn 0 s2.heap/\(∀b∈fp,kO X pins H' b)/\R J H'
def PI (X:Cx) (tg iter:HI) (wi:TI):Prop:=
 ∀(pins:List (Hj×Obj)) (s:Hi) (σ:St) (H:Hp) (R:It->Hp->Prop),Inv X pins σ H s->wi σ H R->
  wpAny (model X.prog X.w) X.A (eval iter X.env) (fun v s1=>wpAny (model X.prog X.w) X.A (pyIter v) (GA X pins σ tg R) X.xe s1) X.xe s
theorem uB {M:Np} {A:HM} {E:Hg->Hi->Prop} {s:Hi} {tg:HI} {it:Hj} {u:Hg} {o:Obj} {n:String} {vs:Array Hg} {Q:Unit->Hi->Prop} (ho:s.heap.get? it=some o) (hc:o.cls= .type n) (hd:o.data= .fields vs)
  (hn:["enumerate","zip","dict_itemiterator","dict_reverseitemiterator","odict_iterator","itertools.zip_longest","itertools.pairwise"].contains n=false) (hQ:Q () s):wpAny M A (letOwnedTupleGo tg (.ref it) u) Q E s:=by
 unfold letOwnedTupleGo;cases tg<;>first
  |exact Hq hQ
  |(cases u<;>first
    |exact Hq hQ
    |(refine Hh (wpAny_load ho ?_)
      rw[hc,hd];show wpAny M A (if(["enumerate","zip","dict_itemiterator","dict_reverseitemiterator","odict_iterator","itertools.zip_longest","itertools.pairwise"].contains n&&vs[0]? ==some (rawInt _))=true then _ else _) Q E s;rw[if_neg (by intro h;rw[hn,LM] at h;cases h)];exact Hq hQ))
noncomputable def GC (K:Hf) (a:Hj):It:=
 ⟨fun i H=>∃xs x,Lk K H a xs/\xs[i]? =some x,fun i H x H'=>H'=H/\∀xs,Lk K H a xs->xs[i]? =some x,fun i H=>∃xs,Lk K H a xs/\xs.length<=i⟩
noncomputable def Gw (K:Hf) (a:Hj):It:=
 ⟨fun i H=>∃xs x,Lh K H a xs/\xs[i]? =some x,fun i H x H'=>H'=H/\∀xs,Lh K H a xs->xs[i]? =some x,fun i H=>∃xs,Lh K H a xs/\xs.length<=i⟩
noncomputable def FY (lo:Int) (n:Nat):It:=⟨fun i _=>i<n,fun i H x H'=>H'=H/\x= .int (lo+i),fun i _=>n<=i⟩
theorem vN {P:Hy} {w:HU} {K:Hf} {tg:HI} (a it:Hj):Turn P w K tg (GC K a) [it] it (fun i h=>h.IsListIter it a i) where
 mem:=by simp
 obj:=fun i h st b hb=>by
  have e:b=it:=by simpa using hb
  subst e;obtain⟨o,e,c,d⟩:=st;exact⟨o,e,fun v z=>by rw[d] at z;cases z⟩
 keep:=fun i h h' st k=>st.at fun o e=>k it (by simp) o e
 item:=by intro X hP hw hK hc i pins s σ H E I hf st hg;subst hP hw hK;obtain⟨xs,x,hq,hx⟩:=hg;obtain⟨HW,rv,p,hz⟩:=I.list hq;obtain⟨u,hu,ru⟩:=rv.get hx;obtain⟨f0,f1,f2,f3,f4,f5⟩:=hf it (by simp);refine wpAny_pyNext_list_item st p.isList (x:=u) (by simpa using hu) fun h' QG sb=> ?_;have I1:Inv X pins σ H {s with heap:=h'}:=I.turned (t':=s.toks) (fun b o hb e=>(sb.2 b hb).trans e) f0 f1 f3 f4 f5;obtain⟨o,e,c,d⟩:=id QG;exact⟨u,rfl,uB (s:={s with heap:=h'}) e c d (by decide) ⟨x,H,I1,ru,⟨rfl,fun ys hy=>by rw[I.QU hy hq];exact hx⟩,QG,fun b hb=>(hf b hb).1⟩⟩
 done:=by intro X hP hw hK hc i pins s σ H E I hf st hg;subst hP hw hK;obtain⟨xs,hq,hx⟩:=hg;obtain⟨HW,rv,p,hz⟩:=I.list hq;obtain⟨f0,f1,f2,f3,f4,f5⟩:=hf it (by simp);have hl:=rv.length;exact wpAny_pyNext_list_end (I.ok.hd hc) st p.isList (by simp;omega) fun h' eb=>⟨rfl,I.turned (t':=s.toks) (fun b o hb e=>eb b o hb e) f0 f1 f3 f4 f5⟩
 self:=fun _ _ _ _ _ st h=>wpAny_pyIter_listiter st h
theorem sj {P:Hy} {w:HU} {K:Hf} {tg:HI} (a it:Hj):Turn P w K tg (Gw K a) [it] it (fun i h=>h.IsTupleIter it a i) where
 mem:=by simp
 obj:=fun i h st b hb=>by
  have e:b=it:=by simpa using hb
  subst e;obtain⟨o,e,c,d⟩:=st;exact⟨o,e,fun v z=>by rw[d] at z;cases z⟩
 keep:=fun i h h' st k=>st.at fun o e=>k it (by simp) o e
 item:=by intro X hP hw hK hc i pins s σ H E I hf st hg;subst hP hw hK;obtain⟨xs,x,hq,hx⟩:=hg;obtain⟨HW,rv,p,hz⟩:=I.tuple hq;obtain⟨u,hu,ru⟩:=rv.get hx;obtain⟨f0,f1,f2,f3,f4,f5⟩:=hf it (by simp);refine wpAny_pyNext_tuple_item st (show s.heap.IsTuple a HW.toArray from p) (x:=u) (by simpa using hu) fun h' QG sb=> ?_;have I1:Inv X pins σ H {s with heap:=h'}:=I.turned (t':=s.toks) (fun b o hb e=>(sb.2 b hb).trans e) f0 f1 f3 f4 f5;obtain⟨o,e,c,d⟩:=id QG;exact⟨u,rfl,uB (s:={s with heap:=h'}) e c d (by decide) ⟨x,H,I1,ru,⟨rfl,fun ys hy=>by rw[I.P5 hy hq];exact hx⟩,QG,fun b hb=>(hf b hb).1⟩⟩
 done:=by intro X hP hw hK hc i pins s σ H E I hf st hg;subst hP hw hK;obtain⟨xs,hq,hx⟩:=hg;obtain⟨HW,rv,p,hz⟩:=I.tuple hq;obtain⟨f0,f1,f2,f3,f4,f5⟩:=hf it (by simp);have hl:=rv.length;exact wpAny_pyNext_tuple_end (I.ok.hd hc) st (show s.heap.IsTuple a HW.toArray from p) (by simp;omega) fun h' eb=>⟨rfl,I.turned (t':=s.toks) (fun b o hb e=>eb b o hb e) f0 f1 f3 f4 f5⟩
 self:=fun _ _ _ _ _ st h=>wpAny_pyIter_tupleiter st h
theorem sS {P:Hy} {w:HU} {K:Hf} {tg:HI} (it:Hj) (lo:Int) (n:Nat):Turn P w K tg (FY lo n) [it] it (fun i h=>N5 h it (lo+(i:Nat)*1) ((n:Int) - (i:Nat)) 1) where
 mem:=by simp
 obj:=fun i h st b hb=>by
  have e:b=it:=by simpa using hb
  subst e;exact⟨_,st,fun v z=>by have z':Tt.fields _=Tt.cell v:=z;cases z'⟩
 keep:=fun i h h' st k=>k it (by simp) _ st
 item:=by intro X hP hw hK hc i pins s σ H E I hf st hg;subst hP hw hK;obtain⟨f0,f1,f2,f3,f4,f5⟩:=hf it (by simp);have W:=V2.range (prog:=X.prog) (w:=X.w) (I.ok.hd hc) it lo 1 n;refine W.item i s _ _ hg st fun v h' tk hv QG kk=> ?_;obtain⟨t,rfl⟩:=hv;have I1:Inv X pins σ H {s with heap:=h',toks:=tk}:=I.turned (fun b o hb e=>kk b o (by simpa using hb) e) f0 f1 f3 f4 f5;refine⟨_,rfl,uB (s:={s with heap:=h',toks:=tk}) (n:= "range_iterator") QG rfl rfl (by decide) ⟨.int (lo+i),H,I1,⟨t,?_⟩,⟨rfl,rfl⟩,QG,fun b hb=>(hf b hb).1⟩⟩;rw[Int.mul_one]
 done:=by intro X hP hw hK hc i pins s σ H E I hf st hg;subst hP hw hK;obtain⟨f0,f1,f2,f3,f4,f5⟩:=hf it (by simp);exact Qk (I.ok.hd hc) st (by have:n<=i:=hg;omega) fun h' eb=>⟨rfl,I.turned (t':=s.toks) (fun b o hb e=>eb b o hb e) f0 f1 f3 f4 f5⟩
 self:=fun _ _ _ _ _ st h=>Ql st h
section
variable {X:Cx} {tg:HI}
theorem xV {pins:List (Hj×Obj)} {σ:St} {H:Hp} {s:Hi} {R:It->Hp->Prop} {E:Hg->Hi->Prop} {lo hi:Int} {t u v:Tok} {tk:Nat} (I:Inv X pins σ H s) (h1: -(2^62)<=lo) (h2:lo<2^62) (h3: -(2^62)<=hi) (h4:hi<2^62)
  (q:R (FY lo (hi - lo).toNat) H):wpAny (model X.prog X.w) X.A (pyIter (.ref s.heap.objs.size)) (GA X pins σ tg R) E {s with heap:=s.heap.push {cls:= .type "range",data:= .fields #[.int lo t,.int hi u,.int 1 v]},toks:=tk}:=by
 refine R0 (IsRange.new ..) (small_one h1 h2 h3 h4) ?_;have I1:Inv X pins σ H {s with heap:=s.heap.push {cls:= .type "range",data:= .fields #[.int lo t,.int hi u,.int 1 v]},toks:=tk}:=I.kept fun b o e=>Heap.get?_push_of_some _ e;refine⟨(s.heap.push {cls:= .type "range",data:= .fields #[.int lo t,.int hi u,.int 1 v]}).objs.size,[(s.heap.push {cls:= .type "range",data:= .fields #[.int lo t,.int hi u,.int 1 v]}).objs.size],_,_,H,rfl,
  I1.kept (t':=tk) fun b o e=>Heap.get?_push_of_some _ e,sS _ lo (hi - lo).toNat,?_,fun b hb=> ?_,q⟩
 ·have e1:lo+((0:Nat):Int)*1=lo:=by simp
  have e2:(((hi - lo).toNat:Nat):Int) - ((0:Nat):Int)=Builtin.Range.rangeSize lo hi 1:=by rw[rangeSize_one];split<;>omega
  show N5 _ _ (lo+((0:Nat):Int)*1) ((((hi - lo).toNat:Nat):Int) - ((0:Nat):Int)) 1;rw[e1,e2];exact Heap.get?_push_size _ rfl
 ·have e:b=(s.heap.push {cls:= .type "range",data:= .fields #[.int lo t,.int hi u,.int 1 v]}).objs.size:=by simpa using hb
  subst e;exact I1.Ol (Ho _) (I1.IW.fresh (Ho _))
def BX (ta:TA):TI:=fun σ H R=>ta σ H fun vs H1=>∃j:Int,vs=[.int j]/\ -(2^62)<=j/\j<2^62/\R (FY 0 j.toNat) H1
theorem g7 {a:HI} {ta:TA} {p pos:Pos} (hg:Gl X "range") (hm:X.mg "range"=none) (ha:PA X [a] ta) (hs:HL [a] X.env=[(false,eval a X.env)]:=by rfl):PI X tg (.Call (.Name "range" p) [a] [] pos) (BX ta):=by
 intro pins s σ H R I h;refine Call_ (io I hg hm boot_range (Je (bF (ha pos pins s σ H _ I h) fun us s1 ⟨vs,H1,I1,r1,q1⟩=> ?_) hs rfl));obtain⟨j,e,q1,q2,q⟩:=q1;subst e;cases r1 with
 |cons r rr=>cases rr;obtain⟨t,rfl⟩:=r;exact call_range_1 (xV I1 (by omega) (by omega) q1 q2 (by simpa using q))
def D4 (wi:TI) (g:TG) (tb:TS):TS:=fun D σ H=>wi σ H fun J H1=>∃W:Nat->Nat->St->Hp->Prop,(∃m,W 0 m σ H1)/\∀i m σ H,W i m σ H->
 (J.stop i H/\D.nx σ H)\/(J.go i H/\∃N:St->Hp->Prop,(∀σ' H',N σ' H'->∃m',m'<m/\W (i+1) m' σ' H')/\∀x H',J.Us i H x H'->g x σ H' fun σ2 H2=>tb {D with nx:=N,ct:=N,bk:=D.nx} σ2 H2)
noncomputable def k7 (fp:List Hj) (h:Heap):List (Hj×Obj):=fp.filterMap fun b=>(h.get? b).map fun o=>(b,o)
theorem fS {fp:List Hj} {h:Heap} {b:Hj} {o:Obj} (hb:b∈fp) (e:h.get? b=some o):(b,o)∈k7 fp h:=Mn.mpr ⟨b,hb,by rw[e];rfl⟩
theorem wv {fp:List Hj} {h:Heap} {p:Hj×Obj} (hp:p∈k7 fp h):p.1∈fp/\h.get? p.1=some p.2:=by
 obtain⟨b,hb,e⟩:=Mn.mp hp;cases q:h.get? b with
 |none=>rw[q] at e;cases e
 |some o=>rw[q] at e;have e':(b,o)=p:=HJ e;subst e';exact⟨hb,q⟩
theorem Inv.pinned {pins:List (Hj×Obj)} {σ:St} {H:Hp} {s:Hi} {fp:List Hj} (I:Inv X pins σ H s) (hf:∀b∈fp,kO X pins H b) (ho:∀b∈fp,∃o,s.heap.get? b=some o/\∀v,o.data≠ .cell v):Inv X (pins++k7 fp s.heap) σ H s:=
 I.NZ fun p hp=>(Ih.mp hp).elim (fun z=>I.pin p (Ir _ z)) fun z=>by obtain⟨hb,e⟩:=wv z;obtain⟨f0,f1,f2,_⟩:=hf p.1 hb;obtain⟨o,e',d⟩:=ho p.1 hb;rw[e] at e';cases e';exact⟨e,f0,f1,f2,d⟩
theorem Inv.Mg {pins pl:List (Hj×Obj)} {σ:St} {H:Hp} {s:Hi} (I:Inv X (pins++pl) σ H s):Inv X pins σ H s:=I.NZ fun p hp=>I.pin p (Ir _ (LL _ hp))
theorem ir {iter:HI} {body:List Js} {wi:TI} {g:TG} {tb:TS} {pos:Pos} (hp:KJ (model X.prog X.w) X.A X.env X.xe) (hc:X.calm=true) (hi:PI X tg iter wi) (hg:PG X tg g) (hb:MS X body tb)
  (hs:∀x,foldedSetIterable iter X.env x=pure x:=by intro _;rfl):PS X (.For tg iter body [] pos) (D4 wi g tb):=by
 intro pins s σ H D I h;refine wpAny_For (bF (hi pins s σ H _ I h) fun v s1 h1=>bF h1 fun Vf s2 h2=> ?_) hs;obtain⟨it,fp,tn,J,H2,e,I2,T,Uz,f2,W,⟨m0,w0⟩,turn⟩:=h2;subst e;have Sh:∀{H':Hp},(∀b∈fp,H' b=none)->∀b∈fp,kO X pins H' b:=fun hn b hb=>⟨hn b hb,(f2 b hb).2⟩;refine codeAny_forLoop_any (fun n s'=>∃i σ' H',Inv X pins σ' H' s'/\tn i s'.heap/\(∀b∈fp,H' b=none)/\W i n σ' H') ?_ m0 ⟨0,σ,H2,I2,Uz,fun b hb=>(f2 b hb).1,w0⟩;rintro n s3 ⟨i,σ3,H3,I3,X0,X6,w3⟩;rcases turn i n σ3 H3 w3 with⟨stop,qn⟩|⟨go,N,hN,step⟩
 ·refine JQ hp (bF (T.done X rfl rfl rfl hc i pins s3 σ3 H3 X.xe I3 (Sh X6) X0 stop) fun r s4 ⟨hr,I4⟩=> ?_);subst hr;exact Ki ⟨σ3,H3,I4,qn⟩
 ·refine JQ hp (bF (T.item X rfl rfl rfl hc i pins s3 σ3 H3 X.xe I3 (Sh X6) X0 go) fun r s4 ⟨u,hr,h4⟩=> ?_)
  subst hr;refine JQ hp (bF h4 fun _ s5 ⟨x,H5,I5,r5,y5,To,Vj⟩=> ?_);have I5':=I5.pinned (Sh Vj) (T.obj _ _ To);refine JQ hp (bF (hg _ s5 σ3 H5 x u _ I5' r5 (step x H5 y5)) fun _ s6 ⟨σ6,H6,I6,q6⟩=> ?_);refine JQ hp (bF (hb _ s6 σ6 H6 _ I6 q6) fun f s7 q7=> ?_);have again:∀{σ7:St} {H7:Hp},Inv X (pins++k7 fp s5.heap) σ7 H7 s7->N σ7 H7->∃m,m<n/\∃i σ' H',Inv X pins σ' H' s7/\tn i s7.heap/\(∀b∈fp,H' b=none)/\W i m σ' H':=fun{σ7 H7} I7 n7=>by obtain⟨m',hm,w7⟩:=hN σ7 H7 n7;refine⟨m',hm,i+1,σ7,H7,I7.Mg,T.keep _ _ _ To fun b hb o e=>(I7.pin (b,o) (Ir _ (Ir _ (fS hb e)))).1,fun b hb=> ?_,w7⟩;obtain⟨o,e,d⟩:=T.obj _ _ To b hb;exact(I7.pin (b,o) (Ir _ (Ir _ (fS hb e)))).2.1
  cases f with
  |next=>obtain⟨σ7,H7,I7,n7⟩:=q7;exact again I7 n7
  |cont=>obtain⟨σ7,H7,I7,n7⟩:=q7;exact again I7 n7
  |brk=>obtain⟨σ7,H7,I7,q7⟩:=q7;exact⟨σ7,H7,I7.Mg,q7⟩
  |ret v=>obtain⟨x7,σ7,H7,I7,r7,q7⟩:=q7;exact⟨x7,σ7,H7,I7.Mg,r7,q7⟩
end
abbrev R2:=V->V->Hp->VK->Prop
def OpR (X:Cx) (f:Hg->Hg->Sem Hg) (r:R2):Prop:=
 ∀(pins:List (Hj×Obj)) (s:Hi) (σ:St) (H:Hp) (x y:V) (v u:Hg) (Q:VK),Inv X pins σ H s->RelV x v->RelV y u->r x y H Q->
  wpAny (model X.prog X.w) X.A (f v u) (EP X pins σ Q) X.xe s
def Gu (X:Cx) (f:Hg->Sem Hg) (r:V->Hp->VK->Prop):Prop:=
 ∀(pins:List (Hj×Obj)) (s:Hi) (σ:St) (H:Hp) (x:V) (v:Hg) (Q:VK),Inv X pins σ H s->RelV x v->r x H Q->
  wpAny (model X.prog X.w) X.A (f v) (EP X pins σ Q) X.xe s
def hJ (X:Cx) (f:Hg) (r:List V->Hp->VK->Prop):Prop:=
 ∀(pins:List (Hj×Obj)) (s:Hi) (σ:St) (H:Hp) (xs:List V) (us:List Hg) (Q:VK),Inv X pins σ H s->Vals xs us->r xs H Q->
  wpAny (model X.prog X.w) X.A (call f us) (EP X pins σ Q) X.xe s
def Ek (r:R2) (ta tb:TE):TE:=fun σ H Q=>ta σ H fun x H1=>tb σ H1 fun y H2=>r x y H2 Q
def FZ (r:V->Hp->VK->Prop) (ta:TE):TE:=fun σ H Q=>ta σ H fun x H1=>r x H1 Q
def rI (C:Int->Int->Prop) (g:Int->Int->V):R2:=fun x y H Q=>∃i j,x= .int i/\y= .int j/\C i j/\Q (g i j) H
def tV (g:Int->Int->V):R2:=fun x y H Q=>∃i j,x= .int i/\y= .int j/\Q (g i j) H
def rU (g:Int->V):V->Hp->VK->Prop:=fun x H Q=>∃i,x= .int i/\Q (g i) H
section
variable {X:Cx} {a b c:HI} {ta tb tc:TE} {pos:Pos}
theorem C4 (ha:PE X a ta) (hb:PE X b tb) {pins:List (Hj×Obj)} {s:Hi} {σ:St} {H:Hp} {R:V->V->Hp->Prop} (I:Inv X pins σ H s)
  (h:ta σ H fun x H1=>tb σ H1 fun y H2=>R x y H2) {Q:Hg->Hi->Prop} {f:Hg->Hg->Sem Hg}
  (hf:∀v u s2 x y H2,Inv X pins σ H2 s2->RelV x v->RelV y u->R x y H2->wpAny (model X.prog X.w) X.A (f v u) Q X.xe s2):
  wpAny (model X.prog X.w) X.A (eval a X.env) (fun v s₁=>wpAny (model X.prog X.w) X.A (eval b X.env) (fun u s₂=>wpAny (model X.prog X.w) X.A (f v u) Q X.xe s₂) X.xe s₁) X.xe s:=by
 refine bF (ha pins s σ H _ I h) fun v s1 ⟨x,H1,I1,r1,q1⟩=> ?_;refine bF (hb pins s1 σ H1 _ I1 q1) fun u s2 ⟨y,H2,I2,r2,q2⟩=> ?_;exact hf v u s2 x y H2 I2 r1 r2 q2
theorem dJ {op:V1} {r:R2} (ho:OpR X (Jj op) r) (ha:PE X a ta) (hb:PE X b tb):PE X (.BinOp a op b pos) (Ek r ta tb):=by intro pins s σ H Q I h;exact wpAny_BinOp (C4 ha hb I h fun v u s2 x y H2 I2 rx ry q=>ho pins s2 σ H2 x y v u Q I2 rx ry q)
theorem ui {op:UnaryOp} {r:V->Hp->VK->Prop} (ho:Gu X (unaryOp op) r) (ha:PE X a ta):PE X (.UnaryOp op a pos) (FZ r ta):=by intro pins s σ H Q I h;exact UnaryOp_ (bF (ha pins s σ H _ I h) fun v s1 ⟨x,H1,I1,r1,q1⟩=>ho pins s1 σ H1 x v Q I1 r1 q1)
theorem Gd {f:Hg->Hg->Sem Hg} {C:Int->Int->Prop} {g:Int->Int->Int}
  (rule:∀(i j:Int) (t u:Tok) (s:Hi) (Q:Hg->Hi->Prop) (E:Hg->Hi->Prop),C i j->Q (.int (g i j) s.toks) {s with toks:=s.toks+1}->wpAny (model X.prog X.w) X.A (f (.int i t) (.int j u)) Q E s):
  OpR X f (rI C fun i j=> .int (g i j)):=by
 intro pins s σ H x y v u Q I rx ry h;obtain⟨i,j,rfl,rfl,hc,q⟩:=h;obtain⟨t,rfl⟩:=rx;obtain⟨t',rfl⟩:=ry;exact rule i j t t' s _ _ hc ⟨.int (g i j),H,I.tok _,⟨_,rfl⟩,q⟩
theorem EX {f:Hg->Hg->Sem Hg} {g:Int->Int->Int}
  (rule:∀(i j:Int) (t u:Tok) (s:Hi) (Q:Hg->Hi->Prop) (E:Hg->Hi->Prop),Q (.int (g i j) s.toks) {s with toks:=s.toks+1}->wpAny (model X.prog X.w) X.A (f (.int i t) (.int j u)) Q E s):
  OpR X f (tV fun i j=> .int (g i j)):=by
 intro pins s σ H x y v u Q I rx ry h;obtain⟨i,j,rfl,rfl,q⟩:=h;obtain⟨t,rfl⟩:=rx;obtain⟨t',rfl⟩:=ry;exact rule i j t t' s _ _ ⟨.int (g i j),H,I.tok _,⟨_,rfl⟩,q⟩
theorem Dt {f:Hg->Hg->Sem Hg} {g:Int->Int->Bool}
  (rule:∀(i j:Int) (t u:Tok) (s:Hi) (Q:Hg->Hi->Prop) (E:Hg->Hi->Prop),Q (.bool (g i j)) s->wpAny (model X.prog X.w) X.A (f (.int i t) (.int j u)) Q E s):
  OpR X f (tV fun i j=> .bl (g i j)):=by
 intro pins s σ H x y v u Q I rx ry h;obtain⟨i,j,rfl,rfl,q⟩:=h;obtain⟨t,rfl⟩:=rx;obtain⟨t',rfl⟩:=ry;exact rule i j t t' s _ _ ⟨.bl (g i j),H,I,rfl,q⟩
def Dj (i j:Int):Prop:=0<=j/\j<=1000000/\i.natAbs<2^64
def Rp (i j:Int):Prop:=(-(2^64)<i/\i<2^64)\/(-(2^64)<j/\j<2^64)
theorem Rp.ok {i j:Int} (h:Rp i j):IntMulOk i j:=by
 rcases h with⟨h1,h2⟩|⟨h1,h2⟩
 ·exact .of_left (XT h1 h2)
 ·exact .of_right (XT h1 h2)
theorem Dr:OpR X (Jj .Add) (tV fun i j=> .int (i+j)):=EX fun _ _ _ _ _ _ _ q=>add_int q
theorem zf:OpR X (Jj .Sub) (tV fun i j=> .int (i - j)):=EX fun _ _ _ _ _ _ _ q=>sub_int q
theorem DI:OpR X (Jj .Mult) (rI Rp fun i j=> .int (i*j)):=Gd fun _ _ _ _ _ _ _ hc q=>mul_int q hc.ok
theorem jC:OpR X (Jj .Mod) (rI (fun _ j=>0<j) fun i j=> .int (i % j)):=Gd fun i j _ _ _ _ _ hc q=>by have h1:(0:Int)<j:=hc;exact mod_int' (by omega) (by rw[Int.fmod_eq_emod_of_nonneg i (by omega)];exact q)
theorem DW:OpR X (Jj .Pow) (rI Dj fun i j=> .int (i^j.toNat)):=Gd fun _ _ _ _ _ _ _ hc q=>pow_int_small hc.1 hc.2.1 hc.2.2 q
theorem G8 {f:Hg->Sem Hg} {g:Int->Int}
  (rule:∀(i:Int) (t:Tok) (s:Hi) (Q:Hg->Hi->Prop) (E:Hg->Hi->Prop),Q (.int (g i) s.toks) {s with toks:=s.toks+1}->wpAny (model X.prog X.w) X.A (f (.int i t)) Q E s):
  Gu X f (rU fun i=> .int (g i)):=by
 intro pins s σ H x v Q I rx h;obtain⟨i,rfl,q⟩:=h;obtain⟨t,rfl⟩:=rx;exact rule i t s _ _ ⟨.int (g i),H,I.tok _,⟨_,rfl⟩,q⟩
theorem nX:Gu X (unaryOp .USub) (rU fun i=> .int (-i)):=G8 fun _ _ _ _ _ q=>neg_int q
end
noncomputable def nk:V->V->Bool
 | .JD,.JD=>true| .JD,.int _=>true| .int _,.JD=>true| .JD,.bl _=>true| .bl _,.JD=>true| .JD,.str _=>true| .str _,.JD=>true
 | .int _,.int _=>true| .bl _,.bl _=>true| .str _,.str _=>true| .Pk _,.Pk _=>true
 | .int _,.str _=>true| .str _,.int _=>true| .bl _,.str _=>true| .str _,.bl _=>true
 |_,_=>false
def G1:R2:=fun x y H Q=>nk x y=true/\Q (.bl (decide (x=y))) H
def GX:R2:=fun x y H Q=>nk x y=true/\Q (.bl (!decide (x=y))) H
theorem uH {i j:Int}:decide (V.int i=V.int j)=(i==j):=by rw[KI];simp
theorem yK {i j:Bool}:decide (V.bl i=V.bl j)=(i==j):=by rw[KI];simp
theorem tI {i j:Str}:decide (V.str i=V.str j)=(i==j):=by rw[KI];simp
theorem uL {i j:Array UInt8}:decide (V.Pk i=V.Pk j)=(i.toList==j.toList):=by rw[KI];cases i;cases j;simp
section
variable {X:Cx} {a b c:HI} {ta tb tc:TE} {pos:Pos}
theorem aW {pins:List (Hj×Obj)} {σ:St} {H:Hp} {s:Hi} {Q:VK} {k k':Bool} (I:Inv X pins σ H s) (q:Q (.bl k) H) (e:k=k'):EP X pins σ Q (.bool k') s:=by subst e;exact⟨.bl k,H,I,rfl,q⟩
theorem Fr:OpR X (Jn .Eq) G1:=by
 intro pins s σ H x y v u Q I rx ry h;obtain⟨hs,q⟩:=h;cases x with
 |JD=>
  cases rx;cases y with
  |JD=>cases ry;exact US (aW I q (by simp))
  |bl j=>cases ry;exact UT (aW I q (by simp))
  |int j=>obtain⟨t',rfl⟩:=ry;exact UU (aW I q (by simp))
  |str j=>obtain⟨t',rfl⟩:=ry;exact UW (aW I q (by simp))
  |_=>exact absurd (show false=true from hs) Hu
 |bl i=>
  cases rx;cases y with
  |JD=>cases ry;exact UX (aW I q (by simp))
  |bl j=>cases ry;exact eq_bool (aW I q yK)
  |str j=>obtain⟨t',rfl⟩:=ry;exact Tu (aW I q (by simp))
  |_=>exact absurd (show false=true from hs) Hu
 |int i=>
  obtain⟨t,rfl⟩:=rx;cases y with
  |JD=>cases ry;exact UY (aW I q (by simp))
  |int j=>obtain⟨t',rfl⟩:=ry;exact eq_int (aW I q uH)
  |str j=>obtain⟨t',rfl⟩:=ry;exact Tv (aW I q (by simp))
  |_=>exact absurd (show false=true from hs) Hu
 |str i=>
  obtain⟨t,rfl⟩:=rx;cases y with
  |JD=>cases ry;exact UZ (aW I q (by simp))
  |bl j=>cases ry;exact Tw (aW I q (by simp))
  |int j=>obtain⟨t',rfl⟩:=ry;exact Tx (aW I q (by simp))
  |str j=>obtain⟨t',rfl⟩:=ry;exact eq_str (aW I q tI)
  |_=>exact absurd (show false=true from hs) Hu
 |Pk i=>
  obtain⟨t,rfl⟩:=rx;cases y with
  |Pk j=>obtain⟨t',rfl⟩:=ry;exact PySem.W.eq_bytes (aW I q uL)
  |_=>exact absurd (show false=true from hs) Hu
 |_=>cases y<;>exact absurd (show false=true from hs) Hu
theorem E1:OpR X (Jn .NotEq) GX:=by
 intro pins s σ H x y v u Q I rx ry h;obtain⟨hs,q⟩:=h;cases x with
 |JD=>
  cases rx;cases y with
  |JD=>cases ry;exact U0 (aW I q (by simp))
  |bl j=>cases ry;exact U1 (aW I q (by simp))
  |int j=>obtain⟨t',rfl⟩:=ry;exact U2 (aW I q (by simp))
  |str j=>obtain⟨t',rfl⟩:=ry;exact U3 (aW I q (by simp))
  |_=>exact absurd (show false=true from hs) Hu
 |bl i=>
  cases rx;cases y with
  |JD=>cases ry;exact U4 (aW I q (by simp))
  |bl j=>cases ry;exact ne_bool (aW I q (congrArg not yK))
  |str j=>obtain⟨t',rfl⟩:=ry;exact Tz (aW I q (by simp))
  |_=>exact absurd (show false=true from hs) Hu
 |int i=>
  obtain⟨t,rfl⟩:=rx;cases y with
  |JD=>cases ry;exact U5 (aW I q (by simp))
  |int j=>obtain⟨t',rfl⟩:=ry;exact ne_int (aW I q (congrArg not uH))
  |str j=>obtain⟨t',rfl⟩:=ry;exact TB (aW I q (by simp))
  |_=>exact absurd (show false=true from hs) Hu
 |str i=>
  obtain⟨t,rfl⟩:=rx;cases y with
  |JD=>cases ry;exact U6 (aW I q (by simp))
  |bl j=>cases ry;exact TC (aW I q (by simp))
  |int j=>obtain⟨t',rfl⟩:=ry;exact TF (aW I q (by simp))
  |str j=>obtain⟨t',rfl⟩:=ry;exact ne_str (aW I q (congrArg not tI))
  |_=>exact absurd (show false=true from hs) Hu
 |Pk i=>
  obtain⟨t,rfl⟩:=rx;cases y with
  |Pk j=>obtain⟨t',rfl⟩:=ry;exact PySem.W.ne_bytes (aW I q (congrArg not uL))
  |_=>exact absurd (show false=true from hs) Hu
 |_=>cases y<;>exact absurd (show false=true from hs) Hu
theorem Cg:OpR X (Jn .Lt) (tV fun i j=> .bl (decide (i<j))):=Dt fun _ _ _ _ _ _ _ q=>lt_int q
theorem xW:OpR X (Jn .Gt) (tV fun i j=> .bl (decide (j<i))):=Dt fun _ _ _ _ _ _ _ q=>gt_int q
theorem FC:OpR X (Jn .GtE) (tV fun i j=> .bl (decide (j<=i))):=Dt fun _ _ _ _ _ _ _ q=>ge_int q
theorem DT:OpR X (Jn .Is) (fun x y H Q=>y= .JD/\Q (.bl (decide (x= .JD))) H):=by
 intro pins s σ H x y v u Q I rx ry h;obtain⟨rfl,q⟩:=h;cases ry;refine is_none_gen (aW I q ?_);cases x<;>first
  |(cases rx;rfl)
  |(obtain⟨t,rfl⟩:=rx;rfl)
theorem uS:OpR X (Jn .IsNot) (fun x y H Q=>y= .JD/\Q (.bl (!decide (x= .JD))) H):=by
 intro pins s σ H x y v u Q I rx ry h;obtain⟨rfl,q⟩:=h;cases ry;refine isnot_none_gen (aW I q ?_);cases x<;>first
  |(cases rx;rfl)
  |(obtain⟨t,rfl⟩:=rx;rfl)
theorem gG (b:HI) {op:P8} (h:op≠ .In:=by decide) (h2:op≠ .NotIn:=by decide):behindInMarks op b=false:=by
 have e1:(op==P8.In)=false:=by cases op<;>first|rfl|exact absurd rfl h
 have e2:(op==P8.NotIn)=false:=by cases op<;>first|rfl|exact absurd rfl h2
 cases b<;>simp[behindInMarks,e1,e2]
theorem iG {op:P8} {r:R2} (ho:OpR X (Jn op) r) (ha:PE X a ta) (hb:PE X b tb) (hm:behindInMarks op b=false):PE X (.Compare a [op] [b] pos) (Ek r ta tb):=by intro pins s σ H Q I h;exact VZ (C4 ha hb I h fun v u s2 x y H2 I2 rx ry q=>ho pins s2 σ H2 x y v u Q I2 rx ry q) hm
def vd (t:TE):TT:=fun σ H Q=>t σ H fun x H'=>∃k,x= .bl k/\Q k H'
theorem eG {op:P8} {r:R2} (ho:OpR X (Jn op) r) (ha:PE X a ta) (hb:PE X b tb) (hm:behindInMarks op b=false):PT X (.Compare a [op] [b] pos) (vd (Ek r ta tb)):=by
 intro pins s σ H Q I h;refine QZ (bF (ha pins s σ H _ I h) fun v s1 ⟨x,H1,I1,r1,q1⟩=>bF (hb pins s1 σ H1 _ I1 q1) fun u s2 ⟨y,H2,I2,r2,q2⟩=>
  bF (ho pins s2 σ H2 x y v u _ I2 r1 r2 q2) fun c s3 ⟨z,H3,I3,r3,k,e,q3⟩=> ?_) hm
 subst e;cases r3;exact JT ⟨H3,I3,q3⟩
theorem nz:(Ht:Nat)<2^63:=by rw[JL];decide
theorem sJ:OpR X (Jj .Add) (fun x y H Q=>∃i j,x= .str i/\y= .str j/\i.length+j.length<=Ht/\Q (.str (i++j)) H):=by intro pins s σ H x y v u Q I rx ry h;obtain⟨i,j,rfl,rfl,hz,q⟩:=h;obtain⟨t,rfl⟩:=rx;obtain⟨t',rfl⟩:=ry;exact add_str (fun t' tk=>⟨.str (i++j),H,I.tok _,⟨_,rfl⟩,q⟩) hz
theorem qu {x:V} {us:List Hg} (r:Vals [x] us):∃u,us=[u]/\RelV x u:=by
 cases r with
 |cons r1 r2=>cases r2;exact⟨_,rfl,r1⟩
theorem mz {x y:V} {us:List Hg} (r:Vals [x,y] us):∃u w',us=[u,w']/\RelV x u/\RelV y w':=by
 cases r with
 |cons r1 r2=>
  cases r2 with
  |cons r3 r4=>cases r4;exact⟨_,_,rfl,r1,r3⟩
theorem vj (hc:X.calm=true):hJ X (.builtin "max") (fun xs H Q=>∃i j,xs=[.int i,.int j]/\Q (.int (if j>i then j else i)) H):=by
 intro pins s σ H xs us Q I r h;obtain⟨i,j,rfl,q⟩:=h;obtain⟨u,w',rfl,⟨t,rfl⟩,⟨t',rfl⟩⟩:=mz r;refine max_two_ints (I.ok.hd hc) fun h' tk k=>⟨_,H,I.kept k,?_,q⟩;by_cases hj:j>i
 ·rw[if_pos hj,if_pos hj];exact⟨_,rfl⟩
 ·rw[if_neg hj,if_neg hj];exact⟨_,rfl⟩
def Fg (K:Hf) (x:V) (H:Hp) (n:Nat):Prop:=
 match x with
 | .str y=>y.length<=Ht/\n=y.length
 | .Pk y=>y.size<=Ht/\n=y.size
 | .ref p=>(∃xs,Lk K H p xs/\n=xs.length)\/∃xs,Lh K H p xs/\n=xs.length
 |_=>False
theorem fq:hJ X (.builtin "len") (fun xs H Q=>∃x n,xs=[x]/\Fg X.K x H n/\Q (.int n) H):=by
 intro pins s σ H xs us Q I r h;obtain⟨x,n,rfl,e,q⟩:=h;obtain⟨u,rfl,rx⟩:=qu r;have hl:=nz;have hs:Ht=16777216:=JL;cases x with
 |str y=>obtain⟨t,rfl⟩:=rx;obtain⟨hy,e'⟩:y.length<=Ht/\n=y.length:=e;subst e';exact len_str (by omega) ⟨.int _,H,I.tok _,⟨_,rfl⟩,q⟩
 |Pk y=>obtain⟨t,rfl⟩:=rx;obtain⟨hy,e'⟩:y.size<=Ht/\n=y.size:=e;subst e';exact PySem.W.len_bytes (by omega) ⟨.int _,H,I.tok _,⟨_,rfl⟩,q⟩
 |ref p=>
  cases rx;have e':(∃xs,Lk X.K H p xs/\n=xs.length)\/∃xs,Lh X.K H p xs/\n=xs.length:=e;rcases e' with⟨xs,hx,e'⟩|⟨xs,hx,e'⟩
  ·subst e';obtain⟨HW,r',pl,hz⟩:=I.list hx;have hlen:=r'.length;exact Calls.call_len_list pl.isList (by simp only[Hs];omega) ⟨.int xs.length,H,I.tok _,⟨_,by simp only[Hs];rw[hlen]⟩,q⟩
  ·subst e';obtain⟨HW,r',pl,hz⟩:=I.tuple hx;have hlen:=r'.length;exact len_tuple pl (by simp only[Hs];omega) ⟨.int xs.length,H,I.tok _,⟨_,by simp only[Hs];rw[hlen]⟩,q⟩
 |_=>exact(show False from e).elim
end
structure aav (h:Heap) (x dx C:Hj) (mA:Str->Option Hg):Prop where
 obj:h.get? x=some (P6 C dx)
 ns:h.Ns1 dx mA
 ne:dx≠x
theorem vQ {h:Heap} {dx:Hj} {mA:Str->Option Hg} (n:h.Ns1 dx mA):∃od,h.get? dx=some od/\∀name,Qm name od=some (mA name):=by
 obtain⟨o,es,ep,ho,hd,hk,_,hm⟩:=n;refine⟨o,ho,fun name=> ?_⟩;have e:=hm name;unfold nsFind findBy at e;rw[<-Pp] at e;unfold Qm;rw[hd];dsimp only;split
 ·rename_i y q;rw[q] at e;exact congrArg some e
 ·rename_i q
  rw[q] at e;have a:es.toList.any (·.refKey)=false:=by rw[List.any_eq_false];intro y hy;obtain⟨z,t,Wf⟩:=hk y (OA.mp hy);simp[TH.refKey,Wf]
  have a':¬es.toList.any (·.refKey)=true:=by rw[a];exact Hu
  rw[if_neg a'];exact congrArg some e
noncomputable def Ed (f:Str) (v:V):List (Str×V)->List (Str×V)
 |[]=>[(f,v)]
 |(g,x)::r=>if g=f then(g,v)::r else(g,x)::Ed f v r
theorem ML.some_of {v:V} {o:Option Hg} (r:ML (some v) o):∃u,o=some u/\RelV v u:=by
 cases o with
 |none=>exact(show False from r).elim
 |some u=>exact⟨u,rfl,r⟩
theorem wx {v:V} {u:Hg} (r:RelV v u):PySem.W.handedIn u=true:=by
 cases v with
 |JD=>cases(show u=Hg.none from r);rfl
 |bl b=>cases(show u=Hg.bool b from r);rfl
 |int i=>obtain⟨t,e⟩:=(show∃t,u=Hg.int i t from r);cases e;rfl
 |str x=>obtain⟨t,e⟩:=(show∃t,u=Hg.str x t from r);cases e;rfl
 |Pk b=>obtain⟨t,e⟩:=(show∃t,u=Hg.bytes b t from r);cases e;rfl
 |Ts b=>obtain⟨t,e⟩:=(show∃t,u=Hg.float b t from r);cases e;rfl
 |ref a=>cases(show u=Hg.ref a from r);rfl
 |ty n=>cases(show u=Hg.type n from r);rfl
structure Uo (K:Hf) (C:Hj):Prop where
 pg:Pq K C Str.empty=true
 hd:KQ K C=true
 po:Pc K C=true
 sa:Ia K (.ref C) "__setattr__"=some (some (.builtin "object.__setattr__"))
def k8 (K:Hf) (C:Hj) (f:Str):Prop:=Ia K (.ref C) f=some none
structure Con (K:Hf) (C:Hj) (f:Str) (v:V) (u:Hg):Prop where
 at_:Ia K (.ref C) f=some (some u)
 rel:RelV v u
 get:J8 K u "__get__"=some none
 cp:PySem.W.copiedNames.contains f=false
structure Meth (K:Hf) (C:Hj) (m:Str) (f:Hj):Prop where
 at_:Ia K (.ref C) m=some (some (.ref f))
 fn:J9 K (.ref f)=true
 kp:Jx K (.ref f)=true
section
variable {X:Cx} {pins:List (Hj×Obj)} {σ:St} {H:Hp} {s:Hi} {a C dx:Hj} {fs:List (Str×V)} {f:Str} {v:V} {A:HM} {E:Hg->Hi->Prop}
theorem zU {prog:Hy} {w:HU} {env:Env} {e:HI} {f:Str} {pos:Pos} {s:Hi} {Q:Hg->Hi->Prop} (hb:attributeBase e f env (eval e env)=eval e env)
  (h:wpAny (model prog w) A (eval e env) (fun o s₁=>wpAny (model prog w) A (getAttr o f true) Q E s₁) E s):wpAny (model prog w) A (eval (.Attribute e f pos) env) Q E s:=
 Attribute_any_ h (by rw[arm_eval_Attribute,hb])
end
def GD (K:Hf) (ta:TE) (f:Str):TE:=fun σ H Q=>ta σ H fun x H1=>∃a C dx fs v,x= .ref a/\H1 a=some (.ins C dx fs)/\Uo K C/\k8 K C f/\fs.lookup f=some v/\Q v H1
def Gr (K:Hf) (ta tv:TE) (f:Str):TS:=fun D σ H=>tv σ H fun y H1=>ta σ H1 fun x H2=>∃a C dx fs,x= .ref a/\H2 a=some (.ins C dx fs)/\Uo K C/\k8 K C f/\fs.length<1000/\
 D.nx σ (aY H2 a (.ins C dx (Ed f y fs)))
section
variable {X:Cx} {pins:List (Hj×Obj)} {σ:St} {H:Hp} {s:Hi} {A:HM} {E:Hg->Hi->Prop} {Q:Hg->Hi->Prop} {c:Hg} {b:Bool}
inductive Nh (K:Hf) (H:Hp):V->Hg->Prop where
 |JD:Nh K H .JD (.type "NoneType")
 |bl (x:Bool):Nh K H (.bl x) (.type "bool")
 |int (i:Int):Nh K H (.int i) (.type "int")
 |str (x:Str):Nh K H (.str x) (.type "str")
 |Ts (x:UInt64):Nh K H (.Ts x) (.type "float")
 |lst {a:Hj} {xs:List V} (e:H a=some (.lst xs)):Nh K H (.ref a) (.type "list")
 |frz {a:Hj} {o:Obj} {xs:List V} (e:H a=some (.frz o (.lst xs))):Nh K H (.ref a) (.type "list")
 |tup {a:Hj} {xs:List V} (e:H a=some (.tup xs)):Nh K H (.ref a) (.type "tuple")
 |dK {a:Hj} {kvs:List (aK×V)} (e:H a=some (.dK kvs)):Nh K H (.ref a) (.type "dict")
 |dT {a:Hj} {kvs:List (List aK×V)} (e:H a=some (.dT kvs)):Nh K H (.ref a) (.type "dict")
 |ins {a C dx:Hj} {fs:List (Str×V)} (e:H a=some (.ins C dx fs)) (cl:Uo K C) (ha:Ia K (.ref C) "__class__"=some (some (.builtin "object.__class__")))
   (hn:J8 K (.builtin "object.__class__") "__get__"=some (some (.builtin "getset_descriptor.__get__"))) (htk:PySem.W.takesIn K (.builtin "object.__class__")=some true)
   (hm:Q0 K C (.type "object")=some true):Nh K H (.ref a) (.ref C)
end
structure JW (k:Nat) (A:HM):Prop where
 hd:A.handled=none
 dp:A.depth+3*k+5<recursionLimit
 un:A.units+16*k+200<cLine
theorem JW.mono {j k:Nat} {A:HM} (r:JW k A) (h:j<=k):JW j A:=⟨r.hd,by have:=r.dp;omega,by have:=r.un;omega⟩
theorem JW.deeper {k:Nat} {A:HM} (r:JW (k+1) A) (env:Env):JW k (A.deeper env):=
 ⟨r.hd,by have:=r.dp;show A.depth+1+3*k+5<_;omega,by have:=r.un;show A.units+3+16*k+200<_;omega⟩
theorem rR {A:HM} {C:Hj} {us:List Hg} {kw:List (Str×Hg)}:(A.under (.builtin "type.__call__" ⟨.ref C::us,kw⟩)).depth=A.depth+1:=by
 first|rfl|simp[HM.under,OB.weight,OB.isCreation,OB.isGuard,OB.isCaller,OB.frames,OB.isFrame,guardIds]
theorem rH {A:HM} {C:Hj} {us:List Hg} {kw:List (Str×Hg)}:(A.under (.builtin "type.__call__" ⟨.ref C::us,kw⟩)).units=A.units+1:=by
 first|rfl|simp[HM.under,OB.cUnits,OB.frames,OB.isFrame]
theorem JW.make {k:Nat} {A:HM} (r:JW (k+1) A) (C:Hj) (us:List Hg) (kw:List (Str×Hg)):JW k (A.under (.builtin "type.__call__" ⟨.ref C::us,kw⟩)):=
 ⟨r.hd,by have:=r.dp;rw[rR];omega,by have:=r.un;rw[rH];omega⟩
theorem JW.depth {k:Nat} {A:HM} (r:JW k A):A.depth<recursionLimit:=by have:=r.dp;omega
theorem JW.units {k:Nat} {A:HM} (r:JW k A):A.units+64<cLine:=by have:=r.un;omega
def l6:TA:=fun _ H Q=>Q [] H
def fy (ta:TE) (tr:TA):TA:=fun σ H Q=>ta σ H fun x H1=>tr σ H1 fun xs H2=>Q (x::xs) H2
section
variable {X:Cx} {e:HI} {es:List HI} {te:TE} {t:TA} {pos:Pos}
theorem az:PA X [] l6:=fun _ _ _ _ H Q I h=>Calls.spliced_nil ⟨[],H,I,.nil,h⟩
theorem af (ha:PE X e te) (hr:PA X es t) (hs:HL (e::es) X.env=(false,eval e X.env)::HL es X.env:=by rfl):PA X (e::es) (fy te t):=by intro pos pins s σ H Q I h;rw[hs];show wpAny _ _ (spliced ((false,eval e X.env)::backTo pos (HL es X.env))) _ _ s;refine Calls.spliced_cons (bF (ha pins s σ H _ I h) fun u s1 ⟨x,H1,I1,r1,q1⟩=> ?_);exact bF (hr pos pins s1 σ H1 _ I1 q1) fun us s2 ⟨xs,H2,I2,r2,q2⟩=>⟨x::xs,H2,I2,.cons r1 r2,q2⟩
def Eu (t:TA):TE:=fun σ H Q=>t σ H fun xs H1=>xs.length<=Ht/\∀p,H1 p=none->Q (.ref p) (aY H1 p (.tup xs))
def Cp (t:TA):TE:=fun σ H Q=>t σ H fun xs H1=>xs.length<=Ht/\∀p,H1 p=none->Q (.ref p) (aY H1 p (.lst xs))
theorem ju {x1} (h:PA X es t):PE X (.Tuple es x1 pos) (Eu t):=by intro pins s σ H Q I hq;refine wpAny_Tuple_spliced (bF (h pos pins s σ H _ I hq) fun us s1 ⟨xs,H1,I1,r,z,q⟩=>⟨by rw[<-r.length];exact z,?_⟩);have hf:H1 s1.heap.objs.size=none:=I1.IW.fresh (Ho _);refine⟨.ref s1.heap.objs.size,aY H1 s1.heap.objs.size (.tup xs),I1.laid (t':=s1.toks) (fun b u e=>Heap.get?_push_of_some _ e) (Ho _) ?_,rfl,q _ hf⟩;exact⟨z,us,r,⟨_,Heap.get?_push_size _ rfl,⟨rfl,_,rfl⟩,rfl⟩⟩
theorem fF (h:PA X es t):PE X (.List es pos) (Cp t):=by intro pins s σ H Q I hq;refine wpAny_List_spliced (bF (h pos pins s σ H _ I hq) fun us s1 ⟨xs,H1,I1,r,z,q⟩=>⟨by rw[<-r.length];exact z,?_⟩);have hf:H1 s1.heap.objs.size=none:=I1.IW.fresh (Ho _);refine⟨.ref s1.heap.objs.size,aY H1 s1.heap.objs.size (.lst xs),I1.laid (t':=s1.toks) (fun b u e=>Heap.get?_push_of_some _ e) (Ho _) ?_,rfl,q _ hf⟩;exact⟨z,us,0,r,Heap.get?_push_size _ rfl⟩
end
abbrev Sp:=List V->Hp->VK->XK->Prop
abbrev uG:=List Env->Hp->Hi->XK->Hg->Hi->Prop
structure Env0 (P:Hy) (w:HU) (K:Hf) (mg:Str->Option Hg) (base:Heap) (A:HM) (outer:List Env) (s:Hi) (H:Hp):Prop where
 frames:A.frames=some outer
 mod:Mod K mg base
 bs:∀b o,base.get? b=some o->s.heap.get? b=some o/\H b=none
 Qi:base.objs.size<=s.heap.objs.size
 LZ:s.heap.FunFrames base outer
 Rb:∀b∈pd outer,H b=none
 IW:LK P w H s.heap
 bare:AllBare s.gens
def CE (outer:List Env) (P:Hy) (w:HU) (H:Hp) (s:Hi) (Q:VK) (u:Hg) (s':Hi):Prop:=
 ∃v H',s'.os=s.os/\AllBare s'.gens/\Un (pd outer) [] H H' s.heap s'.heap/\LK P w H' s'.heap/\RelV v u/\Q v H'
def CR (CX:uG) (outer:List Env) (P:Hy) (w:HU) (H:Hp) (s:Hi) (Q:VK) (E:XK) (r:NN) (s':Hi):Prop:=
 match r with
 | .ok (.ret u)=>CE outer P w H s Q u s'
 | .ok _=>False
 | .error e=>CX outer H s E e s'
structure FnOk (P:Hy) (w:HU) (K:Hf) (mg:Str->Option Hg) (base:Heap) (CX:uG) (k:Nat) (f:Hj) (fd:IB) (ps:List Str) (sp:Sp):Prop where
 len:∀vs H Q E,sp vs H Q E->vs.length=ps.length
 run:∀(A:HM) (outer:List Env) (s:Hi) (H:Hp) (args:Args) (us:List Hg) (vs:List V) (Q:VK) (E:XK),JW k A->Env0 P w K mg base A outer s H->MD s fd args (ps.zip us)->Vals vs us->sp vs H Q E->
  codeAny (model P w) A (.call (.ref f) args) (CR CX outer P w H s Q E) s
theorem FnOk.imp {P:Hy} {w:HU} {K:Hf} {mg:Str->Option Hg} {base:Heap} {CX:uG} {k:Nat} {f:Hj} {fd:IB} {ps:List Str} {sp Xx:Sp} (F:FnOk P w K mg base CX k f fd ps sp)
  (h:∀vs H Q E,Xx vs H Q E->sp vs H Q E):FnOk P w K mg base CX k f fd ps Xx:=
 ⟨fun vs H Q E q=>F.len vs H Q E (h _ _ _ _ q),fun A outer s H args us vs Q E hr he hb hv hs=>F.run A outer s H args us vs Q E hr he hb hv (h _ _ _ _ hs)⟩
theorem Env0.make {P:Hy} {w:HU} {K:Hf} {mg:Str->Option Hg} {base:Heap} {A:HM} {outer:List Env} {s:Hi} {H:Hp} (e:Env0 P w K mg base A outer s H) (C:Hj) (us:List Hg) (kw:List (Str×Hg)):
  Env0 P w K mg base (A.under (.builtin "type.__call__" ⟨.ref C::us,kw⟩)) outer s H:=⟨by first|exact e.frames|(simpa [HM.under,OB.envs,OB.isFrame,pushEnvs] using e.frames),e.mod,e.bs,e.Qi,e.LZ,e.Rb,e.IW,e.bare⟩
section
variable {X:Cx} {pins:List (Hj×Obj)} {σ:St} {H:Hp} {s s':Hi}
theorem Inv.Sj (I:Inv X pins σ H s):Env0 X.prog X.w X.K X.mg X.base X.A X.stack s H:=
 ⟨I.ok.frames,I.ok.mod,I.bs,Il I.ok.Qi I.sz,I.stack,I.MR,I.IW,I.bare⟩
theorem Inv.after {Q:VK} {u:Hg} (I:Inv X pins σ H s) (h:CE X.stack X.prog X.w H s Q u s'):EP X pins σ Q u s':=by obtain⟨v,H',os,bare,un,IW,r,q⟩:=h;obtain⟨hh,g,d,t,os'⟩:=s';obtain rfl:os'=s.os:=os;exact⟨v,H',I.call (h':=hh) (g':=g) (d':=d) (t':=t) (ch:=[]) un IW bare (fun b z=>absurd z (by simp)),r,q⟩
end
def lx (sp:Sp) (OQ:List V) (E:XK) (t:TA):TE:=fun σ H Q=>t σ H fun vs H1=>sp (vs++OQ) H1 Q E
def EI (C:Hj) (m:Str) (sp:Sp) (OQ:List V) (E:XK) (ta:TE) (t:TA):TE:=fun σ H Q=>ta σ H fun x H1=>∃a dx fs,x= .ref a/\H1 a=some (.ins C dx fs)/\fs.lookup m=none/\
 t σ H1 fun vs H2=>sp (x::(vs++OQ)) H2 Q E
def ER (C:Hj) (sp:Sp) (OQ:List V) (E:XK) (t:TA):TE:=fun σ H Q=>t σ H fun vs H1=>∀x dx,H1 x=none->H1 dx=none->dx≠x->
 sp (.ref x::(vs++OQ)) (aY (aY H1 dx (.own x)) x (.ins C dx [])) (fun v H2=>v= .JD/\Q (.ref x) H2) E
def Binds (K:Hf) (fd:IB) (ps:List Str) (ds:List Hg):Prop:=
 ∀(s:Hi) (us:List Hg),K.In s.heap->(us++ds).length=ps.length->MD s fd ⟨us,[]⟩ (ps.zip (us++ds))
theorem Binds.all {K:Hf} {fd:IB} {ps:List Str} (h:∀us:List Hg,us.length=ps.length->bindArgs fd ⟨us,[]⟩=pure (ps.zip us)):Binds K fd ps []:=fun s us _ hl=>by rw[Iv] at hl⊢;exact .of_eq (h us hl)
def sM (CX:uG) (X:Cx) (E:XK):Prop:=∀(pins:List (Hj×Obj)) (σ:St) (H:Hp) (s:Hi) (e:Hg) (s':Hi),Inv X pins σ H s->CX X.stack H s E e s'->X.xe e s'
section
variable {X:Cx} {CX:uG} {k:Nat} {f C:Hj} {fd:IB} {ps:List Str} {sp:Sp} {OQ:List V} {ds:List Hg} {E:XK} {x m:Str} {p pos apos:Pos} {e o:HI} {es:List HI} {ta:TE} {t:TA}
theorem Ci {pins:List (Hj×Obj)} {σ:St} {H:Hp} {s:Hi} {Q:VK} {us:List Hg} {vs:List V} (F:FnOk X.prog X.w X.K X.mg X.base CX k f fd ps sp) (hr:JW k X.A) (hb:Binds X.K fd ps ds) (hd:Vals OQ ds) (hx:sM CX X E)
  (I:Inv X pins σ H s) (r:Vals vs us) (h:sp (vs++OQ) H Q E):wpAny (model X.prog X.w) X.A (call (.ref f) us) (EP X pins σ Q) X.xe s:=by
 have r2:Vals (vs++OQ) (us++ds):=r.append hd;have hl:(us++ds).length=ps.length:=by rw[<-r2.length];exact F.len _ _ _ _ h
 refine MU (LU (F.run X.A X.stack s H ⟨us,[]⟩ (us++ds) (vs++OQ) Q E hr I.Sj (hb s us I.Mj hl) r2 h) fun r s' hq=> ?_);cases r with
 |error e=>exact hx pins σ H s e s' I hq
 |ok fl=>
  cases fl with
  |ret u=>exact I.after hq
  |next=>exact False.elim hq
  |brk=>exact False.elim hq
  |cont=>exact False.elim hq
theorem AY (F:FnOk X.prog X.w X.K X.mg X.base CX k f fd ps sp) (hr:JW k X.A) (hg:Gl X x) (hm:X.mg x=some (.ref f)) (hk:Jx X.K (.ref f)=true) (hb:Binds X.K fd ps ds) (hd:Vals OQ ds) (hx:sM CX X E)
  (ha:PA X (e::es) t) (OI:(x==("__debug__":Str))=false:=by decide) (he:HL (e::es) X.env=(false,eval e X.env)::HL es X.env:=by rfl) (Ov:(backTo pos (HL es X.env)).any (·.1)=false:=by rfl):
  PE X (.Call (.Name x p) (e::es) [] pos) (lx sp OQ E t):=by
 intro pins s σ H Q I h;refine JM (gM I hg hm ?_ OI);refine OC (h₀:=X.base) I.ok.mod.Qv hk (bF (ha pos pins s σ H _ I h) fun us s1 ⟨vs,H1,I1,r,q⟩=>⟨I1.Mj,?_⟩) he Ov;exact Ci F hr hb hd hx I1 r q
structure Mk (K:Hf) (C f:Hj):Prop where
 makes:P9 K C=true
 init:Ia K (.ref C) "__init__"=some (some (.ref f))
 fn:J9 K (.ref f)=true
 kp:Jx K (.ref C)=true
end
section
variable {X:Cx} {CX:uG} {k:Nat} {f C:Hj} {fd:IB} {ps ks:List Str} {sp:Sp} {E:XK} {x m:Str} {p pos apos aco:Pos} {e o:HI} {es:List HI} {kws:List Nq} {te ta:TE} {t tk:TA} {nm:Option Str}
structure W3 (K:Hf) (fd:IB) (ps ks:List Str) (g:List Hg->List Hg->List Hg) (gV:List V->List V->List V):Prop where
 to:∀(s:Hi) (us ws:List Hg),K.In s.heap->(g us ws).length=ps.length->MD s fd ⟨us,ks.zip ws⟩ (ps.zip (g us ws))
 rel:∀{vs:List V} {us:List Hg} {zs:List V} {ws:List Hg},Vals vs us->Vals zs ws->Vals (gV vs zs) (g us ws)
variable {g:List Hg->List Hg->List Hg} {gV:List V->List V->List V}
end
structure JJ (N P:List Str) (sc:JP):Prop where
 kind:sc.kind= .function
 co:sc.isCoroutine=false
 gen:sc.isGenerator=false
 nd:N.Nodup
 pre:N.take P.length=P
 par:∀x∈P,sc.names.lookup x=some .local\/sc.names.lookup x=some .cell
 Sr:∀y∈sc.names,y.2≠ .free
theorem mL {kindOf:Str->Option HG} {x:Str}:∀{binds:List (Str×Hg)} {m:Str->Option Hg},(∀v,(x,v)∉binds)->bindL kindOf binds m x=m x
 |[],_,_=>rfl
 |(n,v)::r,m,h=>by
  unfold bindL;rw[mL fun w hw=>h w (Ic _ hw)];split
  ·have:x≠n:=by rintro rfl;exact h v Ik
   simp[this]
  ·rfl
theorem mj {kindOf:Str->Option HG} {x:Str}:∀{binds:List (Str×Hg)} {m:Str->Option Hg},(∀v,(x,v)∉binds)->bindC kindOf binds m x=m x
 |[],_,_=>rfl
 |(n,v)::r,m,h=>by
  unfold bindC;rw[mj fun w hw=>h w (Ic _ hw)];split
  ·rfl
  ·have:x≠n:=by rintro rfl;exact h v Ik
   simp[this]
theorem mn {kindOf:Str->Option HG} {x:Str} {v:Hg}:∀{P:List Str} {vs:List Hg} {i:Nat} {m:Str->Option Hg},P.Nodup->P[i]? =some x->vs[i]? =some v->kindOf x=some .local->
  bindL kindOf (P.zip vs) m x=some v
 |[],_,_,_,_,h,_,_=>by simp at h
 |_::_,[],_,_,_,_,h,_=>by simp at h
 |p::P,w::vs,0,m,nd,h1,h2,hk=>by simp at h1 h2;subst h1;subst h2;show bindL kindOf ((p,w)::P.zip vs) m p=_;unfold bindL;rw[mL fun v hv=>(Jv.mp nd).1 (Nj hv).1,if_pos hk];simp
 |p::P,w::vs,i+1,m,nd,h1,h2,hk=>by show bindL kindOf ((p,w)::P.zip vs) m x=_;unfold bindL;exact mn (i:=i) (Jv.mp nd).2 (by simpa using h1) (by simpa using h2) hk
theorem mD {kindOf:Str->Option HG} {x:Str} {v:Hg}:∀{P:List Str} {vs:List Hg} {i:Nat} {m:Str->Option Hg},P.Nodup->P[i]? =some x->vs[i]? =some v->kindOf x≠some .local->
  bindC kindOf (P.zip vs) m x=some v
 |[],_,_,_,_,h,_,_=>by simp at h
 |_::_,[],_,_,_,_,h,_=>by simp at h
 |p::P,w::vs,0,m,nd,h1,h2,hk=>by simp at h1 h2;subst h1;subst h2;show bindC kindOf ((p,w)::P.zip vs) m p=_;unfold bindC;rw[mj fun v hv=>(Jv.mp nd).1 (Nj hv).1,if_neg hk];simp
 |p::P,w::vs,i+1,m,nd,h1,h2,hk=>by show bindC kindOf ((p,w)::P.zip vs) m x=_;unfold bindC;exact mD (i:=i) (Jv.mp nd).2 (by simpa using h1) (by simpa using h2) hk
noncomputable def start (N:List Str) (vs:List V):St:=vs.map some++Hl (N.length - vs.length) none
noncomputable def dH (CX:uG) (P:Hy) (w:HU) (K:Hf) (mg:Str->Option Hg) (base:Heap) (N:List Str) (qual:Str) (scope:JP) (f:Hj) (cd:Hg) (A:HM) (outer:List Env) (s:Hi) (H:Hp) (E:XK):Cx where
 prog:=P
 w:=w
 K:=K
 mg:=mg
 base:=base
 A:=A.deeper (envOfC qual scope s.heap.objs.size f cd)
 N:=N
 s₀:=s
 H₀:=H
 env:=envOfC qual scope s.heap.objs.size f cd
 outer:=outer
 stack:=envOfC qual scope s.heap.objs.size f cd::outer
 ex:=[]
 calm:=true
 fn:=fun _=>true
 pn:=[]
 xe:=fun e s'=>wpAny (model P w) (A.deeper (envOfC qual scope s.heap.objs.size f cd)) (leaving (envOfC qual scope s.heap.objs.size f cd) e) (fun _ UL=>CX outer H s E e UL) (fun e' UL=>CX outer H s E e' UL) s'
theorem p7 {sc:JP} {n:Nat} {x:Str} (h:sc.names.lookup x=some .cell):∃c,(Jt n sc.names []).lookup x=some c:=by have q:=Ka sc.names n [] (.inl h);exact NC.mp q
theorem v4 {CX:uG} {P:Hy} {w:HU} {K:Hf} {mg:Str->Option Hg} {base:Heap} {N ps:List Str} {qual:Str} {scope:JP} {f:Hj} {cd:Hg} {A:HM} {outer:List Env} {s s1:Hi} {H:Hp} {E:XK} {us:List Hg} {vs:List V}
  (S:JJ N ps scope) (hd:A.handled=none) (e0:Env0 P w K mg base A outer s H) (hl:vs.length=ps.length) (r:Vals vs us)
  (x:InCallC s s.heap.objs.size (bindL (envOfC qual scope s.heap.objs.size f cd).kindOf (ps.zip us) fun _=>none) (Jt (s.heap.objs.size+1) scope.names []) (bindC (envOfC qual scope s.heap.objs.size f cd).kindOf (ps.zip us) fun _=>none) s1):
  Inv (dH CX P w K mg base N qual scope f cd A outer s H E) [] (start N vs) H s1:=by
 have Ov:ps.length<=N.length:=by have:=congrArg KG S.pre;rw[Ig] at this;omega
 obtain⟨h1,tk,rfl,hk⟩:=x.done;have Uu:∀b:Hj,b∉(dH CX P w K mg base N qual scope f cd A outer s H E).ex:=fun b z=>absurd (show b∈([]:List Hj) from z) (by simp);refine⟨⟨e0.mod,S.kind,rfl,rfl,Ho _,fun y z c h1 h2=> ?_,fun y hy=> ?_,fun y c _ h=> ?_,fun _=>hd,HM.frames_deeper e0.frames,.inr ⟨rfl,rfl⟩,fun b z=>absurd z (Uu b),e0.bs,e0.Qi,fun b _ _=>Uu b,fun b z=>absurd z (Uu b),e0.LZ,e0.Rb⟩,
  rfl,e0.bare,Un.kept hk,⟨_,x.toInCall.ns,fun i y v h1 h2 h3=> ?_⟩,fun y c h=>⟨_,x.cell y c h⟩,e0.IW.fresh (Ho _),fun y c h=> ?_,fun p hp=>absurd (show p∈([]:List (Hj×Obj)) from hp) (by simp),e0.IW.kept hk,?_⟩
 ·exact name_of_addr x.apart (Jk h1) (Jk h2)
 ·have hy:scope.names.lookup y=some .cell\/scope.names.lookup y=some .free:=hy
  rcases hy with hy|hy
  ·exact p7 hy
  ·exact absurd rfl (S.Sr _ (Jk hy))
 ·exact JV (x.above y c (Jk h))
 ·have hi:i<vs.length:=by
   unfold start at h2;by_cases hi:i<vs.length
   ·exact hi
   ·rw[IK (by simpa using hi)] at h2;rw[Kb] at h2;split at h2<;>cases h2
  have ha:vs[i]? =some v:=by
   unfold start at h2;rw[Io (by simpa using hi),Hv] at h2;cases e:vs[i]? with
   |none=>rw[e] at h2;cases h2
   |some a=>rw[e] at h2;cases h2;rfl
  obtain⟨u,hu,rv⟩:=r.get ha;have hp:ps[i]? =some y:=by rw[<-S.pre,List.getElem?_take_of_lt (by omega)];exact h1
  have YC:ps.Nodup:=by rw[<-S.pre];exact S.nd.sublist (List.take_sublist _ _)
  refine⟨u,rv,?_⟩;rcases S.par y (HX hp) with k|k
  ·exact .inl ⟨k,mn YC hp hu k⟩
  ·obtain⟨c,e⟩:=p7 (n:=s.heap.objs.size+1) k;refine .inr ⟨.inl k,c,e,?_⟩;have q:=x.cell y c e;rw[mD YC hp hu (by show scope.names.lookup y≠_;rw[k];decide)] at q;exact q
 ·exact e0.IW.fresh (JV (x.above y c (Jk h)))
 ·unfold start;show _=N.length;rw[Hn,Hk,HE];omega
theorem Cd {CX:uG} {P:Hy} {w:HU} {K:Hf} {mg:Str->Option Hg} {base:Heap} {k:Nat} {f:Hj} {name qual:Str} {params:Arguments} {body:List Js} {scope:JP} {dV kV doc pm Jr ct oc:Hg} {an od:Option Hj}
  {QW:Array (Option Hg)} {N ps:List Str} {sp:Sp} (lk:K.lookup f=some ⟨oc,od,.func (Kc name qual params body scope dV kV doc pm an Jr ct),QW⟩) (Pm:MV K Jr qual=true) (S:JJ N ps scope)
  (len:∀vs H Q E,sp vs H Q E->vs.length=ps.length)
  (KN:∀(A:HM) (outer:List Env) (s:Hi) (H:Hp) (vs:List V) (Q:VK) (E:XK),JW k (A.deeper (envOfC qual scope s.heap.objs.size f Jr))->sp vs H Q E->
   ∃t,MS (dH CX P w K mg base N qual scope f Jr A outer s H E) body t/\t {nx:=fun _ H'=>Q .JD H',rt:=Q} (start N vs) H):
  FnOk P w K mg base CX (k+1) f (Kc name qual params body scope dV kV doc pm an Jr ct) ps sp:=by
 refine⟨len,fun A outer s H args us vs Q E hr e0 hb r Q5=> ?_⟩;have hl:=len _ _ _ _ Q5;have KX:K.In s.heap:=e0.mod.Qv.keeps fun b o e=>(e0.bs b o e).1;have lim:s.heap.NoLimit:=e0.mod.nolimit.keeps fun b o e=>(e0.bs b o e).1;have KY:∀y∈ps.zip us,scope.names.lookup y.1=some .local\/(scope.names.lookup y.1=some .cell/\((Jt (s.heap.objs.size+1) scope.names []).lookup y.1).isSome=true):=fun⟨n,v⟩ hy=>by
  rcases S.par n (Nj hy).1 with q|q
  ·exact .inl q
  ·exact .inr ⟨q,Ka _ _ _ (.inl q)⟩
 refine codeAny_call_function hr.depth (KX _ _ lk) rfl S.co S.gen rfl (PySem.W.codeRec_of KX Pm) (hb _ _ _ _ ?_);refine wpAny_newFunctionEnv_cells S.kind KY fun env he s1 x=> ?_;subst he;refine⟨lim.keeps x.toInCall.keep,codeAny_func ?_⟩;obtain⟨t,ht,hq⟩:=KN A outer s H vs Q E (hr.deeper _) Q5;have I:Inv (dH CX P w K mg base N qual scope f Jr A outer s H E) [] (start N vs) H s1:=v4 S hr.hd e0 hl r x;refine wpAny_mono (ht [] s1 (start N vs) H _ I hq) (fun fl s' hs=> ?_) fun e s' hs=>hs
 have fin:∀{σ':St} {H':Hp} {v:V} {u:Hg},Inv (dH CX P w K mg base N qual scope f Jr A outer s H E) [] σ' H' s'->RelV v u->Q v H'->CE outer P w H s Q u s':=
  fun{σ' H' v u} J rv q=>⟨v,H',J.os,J.bare,J.base,J.IW,rv,q⟩
 cases fl with
 |ret u=>obtain⟨v,σ',H',J,rv,q⟩:=hs;exact fin J rv q
 |next=>obtain⟨σ',H',J,q⟩:=hs;exact fin (v:=V.JD) (u:=Hg.none) J rfl q
 |brk=>obtain⟨_,_,_,q⟩:=hs;exact False.elim q
 |cont=>obtain⟨_,_,_,q⟩:=hs;exact False.elim q
section
variable {X:Cx} {x:Str} {p pos:Pos} {e:HI} {es:List HI} {t:TA} {id T:String} {r:List V->Hp->VK->Prop}
def D8 (r:List V->Hp->VK->Prop) (t:TA):TE:=fun σ H Q=>t σ H fun vs H1=>r vs H1 Q
theorem aN (hc:hJ X (.builtin id) r) (hg:Gl X x) (hm:X.mg x=none) (hv:Iq x=some (.builtin id)) (ha:PA X (e::es) t) (hn:x≠ "__name__":=by decide) (OI:(x==("__debug__":Str))=false:=by decide)
  (he:HL (e::es) X.env=(false,eval e X.env)::HL es X.env:=by rfl) (Ov:(backTo pos (HL es X.env)).any (·.1)=false:=by rfl):PE X (.Call (.Name x p) (e::es) [] pos) (D8 r t):=by
 intro pins s σ H Q I h;refine JM (io I hg hm hv ?_ hn OI);exact U7 (bF (ha pos pins s σ H _ I h) fun us s1 ⟨vs,H1,I1,r1,q1⟩=>hc pins s1 σ H1 vs us Q I1 r1 q1) he Ov
theorem jy (hc:hJ X (.type T) r) (hg:Gl X x) (hm:X.mg x=none) (hv:Iq x=some (.type T)) (ha:PA X (e::es) t) (hn:x≠ "__name__":=by decide) (OI:(x==("__debug__":Str))=false:=by decide)
  (he:HL (e::es) X.env=(false,eval e X.env)::HL es X.env:=by rfl) (Ov:(backTo pos (HL es X.env)).any (·.1)=false:=by rfl):PE X (.Call (.Name x p) (e::es) [] pos) (D8 r t):=by
 intro pins s σ H Q I h;refine JM (io I hg hm hv ?_ hn OI);exact Je (bF (ha pos pins s σ H _ I h) fun us s1 ⟨vs,H1,I1,r1,q1⟩=>hc pins s1 σ H1 vs us Q I1 r1 q1) he Ov
end
end L2
namespace HT
open PySem PyProof.Rows
section
open PySem.SeqAt
open PySem.AutoSeq1 (wpAny_loadPart')
open PySem.MeetsSeq PySem.MeetsSeq2 PySem.MeetsSeq3
end
section
variable {prog:Hy} {w:HU} {A:HM} {E:Hg->Hi->Prop} {s:Hi}
theorem cat_tup {t b:Hj} {vs ws:List Hg} {Q:Hg->Hi->Prop} (ht:IsTup s.heap t vs.toArray) (hb:IsTup s.heap b ws.toArray) (hv:vs≠[])
  (h1:ws=[]->Q (.ref t) s) (h2:ws≠[]->Q (.ref s.heap.objs.size) {s with heap:=s.heap.push {cls:= .type "tuple",data:= .seq (vs++ws).toArray}})
  (hsz:vs.length+ws.length<=Ht):wpAny (model prog w) A (Jj .Add (.ref t) (.ref b)) Q E s:=by
 obtain⟨⟨cls,dd,data,sl⟩,ho,hc,n,hd⟩:=id ht;obtain⟨⟨TZ,RK,data2,Ob⟩,Pl,OJ,n2,hd2⟩:=id hb;simp only at hc hd OJ hd2;subst hc hd OJ hd2;have e:vs.toArray++ws.toArray=(vs++ws).toArray:=by simp
 by_cases hw:ws=[]
 ·exact Qn ⟨_,ho,rfl⟩ ⟨_,Pl,rfl⟩ J5 KO Jl Jf (Jb _ _)
   (tuple_addW1 t b vs.toArray ws.toArray n n2 dd RK sl Ob (by simpa using hv) (by simp[hw])) ⟨ho,Pl,h1 hw⟩
 ·refine Qn ⟨_,ho,rfl⟩ ⟨_,Pl,rfl⟩ J5 KO Jl Jf (Jb _ _)
   (tuple_addW2 t b vs.toArray ws.toArray n n2 dd RK sl Ob (by simpa using hv) (by simpa using hw) (by rw[Hs,Hs];exact hsz)) ⟨ho,Pl,?_⟩
  rw[e];exact h2 hw
noncomputable def sIx (n d:Nat):Option Int->Nat
 |none=>d
 |some v=>if v<0 then(v+(n:Int)).toNat else min v.toNat n
theorem sIx_none (n d:Nat):sIx n d none=d:=rfl
theorem sIx_nat (n d k:Nat):sIx n d (some (k:Int))=min k n:=by show(if(k:Int)<0 then((k:Int)+(n:Int)).toNat else min (k:Int).toNat n)=min k n;rw[if_neg (by omega),IV]
theorem DL (n d:Nat) (hd:d<=n) (o:Option Int):sIx n d o<=n:=by
 cases o with
 |none=>exact hd
 |some v=>
  show(if v<0 then(v+(n:Int)).toNat else min v.toNat n)<=n;by_cases hv:v<0
  ·rw[if_pos hv];omega
  ·rw[if_neg hv];exact MW _ _
theorem u0 (v:Int) (n d:Nat):(if v<0 then max (v+(n:Int)) 0 else min v (n:Int))=((sIx n d (some v):Nat):Int):=by
 show(if v<0 then max (v+(n:Int)) 0 else min v (n:Int))=(((if v<0 then(v+(n:Int)).toNat else min v.toNat n):Nat):Int);by_cases hv:v<0
 ·simp only[if_pos hv];omega
 ·simp only[if_neg hv];omega
theorem sN (lo hi:Option Int) (n:Nat):Builtin.Slice.sliceAdjust lo hi 1 (n:Int)=(((sIx n 0 lo:Nat):Int),((sIx n n hi:Nat):Int)):=by
 have h1:¬((1:Int)<0):=by omega
 unfold Builtin.Slice.sliceAdjust;simp only[h1,if_false];refine Prod.ext ?_ ?_
 ·cases lo with
  |none=>rfl
  |some v=>exact u0 v n 0
 ·cases hi with
  |none=>rfl
  |some v=>exact u0 v n n
theorem sX (i j:Nat):Builtin.Slice.slicePlaces (i:Int) (j:Int) 1=j - i:=by
 unfold Builtin.Slice.slicePlaces;have h1:(1:Int)>0:=by omega
 simp only[h1,if_true,OD];split<;>omega
theorem d5 {v:Hg} {o:Option Int} {Q:Option Int->Hi->Prop} (p:Lq v o) (h:Q o s):wpAny (model prog w) A (Builtin.Slice.slicePartIndex v) Q E s:=by
 cases p with
 |none=>exact slicePart_none h
 |int i t=>exact slicePart_int h
theorem e8 {sl:Hj} {vl vu:Hg} {lo hi:Option Int} {n:Nat} {Q:Int×Int×Nat->Hi->Prop} (hs:s.heap.IsSliceOf sl vl vu .none) (pl:Lq vl lo) (pu:Lq vu hi)
  (h:Q (((sIx n 0 lo:Nat):Int),1,sIx n n hi - sIx n 0 lo) s):wpAny (model prog w) A (Builtin.Slice.sliceApplied (.ref sl) (pure (n:Int))) Q E s:=by
 obtain⟨os,PZ,P1,Q9⟩:=id hs;unfold Builtin.Slice.sliceApplied Builtin.Slice.sliceFields;refine Hh (Hh (IS PZ Q9 (x:=vl) rfl (Hh (IS PZ Q9 (x:=vu) rfl (Hh (IS PZ Q9 (x:= .none) rfl (Hq ?_)))))));refine Hh (slicePart_none ?_);show wpAny _ _ (if((1:Int)==0)=true then _ else _) _ _ s;rw[if_neg (by decide)];refine Hh (d5 pl (Hh (d5 pu (Hh (Hq ?_)))));show wpAny _ _ (match Builtin.Slice.sliceAdjust lo hi 1 (n:Int) with|(lo,hi)=>pure (lo,(1:Int),Builtin.Slice.slicePlaces lo hi 1)) _ _ s;rw[sN lo hi n];show wpAny _ _ (pure (((sIx n 0 lo:Nat):Int),(1:Int),Builtin.Slice.slicePlaces ((sIx n 0 lo:Nat):Int) ((sIx n n hi:Nat):Int) 1)) _ _ s;rw[sX];exact Hq h
theorem xz (xs:Array Hg) (i k:Nat):((HF k).filterMap fun(m:Nat)=>xs[((i:Int)+(m:Int)*1).toNat]?).toArray=((xs.toList.drop i).take k).toArray:=by
 have e:(fun(m:Nat)=>xs[((i:Int)+(m:Int)*1).toNat]?)=fun m=>xs[i+m]? :=by
  funext m;have:((i:Int)+(m:Int)*1).toNat=i+m:=by omega
  rw[this]
 rw[e];have:=pick_run xs i k;rw[Qa] at this;have e2:((fun x=>xs[x]?)∘fun x=>i+x)=fun m=>xs[i+m]? :=rfl;rw[e2] at this;rw[this]
theorem getItem_tuple_cut {t sl:Hj} {items:Array Hg} {vl vu:Hg} {lo hi:Option Int} {Q:Hg->Hi->Prop} (ht:IsTup s.heap t items) (hs:s.heap.IsSliceOf sl vl vu .none) (pl:Lq vl lo) (pu:Lq vu hi)
  (hw:¬(sIx items.size 0 lo=0/\sIx items.size items.size hi=items.size))
  (h:Q (.ref s.heap.objs.size) {s with heap:=s.heap.push {cls:= .type "tuple",data:= .seq ((items.toList.drop (sIx items.size 0 lo)).take (sIx items.size items.size hi - sIx items.size 0 lo)).toArray}})
  (hsz:items.size<=Ht):wpAny (model prog w) A (getItem (.ref t) (.ref sl)) Q E s:=by
 have Mm:sizeOk (.seq ((items.toList.drop (sIx items.size 0 lo)).take (sIx items.size items.size hi - sIx items.size 0 lo)).toArray):=by show((items.toList.drop (sIx items.size 0 lo)).take (sIx items.size items.size hi - sIx items.size 0 lo)).toArray.size<=Ht;rw[Hs,Ig,HY,IM];omega
 have hj:sIx items.size items.size hi<=items.size:=DL _ _ (Ho _) hi;obtain⟨os,PZ,P1,Q9⟩:=id hs;have UA:s.TypeIs (.ref sl) "slice":=⟨os,PZ,P1⟩;unfold getItem
 try with_reducible refine JA ?_
 first|refine Hh (Hq ?_)|skip
 refine Hh (Nr ht.typeIs (by decide) ?_);refine Hh (LJ (name:=Str.ofString "__getitem__") ht.typeIs HS
  (NO HS ht.typeIs entry_tuple_getitem ?_ (args_tuple_getitem _ _)))
 show wpAny _ _ (Builtin.Tuple.tupleItemsOf (.ref t)>>=_) _ _ s;refine Hh (tupleItemsOf_ ht ?_);refine Hh (J6 UA ?_);rw[if_pos (by decide)];refine Hh (e8 hs pl pu ?_);have XA:¬((((sIx items.size 0 lo:Nat):Int)==0&&(1:Int)==1&&(sIx items.size items.size hi - sIx items.size 0 lo)==items.size)=true):=by intro q;rw[Ip,Ip] at q;have q1:((sIx items.size 0 lo:Nat):Int)=0:=eq_of_beq q.1.1;have q2:sIx items.size items.size hi - sIx items.size 0 lo=items.size:=eq_of_beq q.2;exact hw ⟨by omega,by omega⟩
 show wpAny _ _ (if(((sIx items.size 0 lo:Nat):Int)==0&&(1:Int)==1&&(sIx items.size items.size hi - sIx items.size 0 lo)==items.size)=true then _ else _) _ _ s;rw[if_neg XA,xz]
 first
  |exact Hh (m:=Builtin.Tuple.tupleExact _) (II (Hq ⟨_,rfl,Hq h⟩) Mm)
  |exact Hh (m:=Builtin.Tuple.tupleExact _) (II (Hh (Hq (Hq ⟨_,rfl,Hq h⟩))) Mm)
  |exact Hh (Hh (m:=Builtin.Tuple.tupleExact _) (II (Hq (Hq ⟨_,rfl,Hq h⟩)) Mm))
  |exact Hh (Hh (m:=Builtin.Tuple.tupleExact _) (II (Hq ⟨_,rfl,Hq h⟩) Mm))
end
end HT
namespace L2
open PySem PySem.Spec PyProof.Rows
abbrev TO:=St->Hp->(Option Int->Hp->Prop)->Prop
def PO (X:Cx) (e:Option HI) (t:TO):Prop:=
 ∀(pins:List (Hj×Obj)) (s:Hi) (σ:St) (H:Hp) (Q:Option Int->Hp->Prop),Inv X pins σ H s->t σ H Q->
  wpAny (model X.prog X.w) X.A (evalPart e X.env) (fun u s'=>∃o H',Inv X pins σ H' s'/\Lq u o/\Q o H') X.xe s
noncomputable def uq:TO:=fun _ H Q=>Q none H
noncomputable def uR (t:TE):TO:=fun σ H Q=>t σ H fun x H1=>∃i,x= .int i/\Q (some i) H1
section
variable {X:Cx} {e:HI} {te:TE} {lo hi:Option HI} {tl th:TO} {pos p2:Pos}
theorem z4:PO X none uq:=by intro pins s σ H Q I h;rw[MN];exact Hq ⟨none,H,I,.none,h⟩
theorem iY (h:PE X e te):PO X (some e) (uR te):=by intro pins s σ H Q I hw;rw[evalPart_some];refine bF (h pins s σ H _ I hw) fun u s1 ⟨x,H1,I1,r1,q1⟩=> ?_;obtain⟨i,rfl,q⟩:=q1;obtain⟨t,rfl⟩:=r1;exact⟨some i,H1,I1,.int i t,q⟩
def C9 (X:Cx) (r:V->Option Int->Option Int->Hp->VK->Prop):Prop:=
 ∀(pins:List (Hj×Obj)) (s:Hi) (σ:St) (H:Hp) (x:V) (v vl vu:Hg) (lo hi:Option Int) (sl:Hj) (Q:VK),Inv X pins σ H s->RelV x v->s.heap.IsSliceOf sl vl vu .none->Lq vl lo->Lq vu hi->r x lo hi H Q->
  ∃T id,typeLookup (.type T) "__getitem__"=pure (some (.builtin id))/\s.TypeIs v T/\wpAny (model X.prog X.w) X.A (getItem v (.ref sl)) (EP X pins σ Q) X.xe s
def GV (r:V->Option Int->Option Int->Hp->VK->Prop) (te:TE) (tl th:TO):TE:=fun σ H Q=>te σ H fun x H1=>tl σ H1 fun l H2=>th σ H2 fun u H3=>r x l u H3 Q
theorem lg {r:V->Option Int->Option Int->Hp->VK->Prop} (hr:C9 X r) (he:PE X e te) (hl:PO X lo tl) (hu:PO X hi th):PE X (.Subscript e (.Slice lo hi none p2) pos) (GV r te tl th):=by intro pins s σ H Q I h;refine Subscript_ (bF (he pins s σ H _ I h) fun v s1 ⟨x,H1,I1,r1,q1⟩=> ?_);refine Rg (bF (hl pins s1 σ H1 _ I1 q1) fun vl s2 ⟨l,H2,I2,pl,q2⟩=>bF (hu pins s2 σ H2 _ I2 q2) fun vu s3 ⟨u,H3,I3,pu,q3⟩=> ?_);rw[MN];refine Hq ?_;have I4:Inv X pins σ H3 {s3 with heap:=s3.heap.push {cls:= .type "slice",data:= .fields #[vl,vu,.none]}}:=I3.kept (t':=s3.toks) fun b ob q=>Heap.get?_push_of_some _ q;obtain⟨T,id,hT,ht,hg⟩:=hr pins {s3 with heap:=s3.heap.push {cls:= .type "slice",data:= .fields #[vl,vu,.none]}} σ H3 x v vl vu l u s3.heap.objs.size Q I4 r1 (Heap.IsSliceOf.new ..) pl pu q3;show wpAny (model X.prog X.w) X.A (subscriptTail e (.Slice lo hi none p2) v (.ref s3.heap.objs.size)) (EP X pins σ Q) X.xe {s3 with heap:=s3.heap.push {cls:= .type "slice",data:= .fields #[vl,vu,.none]}};exact tail_any (ops:=[.ref s3.heap.objs.size,v]) ht hT hg (by with_unfolding_all rfl)
noncomputable def pQ (xs:List V) (lo hi:Option Int):List V:=(xs.drop (HT.sIx xs.length 0 lo)).take (HT.sIx xs.length xs.length hi - HT.sIx xs.length 0 lo)
theorem jK (xs:List V) (lo hi:Option Int):(pQ xs lo hi).length<=xs.length:=by unfold pQ;rw[Ig,HY];omega
def Fw (K:Hf):V->Option Int->Option Int->Hp->VK->Prop:=fun x lo hi H Q=>∃a xs,x= .ref a/\Lh K H a xs/\
 ¬(HT.sIx xs.length 0 lo=0/\HT.sIx xs.length xs.length hi=xs.length)/\∀p,H p=none->Q (.ref p) (aY H p (.tup (pQ xs lo hi)))
theorem DS:C9 X (Fw X.K):=by
 intro pins s σ H x v vl vu lo hi sl Q I rx hs pl pu h;obtain⟨a,xs,rfl,hx,hw,q⟩:=h;cases rx;obtain⟨HW,r,ht,hz⟩:=I.tuple hx;have hlen:HW.toArray.size=xs.length:=by rw[Hs];exact r.length.symm
 refine⟨"tuple",_,HS.lookup,ht.typeIs,?_⟩;refine HT.getItem_tuple_cut ht hs pl pu (by rw[hlen];exact hw) ?_ (by rw[hlen];exact hz);rw[hlen];refine⟨.ref s.heap.objs.size,_,I.laid (t':=s.toks) (o:= .tup (pQ xs lo hi)) (fun b ob q=>Heap.get?_push_of_some _ q) (Ho _) ?_,rfl,q _ (I.IW.fresh (Ho _))⟩;exact⟨Il (jK xs lo hi) hz,_,(r.drop (HT.sIx xs.length 0 lo)).take (HT.sIx xs.length xs.length hi - HT.sIx xs.length 0 lo),Mq.new _ _⟩
def Bv (K:Hf):R2:=fun x y H Q=>∃a b xs ys,x= .ref a/\y= .ref b/\Lh K H a xs/\Lh K H b ys/\xs≠[]/\xs.length+ys.length<=Ht/\
 (ys=[]->Q (.ref a) H)/\(ys≠[]->∀p,H p=none->Q (.ref p) (aY H p (.tup (xs++ys))))
theorem Vals.N0 {xs:List V} {us:List Hg} (r:Vals xs us):us=[]↔xs=[]:=by
 cases r with
 |nil=>simp
 |cons _ _=>simp
theorem zL:OpR X (Jj .Add) (Bv X.K):=by intro pins s σ H x y v u Q I rx ry h;obtain⟨a,b,xs,ys,rfl,rfl,ha,hb,hx,hz,q1,q2⟩:=h;cases rx;cases ry;obtain⟨HW,r1,p1,_⟩:=I.tuple ha;obtain⟨L6,r2,p2,_⟩:=I.tuple hb;refine HT.cat_tup p1 p2 (fun z=>hx (r1.N0.mp z)) (fun z=>⟨.ref a,H,I,rfl,q1 (r2.N0.mp z)⟩) (fun z=> ?_) (by rw[<-r1.length,<-r2.length];exact hz);refine⟨.ref s.heap.objs.size,_,I.laid (t':=s.toks) (o:= .tup (xs++ys)) (fun b ob q=>Heap.get?_push_of_some _ q) (Ho _) ?_,rfl,q2 (fun w=>z (r2.N0.mpr w)) _ (I.IW.fresh (Ho _))⟩;exact⟨by rw[Hn];exact hz,_,r1.append r2,Mq.new _ _⟩
end
noncomputable def CT (n:Nat) (i:Int):Option Nat:=if 0<=i then(if i<n then some i.toNat else none) else if -(n:Int)<=i then some (i+n).toNat else none
noncomputable def lX {α:Type} (xs:List α) (i:Int):Option α:=(CT xs.length i).bind fun j=>xs[j]?
theorem AL {n:Nat} {i:Int} {j:Nat} (h:CT n i=some j):seqIndex? i n=some j/\j<n/\ -(n:Int)<=i/\i<n:=by
 unfold CT at h;by_cases h0:0<=i
 ·rw[if_pos h0] at h
  by_cases h1:i<n
  ·rw[if_pos h1] at h;have e:i.toNat=j:=HJ h;exact⟨by rw[seqIndex_of h0 h1,e],by omega,by omega,h1⟩
  ·rw[if_neg h1] at h;cases h
 ·rw[if_neg h0] at h
  by_cases h1: -(n:Int)<=i
  ·rw[if_pos h1] at h;have e:(i+n).toNat=j:=HJ h;exact⟨by rw[YX (by omega) h1,e],by omega,h1,by omega⟩
  ·rw[if_neg h1] at h;cases h
theorem nw {α:Type} {xs:List α} {i:Int} {v:α} (h:lX xs i=some v):∃j,seqIndex? i xs.length=some j/\xs[j]? =some v/\j<xs.length/\ -(xs.length:Int)<=i/\i<xs.length:=by
 unfold lX at h;cases e:CT xs.length i with
 |none=>rw[e] at h;cases h
 |some j=>rw[e] at h;obtain⟨h1,h2,h3,h4⟩:=AL e;exact⟨j,h1,h,h2,h3,h4⟩
theorem uh {α:Type} {xs:List α} {j:Nat} {v:α} (h:xs[j]? =some v):lX xs (j:Int)=some v:=by
 have hj:j<xs.length:=(Hm.mp h).1;have e:CT xs.length (j:Int)=some j:=by unfold CT;rw[if_pos (by omega),if_pos (by omega)];simp
 unfold lX;rw[e];exact h
def Bq (b:HI):Prop:=∀o i,subscripted b false o i=operate [o,i] (getItem o i)
def Rm (X:Cx) (r:R2):Prop:=
 ∀(value slice:HI) (pins:List (Hj×Obj)) (s:Hi) (σ:St) (H:Hp) (x y:V) (v u:Hg) (Q:VK),Inv X pins σ H s->RelV x v->RelV y u->r x y H Q->
  subscripted slice false v u=operate [v,u] (getItem v u)->wpAny (model X.prog X.w) X.A (subscriptTail value slice v u) (EP X pins σ Q) X.xe s
def Gy (X:Cx) (id:String) (r:V->List V->Hp->VK->Prop):Prop:=
 ∀(pins:List (Hj×Obj)) (s:Hi) (σ:St) (H:Hp) (x:V) (xs:List V) (v:Hg) (us:List Hg) (Q:VK),Inv X pins σ H s->RelV x v->Vals xs us->r x xs H Q->
  wpAny (model X.prog X.w) X.A (call (.builtin id) (v::us)) (EP X pins σ Q) X.xe s
section
variable {X:Cx} {a b:HI} {ta tb:TE} {pos:Pos}
theorem Rm.or {r r':R2} (h:Rm X r) (h':Rm X r'):Rm X (fun x y H Q=>r x y H Q\/r' x y H Q):=by
 intro value slice pins s σ H x y v u Q I rx ry q hs;rcases q with q|q
 ·exact h value slice pins s σ H x y v u Q I rx ry q hs
 ·exact h' value slice pins s σ H x y v u Q I rx ry q hs
theorem my {r:R2} (hr:Rm X r) (ha:PE X a ta) (hb:PE X b tb) (hs:Bq b):PE X (.Subscript a b pos) (Ek r ta tb):=by intro pins s σ H Q I h;exact Subscript_ (C4 ha hb I h fun v u s2 x y H2 I2 rx ry q=>hr a b pins s2 σ H2 x y v u Q I2 rx ry q (hs _ _))
def Ex (K:Hf):R2:=fun x y H Q=>∃p xs i v,x= .ref p/\y= .int i/\Lk K H p xs/\lX xs i=some v/\Q v H
def ET (K:Hf):R2:=fun x y H Q=>∃p xs i v,x= .ref p/\y= .int i/\Lh K H p xs/\lX xs i=some v/\Q v H
def Es:R2:=fun x y H Q=>∃z i c,x= .str z/\y= .int i/\z.length<=Ht/\lX z.cps.toList i=some c/\Q (.str ⟨#[c]⟩) H
theorem Br:Rm X (Ex X.K):=by
 intro value slice pins s σ H x y v u Q I rx ry h hs;obtain⟨p,xs,i,z,rfl,rfl,hq,he,q⟩:=h;cases rx;obtain⟨t,rfl⟩:=ry;obtain⟨HW,r,pl,hz⟩:=I.list hq;obtain⟨j,h1,h2,h3,h4,h5⟩:=nw he;obtain⟨w,ew,Ro⟩:=r.get h2;have hl:=r.length;have hn:=nz;have fin:EP X pins σ Q w s:=⟨z,H,I,Ro,q⟩;by_cases h0:0<=i
 ·have hj:i.toNat=j:=by
   rw[seqIndex_of h0 h5] at h1;exact HJ h1
  exact item_listR pl.isList h0 (by omega) (by rw[hj];simpa using ew) fin hs
 ·have hj:(i+(HW.toArray.size:Int)).toNat=j:=by
   rw[YX (by omega) h4] at h1;rw[Hs,<-hl];exact HJ h1
  exact subscriptTail_builtinR (x:=w) pl.isList.typeIs SY.lookup
   (wpAny_getItem_list_neg (Q:=fun r s'=>r=w/\EP X pins σ Q r s') pl.isList (by omega) (by rw[Hs]<;>omega) (by omega) (by rw[hj];simpa using ew) ⟨rfl,fin⟩) hs
theorem Dw:Rm X (ET X.K):=by
 intro value slice pins s σ H x y v u Q I rx ry h hs;obtain⟨p,xs,i,z,rfl,rfl,hq,he,q⟩:=h;cases rx;obtain⟨t,rfl⟩:=ry;obtain⟨HW,r,pl,hz⟩:=I.tuple hq;obtain⟨j,h1,h2,h3,h4,h5⟩:=nw he;obtain⟨w,ew,Ro⟩:=r.get h2;have hl:=r.length;have hn:=nz;have fin:EP X pins σ Q w s:=⟨z,H,I,Ro,q⟩;exact subscriptTail_builtinR (x:=w) pl.typeIs slot_tuple_getitem.lookup
  (getItem_tuple (j:=j) (Q:=fun r s'=>r=w/\EP X pins σ Q r s') pl (by omega) (by omega) (by rw[Hs,<-hl];exact h1) (by simpa using ew) ⟨rfl,fin⟩) hs
theorem CO:Rm X Es:=by
 intro value slice pins s σ H x y v u Q I rx ry h hs;obtain⟨z,i,c,rfl,rfl,hz,he,q⟩:=h;obtain⟨t,rfl⟩:=rx;obtain⟨t',rfl⟩:=ry;obtain⟨j,h1,h2,h3,h4,h5⟩:=nw he;have hl:z.cps.toList.length=z.length:=by simp[Str.length]
 rw[hl] at h1 h4 h5;have hn:=nz;exact tail_any (R8 s z t) slot_str_getitem.lookup (getItem_str (c:=c) (by have e1:decide (i< -(2^63:Int))=false:=decide_eq_false (by omega);have e2:decide (i≥2^63)=false:=decide_eq_false (by omega);rw[e1,e2,R9]) (by rw[h1];simpa using h2) ⟨.str ⟨#[c]⟩,H,I.tok _,⟨_,rfl⟩,q⟩) hs
def Gs (K:Hf):R2:=fun x y H Q=>Ex K x y H Q\/ET K x y H Q\/Es x y H Q
theorem jB:Rm X (Gs X.K):=Br.or (Dw.or CO)
theorem o2 (lo hi:Option Int) (n:Nat):(sliceBounds lo hi none n).1=((HT.sIx n 0 lo:Nat):Int)/\(sliceBounds lo hi none n).2.1=((HT.sIx n n hi:Nat):Int)/\(sliceBounds lo hi none n).2.2=1:=by
 refine⟨?_,?_,rfl⟩
 ·cases lo with
  |none=>simp[sliceBounds,HT.sIx]
  |some i=>
   simp only[sliceBounds,HT.sIx,Qb,show(1:Int)>0 by decide,if_true];by_cases h:i<0
   ·simp only[h,if_true]<;>omega
   ·simp only[h,if_false]<;>omega
 ·cases hi with
  |none=>simp[sliceBounds,HT.sIx]
  |some i=>
   simp only[sliceBounds,HT.sIx,Qb,show(1:Int)>0 by decide,if_true];by_cases h:i<0
   ·simp only[h,if_true]<;>omega
   ·simp only[h,if_false]<;>omega
theorem lZ (HW:List Hg) (lo hi:Option Int):slicePick HW.toArray lo hi none=((HW.drop (HT.sIx HW.length 0 lo)).take (HT.sIx HW.length HW.length hi - HT.sIx HW.length 0 lo)).toArray:=by obtain⟨h1,h2,h3⟩:=o2 lo hi HW.toArray.size;unfold slicePick;rw[h1,h2,h3];simp only[sliceRange_one,pick_run,Hs]<;>rfl
def EB (K:Hf):V->Option Int->Option Int->Hp->VK->Prop:=fun x lo hi H Q=>∃a xs,x= .ref a/\Lk K H a xs/\∀p,H p=none->Q (.ref p) (aY H p (.lst (pQ xs lo hi)))
theorem zN:C9 X (EB X.K):=by intro pins s σ H x v vl vu lo hi sl Q I rx hs pl pu h;obtain⟨a,xs,rfl,hx,q⟩:=h;cases rx;obtain⟨HW,r,ht,hz⟩:=I.list hx;have hlen:=r.length;refine⟨"list",_,SY.lookup,ht.isList.typeIs,?_⟩;refine Pr ht.isList hs pl pu .none (by simp) ?_ (by rw[Hs]<;>omega);rw[lZ,<-hlen];refine⟨.ref s.heap.objs.size,_,I.laid (t':=s.toks) (o:= .lst (pQ xs lo hi)) (fun b ob q=>Heap.get?_push_of_some _ q) (Ho _) ?_,rfl,q _ (I.IW.fresh (Ho _))⟩;exact⟨Il (jK xs lo hi) hz,_,0,(r.drop (HT.sIx xs.length 0 lo)).take (HT.sIx xs.length xs.length hi - HT.sIx xs.length 0 lo),Heap.get?_push_size _ rfl⟩
theorem nA:hJ X (.type "list") (fun xs H Q=>∃p ys,xs=[.ref p]/\(Lk X.K H p ys\/Lh X.K H p ys)/\∀l,H l=none->Q (.ref l) (aY H l (.lst ys))):=by
 intro pins s σ H xs us Q I r h;obtain⟨p,ys,rfl,hq,q⟩:=h;obtain⟨u,rfl,rx⟩:=qu r;cases rx
 have fin:∀(HW:List Hg),Vals ys HW->ys.length<=Ht->∀(h':Heap) (c':Nat),(∀b o',s.heap.get? b=some o'->h'.get? b=some o')->
   h'.get? s.heap.objs.size=some {cls:= .type "list",dict:=none,data:= .seq HW.toArray c',slots:= #[]}->EP X pins σ Q (.ref s.heap.objs.size) {s with heap:=h'}:=fun HW r' hz h' c' kp e=>
  ⟨.ref s.heap.objs.size,_,I.laid (t':=s.toks) kp (Ho _) (show ObjOk X.prog X.w _ h' _ (.lst ys) from⟨hz,HW,c',r',e⟩),rfl,q _ (I.IW.fresh (Ho _))⟩
 rcases hq with hq|hq
 ·obtain⟨HW,r',pl,hz⟩:=I.list hq;have hlen:=r'.length;obtain⟨o,ho,hc,n,hd⟩:=pl.isList;exact XU p (.inl rfl) ho hc hd (fun h' c' kp e=>fin HW r' hz h' c' kp e) (by simp only[Hs]<;>omega)
 ·obtain⟨HW,r',pl,hz⟩:=I.tuple hq;have hlen:=r'.length;obtain⟨o,ho,hc,n,hd⟩:=pl;exact XU p (.inr rfl) ho hc hd (fun h' c' kp e=>fin HW r' hz h' c' kp e) (by simp only[Hs]<;>omega)
theorem g9:hJ X (.type "tuple") (fun xs H Q=>∃p ys,xs=[.ref p]/\((Lk X.K H p ys/\∀l,H l=none->Q (.ref l) (aY H l (.tup ys)))\/(Lh X.K H p ys/\Q (.ref p) H))):=by
 intro pins s σ H xs us Q I r h;obtain⟨p,ys,rfl,h⟩:=h;obtain⟨u,rfl,rx⟩:=qu r;cases rx;rcases h with⟨hq,q⟩|⟨hq,q⟩
 ·obtain⟨HW,r',pl,hz⟩:=I.list hq
  have hlen:=r'.length;refine call_tuple_list pl.isList (fun h' kp=> ?_) (by simp only[Hs]<;>omega);have I1:Inv X pins σ H {s with heap:=h'}:=I.kept (t':=s.toks) kp
  have I2:Inv X pins σ (aY H h'.objs.size (.tup ys)) {s with heap:=h'.push {cls:= .type "tuple",data:= .seq HW.toArray}}:=
   I1.laid (t':=s.toks) (fun b o e=>Heap.get?_push_of_some _ e) (Ho _) (show ObjOk X.prog X.w _ _ _ (.tup ys) from⟨hz,HW,r',Mq.new _ _⟩)
  exact⟨.ref h'.objs.size,_,I2,rfl,q _ (I1.IW.fresh (Ho _))⟩
 ·obtain⟨HW,r',pl,hz⟩:=I.tuple hq;exact call_tuple_same pl ⟨.ref p,H,I,rfl,q⟩
def GM (K:Hf) (T:String) (x:V) (H:Hp):Prop:=match x with
 | .str _=>T= "str"
 | .int _=>T= "int"
 | .ref p=>(T= "list"/\∃xs,Lk K H p xs)\/(T= "tuple"/\∃o,K.lookup p=some o/\o.cls= .type "tuple"/\o.dict=none)\/
   (T= "dict"/\((∃kvs,H p=some (.dK kvs))\/∃kvs,H p=some (.dT kvs)))\/(T= "set"/\∃S n,H p=some (.set S n))
 |_=>False
theorem CU {pins:List (Hj×Obj)} {σ:St} {H:Hp} {s:Hi} {T:String} {x:V} {v:Hg} (I:Inv X pins σ H s) (r:RelV x v) (ty:GM X.K T x H):
  s.TypeIs v T/\∀a,v= .ref a->∃ob,s.heap.get? a=some ob/\ob.dict=none:=by
 cases x with
 |str z=>obtain⟨t,rfl⟩:=r;cases(show T= "str" from ty);exact⟨R8 s z t,fun _ e=>nomatch e⟩
 |int i=>obtain⟨t,rfl⟩:=r;cases(show T= "int" from ty);exact⟨MX s i t,fun _ e=>nomatch e⟩
 |ref p=>
  cases r;rcases ty with⟨rfl,xs,hq⟩|⟨rfl,o,hk,hc,hd⟩|⟨rfl,hk⟩|⟨rfl,S,n,hk⟩
  ·obtain⟨HW,_,pl,_⟩:=I.list hq;refine⟨pl.isList.typeIs,fun a e=> ?_⟩;cases e;obtain⟨o,n,e,c,hd,_⟩:=pl;exact⟨o,e,hd⟩
  ·refine⟨⟨o,I.Mj p o hk,hc⟩,fun a e=> ?_⟩;cases e;exact⟨o,I.Mj _ o hk,hd⟩
  ·have z:∃o,s.heap.get? p=some o/\o.ExactDict:=by
    rcases hk with⟨kvs,hk⟩|⟨kvs,hk⟩
    ·obtain⟨_,_,_,_,o,_,_,e,ex,_⟩:=I.IW p _ hk;exact⟨o,e,ex⟩
    ·obtain⟨_,_,_,_,o,_,_,e,ex,_⟩:=I.IW p _ hk;exact⟨o,e,ex⟩
   obtain⟨o,e,ex⟩:=z;refine⟨⟨o,e,ex.1⟩,fun a e2=> ?_⟩;cases e2;exact⟨o,e,ex.2.1⟩
  ·obtain⟨o,_,_,_,e,ex,_⟩:=I.IW p _ hk;refine⟨⟨o,e,ex.1⟩,fun a e2=> ?_⟩;cases e2;exact⟨o,e,ex.2.1⟩
 |_=>exact False.elim ty
def E9 (K:Hf) (T:String) (r:V->List V->Hp->VK->Prop) (to:TE) (t:TA):TE:=fun σ H Q=>to σ H fun x H1=>GM K T x H1/\t σ H1 fun xs H2=>r x xs H2 Q
variable {o e:HI} {es:List HI} {to:TE} {t:TA} {name:Str} {apos KD:Pos} {T id:String} {r:V->List V->Hp->VK->Prop}
theorem tL (pa:PlainAttrs T) (slot:Slot T name id) (hty:typeOf (.builtin id)=pure (.type "method_descriptor")) (hm:Gy X id r) (ho:PE X o to) (ha:PA X (e::es) t)
  (M9:attributeBase o name X.env (eval o X.env)=eval o X.env:=by rfl)
  (Xz:((backTo KD (HL (e::es) X.env)).all (fun x=> !x.1)&&(backToKw KD (keywordEach [] X.env)).all (fun x=>x.1.isSome)
   &&decide ((e::es).length+([]:List Nq).length+(if([]:List Nq).isEmpty then 0 else 1)<30))=true:=by rfl)
  (UP:(apos.endLine==KD.line)=true:=by rfl) (hs:HL (e::es) X.env=(false,eval e X.env)::HL es X.env:=by rfl) (OZ:(backTo KD (HL es X.env)).any (·.1)=false:=by rfl):
  PE X (.Call (.Attribute o name apos) (e::es) [] KD) (E9 X.K T r to t):=by
 intro pins s σ H Q I h;refine wpAny_Call_method_late M9 Xz UP rfl (bF (ho pins s σ H _ I h) fun v s1 ⟨x,H1,I1,r1,ty,q1⟩=> ?_);obtain⟨h1,h2⟩:=CU I1 r1 ty;refine⟨T,id,pa,slot,hty,h1,h2,?_⟩;have hA:=ha KD pins s1 σ H1 _ I1 q1;rw[hs] at hA⊢;refine Calls.callWith_builtin (by show(false||(backTo KD (HL es X.env)).any (·.1))=false;rw[OZ]<;>rfl) (Calls.evalArgs_plain ?_);exact bF hA fun us s2 ⟨vs,H2,I2,r2,q2⟩=>hm pins s2 σ H2 x vs v us Q I2 r1 r2 q2
end
def GU (X:Cx) (id:String) (r:V->List V->Hp->VK->Prop):Prop:=
 ∀(pins:List (Hj×Obj)) (s:Hi) (σ:St) (H:Hp) (x:V) (xs:List V) (v:Hg) (us:List Hg) (Q:VK),Inv X pins σ H s->RelV x v->Vals xs us->r x xs H Q->
  wpAny (model X.prog X.w) X.A (call (.builtin id) (v::us)) (EP X pins σ Q) X.xe s
theorem Vals.one:∀{x:V} {us:List Hg},Vals [x] us->∃u,us=[u]/\RelV x u
 |_,_,.cons r .nil=>⟨_,rfl,r⟩
theorem Vals.rep {xs:List V} {us:List Hg} (h:Vals xs us):∀k:Nat,Vals (Hl k xs).flatten (Hl k us).flatten
 |0=> .nil
 |k+1=>by rw[Im,Im,JN,JN];exact Vals.append h (Vals.rep h k)
theorem jw (HW:List Hg):∀(k:Nat) (acc:List Hg),
  KR (fun x1 x2=>x1++x2) acc.toArray (Hl k HW.toArray)=(acc++(Hl k HW).flatten).toArray
 |0,acc=>by simp
 |k+1,acc=>by
  have e:acc.toArray++HW.toArray=(acc++HW).toArray:=by simp
  have e2:(acc++HW)++(Hl k HW).flatten=acc++(Hl (k+1) HW).flatten:=by rw[Im,JN,K5]
  rw[<-e2,<-jw HW k (acc++HW),<-e,Im,Nk]
section
variable {X:Cx} {pins:List (Hj×Obj)} {σ:St} {H:Hp} {s:Hi} {l b:Hj} {xs ys zs:List V}
theorem Inv.Um {HW its':List Hg} {n:Nat} {f:Array Hg->Array Hg} {t':Nat} (I:Inv X pins σ H s) (hH:H l=some (.lst xs))
  (e:s.heap.get? l=some {cls:= .type "list",data:= .seq HW.toArray n}) (hf:f HW.toArray=its'.toArray) (hv:Vals ys its') (hz:ys.length<=Ht):
  Inv X pins σ (aY H l (.lst ys)) {s with heap:=s.heap.update l (Obj.mapSeq f),toks:=t'}:=by
 have q:=YY e f;rw[hf] at q;refine I.write (x:=l) (e:=l) (by rw[hH];exact trivial) (.inl rfl) (fun b' u hb hu=>(Heap.get?_update_other s.heap (Obj.mapSeq f) (Ne.symm hb)).trans hu) ⟨_,q⟩ ?_;exact⟨hz,its',_,hv,q⟩
theorem Inv.Ua {HW:List Hg} {t':Nat} (I:Inv X pins σ H s) (hv:Vals ys HW) (hz:ys.length<=Ht):
  Inv X pins σ (aY H s.heap.objs.size (.lst ys)) {s with heap:=s.heap.push {cls:= .type "list",data:= .seq HW.toArray},toks:=t'}:=
 I.laid (fun _ _ q=>Heap.get?_push_of_some _ q) (Ho _) ⟨hz,HW,0,hv,Heap.get?_push_size _ rfl⟩
theorem Inv.fresh (I:Inv X pins σ H s):H s.heap.objs.size=none:=I.IW.fresh (Ho _)
theorem Inv.SD (I:Inv X pins σ H s) (hH:H l=some (.lst xs)):xs.length<=Ht/\∃(HW:List Hg) (n:Nat),Vals xs HW/\xs.length=HW.length/\s.heap.get? l=some {cls:= .type "list",data:= .seq HW.toArray n}:=by obtain⟨z,HW,n,r,e⟩:=I.IW l _ hH;exact⟨z,HW,n,r,r.length,e⟩
theorem xq {n:Nat} (h:n<=Ht):Builtin.List.listTooLong n=false:=by unfold Builtin.List.listTooLong;exact decide_eq_false (by omega)
end
section
variable {X:Cx}
def nO:V->List V->Hp->VK->Prop:=fun x vs H Q=>∃l xs y,x= .ref l/\vs=[y]/\H l=some (.lst xs)/\xs.length<Ht/\Q .JD (aY H l (.lst (xs++[y])))
theorem jz:GU X "list.append" nO:=by intro pins s σ H x vs v us Q I rx rv h;obtain⟨l,xs,y,rfl,rfl,hH,hz,q⟩:=h;cases rx;obtain⟨u,rfl,ru⟩:=rv.one;obtain⟨z,HW,n,r,hl,e⟩:=I.SD hH;refine JB F.slot_list_append ⟨_,e,rfl⟩ F.entry_list_append (F.args_list_append_2 _ _) (PySem.list_append l HW.toArray n u (by rw[Hs];omega)) ⟨e,?_⟩;refine⟨.JD,_,I.Um (its':=HW++[u]) hH e (by simp) (r.append (.cons ru .nil)) ?_,rfl,q⟩;rw[Hn,IE];omega
theorem uE {α:Type} (xs:List α) (k:Nat):(Hl k xs).flatten.length=k*xs.length:=by
 induction k with
 |zero=>simp
 |succ k ih=>rw[Im,JN,Hn,ih,TJ,Nat.add_comm]
end
section
variable {prog:Hy} {w:HU} {A:HM} {E:Hg->Hi->Prop} {s:Hi}
set_option maxRecDepth 100000 in
end
end L2
namespace Att
open PySem PySem.W PySem.Calls PyProof.Rows
theorem jT {P:Params} {h:Heap}:∀(ns:List Int) (vs:List Hg),WellAll P h vs (ns.map WData.int)->IntsAre vs ns:=by
 intro ns
 induction ns with
 |nil=>intro vs w;rw[ME] at w;cases w;exact .nil
 |cons n ns ih=>
  intro vs w;rw[HH] at w;cases w with
  |cons a b=>cases a;exact .cons _ _ (ih _ b)
theorem vS {l:OpenLaw} {n:Nat} (hn:l.most=some n) {P:Params} {h:Heap} {args:List WData} {vals:List Hg}
  (Rq:l.row.toRowW.claim.pre args=true) (QL:WellAll P h vals args):
  ∃a vs ns,vals=[Hg.ref a]/\args=[WData.list (ns.map WData.int)]/\h.get? a=some {cls:= .type "list",data:= .seq vs.toArray}/\IntsAre vs ns/\ns.length<=n:=by
 have hsh:WShape.hasAll [] args [.list .int]=true:=(pre_splitW Rq).1;have hc:l.pre.holds [] {args:=args}=true:=(pre_splitW Rq).2;obtain⟨d,r,rfl,h1,h2⟩:=hasAllW_cons hsh;obtain rfl:=hasAllW_nil h2;obtain⟨xs,rfl,h3⟩:=hasW_list h1;obtain⟨ns,rfl⟩:=items_int h3;have hlen:ns.length<=n:=by
  unfold OpenLaw.pre at hc;have h4:(WTm.not (.lt (.lit (.int (n:Int))) (.len (.arg 0)))).holds [] {args:=[.list (ns.map .int)]}=true:=by have h4:=(holds_andW hc).1;rw[hn] at h4;exact h4
  have h5:=condW_of h4 (w_not (w_lt w_lit (w_len_list (w_arg rfl))));rw[Hk] at h5;refine Nat.le_of_not_lt fun q=> ?_;have q':(n:Int)<((ns.length:Nat):Int):=by omega
  first
   |(rw[decide_eq_true q'] at h5;exact absurd h5 (by decide))
   |(simp at h5;omega)
 cases QL with
 |cons w1 w2=>
  cases w2;cases w1 with
  |list ho So=>exact⟨_,_,ns,rfl,rfl,ho,jT ns _ So,hlen⟩
theorem vW (l:OpenLaw) (args:List WData):l.row.toRowW.claim.post args (.bool true) args=true:=
 postW_of (r:=l.row.toRowW) (X:=(true==true))
  (show WShape.has [] (.bool true) .bool=true by first|rfl|decide|simp[WShape.has,WShape.arms,WShape.armsAll])
  (show(WTm.eq .res (.lit (.bool true))).value [] {args:=args,res:=some (.bool true),after:=args}=some (.bool (true==true)) from w_eq_bool (w_res rfl) w_lit) rfl
theorem attach_call {l:OpenLaw} {n:Nat} {q:Hy} {loose:List Str} {XP:(Str->Option Hg)->Heap->Prop} {YP:HU->Heap->Prop} {d:DefRec}
  (hn:l.most=some n) (Xk:d.params.defaults=[])
  (call:∀(w:HU) (s₀ s₁:Hi) (mg mb:Str->Option Hg) (fa:Hj) (o:Obj) (pm cd doc:Hg) (a:Hj) (vs:List Hg) (ns:List Int),
   Ground q loose [] XP w s₀ mg mb s₁.heap->YP w s₁.heap->
   s₁.heap.get? fa=some o->o.data= .func (docDef d.name d.params d.body d.scope pm cd doc)->s₁.heap.CodeRec cd d.name->mg d.name=some (.ref fa)->
   s₁.heap.get? a=some {cls:= .type "list",data:= .seq vs.toArray}->IntsAre vs ns->ns.length<=n->s₁.gens= #[]->
   codeAny (model l.prog w) callerA (.call (.ref fa) ⟨[.ref a],[]⟩) (fun r s'=>r= .ok (.ret (.bool true))/\OldK s₁.heap s'.heap/\s'.os=s₁.os/\AllBare s'.gens) s₁):
  WalkO q loose XP YP l.row.toRowW d [] (fun f vs=>TK f vs):=by
 intro w s₀ s₁ mg mb G Y fa o pm cd doc dV kV ho hd Pm hD UR hg args vals as Rq Zm YK QL S4;obtain rfl:dV= .none:=Dflts.none hD Xk;obtain rfl:kV= .none:=Dflts.noKw hD;obtain⟨a,vs,ns,rfl,rfl,Sx,hints,hlen⟩:=vS hn Rq QL;refine enter_call (LU (call w s₀ s₁ mg mb fa o pm cd doc a vs ns G Y ho (fd_plain hd) Pm UR Sx hints hlen hg) fun r s' hq=> ?_);obtain⟨rfl,h2,h3,h4⟩:=hq;exact⟨.inl ⟨.bool true,.bool true,[],rfl,fun _=>rfl,.bool true,vW l _,fun _=>⟨ND,fun _ hm=>(nomatch hm)⟩⟩,h2,h3,h4⟩
end Att
namespace L2
open PySem PySem.Spec PyProof.Rows
theorem mO:∀{vs:List Hg} {ns:List Int},IntsAre vs ns->Vals (ns.map V.int) vs
 |_,_,.nil=> .nil
 |_,_,.cons n t h=> .cons ⟨t,rfl⟩ (mO h)
def Fa (H:Hp):Prop:=∀b,H b=none\/∃o xs,H b=some (.frz o (.lst xs))
theorem wQ {P:Hy} {w:HU} {K:Hf} {mg mb:Str->Option Hg} {CX:uG} {k:Nat} {fa a:Hj} {fd:IB} {x:Str} {sp:Sp} {s₁:Hi} {vs:List Hg} {ns:List Int}
  (KX:K.In s₁.heap) (Oj:s₁.heap.Ns Hw mg) (hb:s₁.heap.Ns builtinsNs mb) (TQ:∀x:Str,x≠ "__name__"->mb x=Iq x) (Sm:s₁.heap.NoLimit) (hg:s₁.gens= #[])
  (ha:s₁.heap.get? a=some {cls:= .type "list",data:= .seq vs.toArray}) (hi:IntsAre vs ns) (hl:ns.length<=Ht) (hr:JW k callerA)
  (F:∀base:Heap,K.In base->base.Ns Hw mg->FnOk P w K mg base CX k fa fd [x] sp) (Qz:∀(s:Hi) (u:Hg),MD s fd ⟨[u],[]⟩ [(x,u)])
  (Q5:∀H:Hp,Fa H->Lk K H a (ns.map V.int)->sp [.ref a] H (fun v _=>v= .bl true) fun _ _ _=>False)
  (hCX:∀H e s',CX [] H s₁ (fun _ _ _=>False) e s'->False):
  codeAny (model P w) callerA (.call (.ref fa) ⟨[.ref a],[]⟩) (fun r s'=>r= .ok (.ret (.bool true))/\OldK s₁.heap s'.heap/\s'.os=s₁.os/\AllBare s'.gens) s₁:=by
 have rv:=mO hi;have XD:=hi.length
 have core:∀H:Hp,Fa H->Lk K H a (ns.map V.int)->LK P w H s₁.heap->(∀b,H b≠none->b=a)->(H a≠none->K.lookup a=none)->
   codeAny (model P w) callerA (.call (.ref fa) ⟨[.ref a],[]⟩) (fun r s'=>r= .ok (.ret (.bool true))/\OldK s₁.heap s'.heap/\s'.os=s₁.os/\AllBare s'.gens) s₁:=by
  intro H hO hS IW hA hK;have Pn:∀{b:Hj} {o:Obj},s₁.heap.get? b=some o->H b=none->(oK s₁.heap H).get? b=some o:=fun e n=>yl e n;have Uu:∀{b:Hj} {o:Obj} {es:Array TH} {ep:Nat},s₁.heap.get? b=some o->o.data= .dict es ep->H b=none:=fun{b o es ep} e d=>by
   cases q:H b with
   |none=>rfl
   |some u=>have e':b=a:=hA b (by rw[q];simp);subst e';rw[ha] at e;cases e;have d':Tt.seq vs.toArray _=Tt.dict es ep:=d;cases d'
  have VM:∀{b:Hj} {m:Str->Option Hg},s₁.heap.Ns b m->(oK s₁.heap H).Ns b m:=fun{b m} ⟨o,es,ep,e,d,r⟩=>⟨o,es,ep,Pn e (Uu e d),d,r⟩;have Yw:K.In (oK s₁.heap H):=fun b o e=>Pn (KX b o e) (by
   cases q:H b with
   |none=>rfl
   |some u=>have e':b=a:=hA b (by rw[q];simp);subst e';rw[hK (by rw[q];simp)] at e;cases e)
  have hM:Mod K mg (oK s₁.heap H):=⟨Yw,VM Oj,⟨mb,VM hb,TQ⟩,let⟨mc,h1,h2⟩:=Sm;⟨mc,VM h1,h2⟩⟩;have e0:Env0 P w K mg (oK s₁.heap H) callerA [] s₁ H:=⟨rfl,hM,fun b o e=>AF e,Nat.le_of_eq (wu _ _),trivial,fun b hb=>absurd (show b∈([]:List Hj) from hb) (by simp),IW,.of_eq hg⟩;refine LU ((F _ Yw (VM Oj)).run callerA [] s₁ H ⟨[.ref a],[]⟩ [.ref a] [.ref a] _ _ hr e0 (Qz s₁ (.ref a)) (.cons rfl .nil) (Q5 H hO hS)) fun r s' h=> ?_;cases r with
  |error e=>exact(hCX H e s' h).elim
  |ok fl=>
   cases fl with
   |next=>exact False.elim h
   |brk=>exact False.elim h
   |cont=>exact False.elim h
   |ret u=>
    obtain⟨v,H',os,bare,un,XM,r',q⟩:=h;have q':v= .bl true:=q;subst q';obtain rfl:u=Hg.bool true:=r';refine⟨rfl,OldK.of_keep fun b o e=> ?_,os,bare⟩;cases q:H b with
    |none=>exact un.keep b o e q (by intro z;exact absurd (show b∈([]:List Hj) from z) (by simp)) (by simp)
    |some u=>
     rcases hO b with z|⟨ob,xs,z⟩
     ·rw[q] at z;cases z
     ·have z2:=un.Ml b ob _ z;obtain⟨e1,_⟩:=IW b _ z;obtain⟨e2,_⟩:=XM b _ z2;rw[e] at e1;cases e1;exact e2
 cases hk:K.lookup a with
 |some o=>have e:=KX a o hk;rw[ha] at e;cases e;refine core (fun _=>none) (fun _=> .inl rfl) (.inr ⟨_,vs.toArray,_,hk,rfl,rfl,rfl,by rw[Hs,XD];exact hl,by simpa using rv⟩) (fun b u z=>by have z':(none:Option HO)=some u:=z;cases z') (fun b z=>absurd rfl z) fun z=>absurd rfl z
 |none=>
  refine core (fun b=>if b=a then some (.frz {cls:= .type "list",data:= .seq vs.toArray} (.lst (ns.map V.int))) else none) (fun b=> ?_) (.inl (.inr ⟨{cls:= .type "list",data:= .seq vs.toArray},if_pos rfl⟩)) (fun b u z=> ?_) (fun b z=> ?_) fun _=>hk
  ·by_cases hb:b=a
   ·exact .inr ⟨_,_,if_pos hb⟩
   ·exact .inl (if_neg hb)
  ·by_cases hb:b=a
   ·have z':=(if_pos hb).symm.trans z;cases z';subst hb;exact⟨ha,by rw[Hk];exact hl,vs,_,rv,ha⟩
   ·have z':=(if_neg hb).symm.trans z;cases z'
  ·by_cases hb:b=a
   ·exact hb
   ·exact absurd (if_neg hb) z
noncomputable def nW (s:Js) (j:Nat):Js:=match s with
 | .ClassDef _ _ _ body _ _ _ _ _ _ _=>body.getD j (.Pass ⟨0,0,0,0⟩)
 |_=> .Pass ⟨0,0,0,0⟩
noncomputable def iL (s:Js):Arguments:=match s with
 | .FunctionDef _ a _ _ _ _ _ _ _ _=>a
 |_=>{posonlyargs:=[],args:=[],vararg:=none,kwonlyargs:=[],kw_defaults:=[],kwarg:=none,defaults:=[]}
noncomputable def bQ (s:Js):List Js:=match s with
 | .FunctionDef _ _ b _ _ _ _ _ _ _=>b
 |_=>[]
noncomputable def aq (s:Js):JP:=match s with
 | .FunctionDef _ _ _ _ _ _ sc _ _ _=>sc
 |_=>{kind:= .function,names:=[],isGenerator:=false,isCoroutine:=false}
noncomputable abbrev ez:uG:=fun _ _ _ _ _ _=>False
noncomputable abbrev E0:XK:=fun _ _ _=>False
theorem BL {X:Cx}:sM ez X E0:=fun _ _ _ _ _ _ _ h=>h.elim
structure Lc (K:Hf) (x qual:Str) (st:Js) (f:Hj) (fd:IB):Prop where
 ex:∃(oc:Hg) (od:Option Hj) (kV doc pm:Hg) (an:Option Hj) (Jr ct:Hg) (QW:Array (Option Hg)),
  fd=Kc x qual (iL st) (bQ st) (aq st) .none kV doc pm an Jr ct/\K.lookup f=some ⟨oc,od,.func fd,QW⟩/\MV K Jr qual=true
 kp:Jx K (.ref f)=true
section
variable {P:Hy} {w:HU} {K:Hf} {mg:Str->Option Hg} {base:Heap}
theorem Lc.ok {x qual:Str} {st:Js} {f:Hj} {fd:IB} {N ps:List Str} {k:Nat} {sp:Sp} (F:Lc K x qual st f fd) (S:JJ N ps (aq st)) (len:∀vs H Q E,sp vs H Q E->vs.length=ps.length)
  (KN:∀(Jr:Hg) (A:HM) (outer:List Env) (s:Hi) (H:Hp) (vs:List V) (Q:VK) (E:XK),JW k (A.deeper (envOfC qual (aq st) s.heap.objs.size f Jr))->sp vs H Q E->
   ∃t,MS (dH ez P w K mg base N qual (aq st) f Jr A outer s H E).Q6 (bQ st) t/\t {nx:=fun _ H'=>Q .JD H',rt:=Q} (start N vs) H):FnOk P w K mg base ez (k+1) f fd ps sp:=by
 obtain⟨oc,od,kV,doc,pm,an,Jr,ct,QW,rfl,lk,Pm⟩:=F.ex;refine Cd lk Pm S len fun A outer s H vs Q E hr Q5=> ?_;obtain⟨t,h,q⟩:=KN Jr A outer s H vs Q E hr Q5;exact⟨t,h.Q6,q⟩
theorem Lc.binds {x qual:Str} {st:Js} {f:Hj} {fd:IB} {ps:List Str} (F:Lc K x qual st f fd)
  (h:∀(kV doc pm:Hg) (an:Option Hj) (Jr ct:Hg) (us:List Hg),us.length=ps.length->bindArgs (Kc x qual (iL st) (bQ st) (aq st) .none kV doc pm an Jr ct) ⟨us,[]⟩=pure (ps.zip us)):Binds K fd ps []:=by
 obtain⟨oc,od,kV,doc,pm,an,Jr,ct,QW,rfl,lk,Pm⟩:=F.ex;exact .all (h kV doc pm an Jr ct)
theorem yc {x qual:Str} {st:Js} {f:Hj} {oc:Hg} {od an:Option Hj} {QW:Array (Option Hg)} {kV doc pm Jr ct:Hg} (l:K.lookup f=some ⟨oc,od,.func (Kc x qual (iL st) (bQ st) (aq st) .none kV doc pm an Jr ct),QW⟩)
  (c:MV K Jr qual=true) (k:Jx K (.ref f)=true):Lc K x qual st f (Kc x qual (iL st) (bQ st) (aq st) .none kV doc pm an Jr ct):=⟨⟨oc,od,kV,doc,pm,an,Jr,ct,QW,rfl,l,c⟩,k⟩
end
theorem yM {A:HM} {k:Nat} (hr:JW k A):A.units+1<cLine:=Qo (Nat.add_le_add_left (by decide:1<=64) _) hr.units
section
variable {X:Cx}
theorem pv (i:Nat) {x:Str} {pos:Pos} (hN:X.N[i]? =some x:=by rfl) (hv:F1 X.env.scope x:=by first|exact Or.inl rfl|exact Or.inr (Or.inl rfl)|exact Or.inr (Or.inr rfl)) (hd:(x==("__debug__":Str))=false:=by decide)
  (Pm:(x==("__classdict__":Str))=false:=by decide):PE X (.Name x pos) (mY i):=Dz hN hv hd Pm
end
def IX (H H':Hp):Prop:=∀b o,H b=some o->H' b=some o
theorem IX.refl (H:Hp):IX H H:=fun _ _ h=>h
theorem IX.trans {H H1 H2:Hp} (a:IX H H1) (b:IX H1 H2):IX H H2:=fun c o h=>b c o (a c o h)
theorem IX.free {H H':Hp} (e:IX H H') {l:Hj} (h:H' l=Oo):H l=Oo:=by
 cases q:H l with
 |none=>rfl
 |some o=>rw[e l o q] at h;cases h
end L2
set_option maxHeartbeats 4000000
namespace L2
open PySem PySem.Spec PyProof.Rows
mutual
inductive DV (K:Hf) (H:Hp):V->Hr->Prop
 |JD:DV K H .JD .none
 |bl (b:Bool):DV K H (.bl b) (.bool b)
 |int (i:Int):DV K H (.int i) (.int i)
 |str (x:Str):DV K H (.str x) (.str x)
 |tup {a:Hj} {xs:List V} {ds:List Hr}:Lh K H a xs->Jm K H xs ds->DV K H (.ref a) (.tuple ds)
 |lst {a:Hj} {xs:List V} {ds:List Hr}:Lk K H a xs->Jm K H xs ds->DV K H (.ref a) (.list ds)
inductive Jm (K:Hf) (H:Hp):List V->List Hr->Prop
 |nil:Jm K H [] []
 |cons {v:V} {vs:List V} {d:Hr} {ds:List Hr}:DV K H v d->Jm K H vs ds->Jm K H (v::vs) (d::ds)
end
section
variable {X:Cx} {pins:List (Hj×Obj)} {σ:St} {H:Hp} {s:Hi}
mutual
theorem DV.reads (I:Inv X pins σ H s):∀{v:V} {d:Hr} {u:Hg},DV X.K H v d->RelV v u->∃as,Reads s.heap u d as
 |_,_,_,.JD,r=>by cases r;exact⟨_,.none⟩
 |_,_,_,.bl b,r=>by cases r;exact⟨_,.bool b⟩
 |_,_,_,.int i,r=>by obtain⟨t,rfl⟩:=r;exact⟨_,.int i t⟩
 |_,_,_,.str x,r=>by obtain⟨t,rfl⟩:=r;exact⟨_,.str x t⟩
 |_,_,_,.tup h hs,r=>by cases r;obtain⟨HW,rv,⟨o,e,c,n,d⟩,_⟩:=I.tuple h;obtain⟨as,q⟩:=Jm.reads I hs rv;exact⟨_,.tuple e c d (by simpa using q)⟩
 |_,_,_,.lst h hs,r=>by cases r;obtain⟨HW,rv,⟨o,n,e,c,_,d⟩,_⟩:=I.list h;obtain⟨as,q⟩:=Jm.reads I hs rv;exact⟨_,.list e c d (by simpa using q)⟩
theorem Jm.reads (I:Inv X pins σ H s):∀{vs:List V} {ds:List Hr} {us:List Hg},Jm X.K H vs ds->Vals vs us->∃as,ReadsAll s.heap us ds as
 |_,_,_,.nil,r=>by cases r;exact⟨_,.nil⟩
 |_,_,_,.cons h hs,r=>by
  cases r with
  |cons r1 r2=>obtain⟨as,q⟩:=DV.reads I h r1;obtain⟨bs,q2⟩:=Jm.reads I hs r2;exact⟨_,.cons q q2⟩
end
end
def Al (K:Hf) (neg:Bool):R2:=fun x y H Q=>∃dx dy,DV K H x dx/\DV K H y dy/\dx.canLay0=true/\dy.canLay0=true/\dx.depth<=64/\Q (.bl (if neg then !Hr.eqv dx dy else Hr.eqv dx dy)) H
section
variable {X:Cx}
theorem rQ (hu:X.A.units+64<cLine):OpR X (Jn .Eq) (Al X.K false):=by intro pins s σ H x y v u Q I rx ry h;obtain⟨dx,dy,h1,h2,l1,l2,hd,q⟩:=h;obtain⟨as,r1⟩:=h1.reads I rx;obtain⟨bs,r2⟩:=h2.reads I ry;exact V3 r1 r2 l1 l2 (by omega) ⟨.bl _,H,I,rfl,q⟩
theorem Dk (hu:X.A.units+64<cLine):OpR X (Jn .NotEq) (Al X.K true):=by intro pins s σ H x y v u Q I rx ry h;obtain⟨dx,dy,h1,h2,l1,l2,hd,q⟩:=h;obtain⟨as,r1⟩:=h1.reads I rx;obtain⟨bs,r2⟩:=h2.reads I ry;exact V4 r1 r2 l1 l2 (by omega) ⟨.bl _,H,I,rfl,q⟩
theorem lB:OpR X (Jj .FloorDiv) (rI (fun _ j=>0<j/\j.natAbs.log2<9000) fun i j=> .int (i/j)):=Gd fun i j _ _ _ _ _ hc q=>by have h1:(0:Int)<j:=hc.1;exact floordiv_int (by omega) (by rw[Int.fdiv_eq_ediv_of_nonneg i (by omega)];exact q) (.inl (PyProof.noPylong_of_log2 hc.2))
end
noncomputable def eA (env:Env):List (Str×HG)->List (Str×Hj)->List (Str×Hj)
 |[],acc=>acc
 |(n,k)::r,acc=>if(k==HG.free)=true then(match env.cells.lookup n with|some c=>eA env r ((n,c)::acc)|none=>eA env r acc) else eA env r acc
theorem ie {env:Env} {f:Str×HG->List (Str×Hj)->Sem (ForInStep (List (Str×Hj)))}
  (h1:∀n k acc,(k==HG.free)=false->f (n,k) acc=pure (.yield acc)) (h2:∀n c acc,env.cells.lookup n=some c->f (n,.free) acc=pure (.yield ((n,c)::acc))):
  ∀(names:List (Str×HG)) (acc:List (Str×Hj)),(∀y∈names,y.2= .free->∃c,env.cells.lookup y.1=some c)->forIn names acc f=pure (eA env names acc)
 |[],acc,_=>rfl
 |(n,k)::r,acc,h=>by
  have hr:∀y∈r,y.2= .free->∃c,env.cells.lookup y.1=some c:=fun y hy=>h y (Ic _ hy);rw[List.forIn_cons];cases hk:(k==HG.free) with
  |false=>rw[h1 n k acc hk,pure_bind];show forIn r acc f=_;rw[ie h1 h2 r acc hr];simp only[eA,hk,KS,if_false]
  |true=>
   have e:k= .free:=by simpa using hk
   subst e;obtain⟨c,hc⟩:=h _ Ik rfl;rw[h2 n c acc hc,pure_bind];show forIn r ((n,c)::acc) f=_;rw[ie h1 h2 r _ hr];have Oy:env.cells.lookup n=some c:=hc;simp only[eA,hk,if_true,Oy]
theorem kM {env:Env} {scope:JP} (h:∀y∈scope.names,y.2= .free->∃c,env.cells.lookup y.1=some c):closureFor scope env=pure (eA env scope.names []):=by simp only[closureFor];rw[ie (env:=env) (fun n k acc hk=>by simp only[hk,KS,if_false]) (fun n c acc hc=>by simp only[beq_self_eq_true,if_true,cellOf,hc,pure_bind]) scope.names [] h,pure_bind]
theorem gl {env:Env}:∀(names:List (Str×HG)) (acc:List (Str×Hj)),(∀x c,acc.lookup x=some c->env.cells.lookup x=some c)->∀x c,(eA env names acc).lookup x=some c->env.cells.lookup x=some c
 |[],_,h,x,c,e=>h x c e
 |(n,k)::r,acc,h,x,c,e=>by
  unfold eA at e;split at e
  ·split at e
   ·rename_i c' Oy
    refine gl r _ (fun y d q=> ?_) x c e;rw[Iz] at q;split at q
    ·rename_i hy;cases q;rw[eq_of_beq hy];exact Oy
    ·exact h y d q
   ·exact gl r acc h x c e
  ·exact gl r acc h x c e
theorem gU {env:Env}:∀(names:List (Str×HG)) (acc:List (Str×Hj)) (x:Str),(acc.lookup x).isSome=true->((eA env names acc).lookup x).isSome=true
 |[],_,_,h=>h
 |(n,k)::r,acc,x,h=>by
  unfold eA;split
  ·split
   ·refine gU r _ x ?_
    rw[Iz];split
    ·rfl
    ·exact h
   ·exact gU r acc x h
  ·exact gU r acc x h
theorem iQ {env:Env}:∀(names:List (Str×HG)) (acc:List (Str×Hj)) (x:Str) (c:Hj),(x,HG.free)∈names->env.cells.lookup x=some c->((eA env names acc).lookup x).isSome=true
 |[],_,_,_,h,_=>by cases h
 |(n,k)::r,acc,x,c,h,hc=>by
  rcases Ie.mp h with z|h
  ·cases z;simp only[eA,beq_self_eq_true,if_true,hc];exact gU r _ _ (by simp[Iz])
  ·unfold eA
   split
   ·split
    ·exact iQ r _ x c h hc
    ·exact iQ r acc x c h hc
   ·exact iQ r acc x c h hc
theorem qL {env:Env} {names:List (Str×HG)} {x:Str} {c:Hj} (h:(x,HG.free)∈names) (hc:env.cells.lookup x=some c):(eA env names []).lookup x=some c:=by
 have q:=iQ names [] x c h hc;cases e:(eA env names []).lookup x with
 |none=>rw[e] at q;cases q
 |some d=>have z:=gl names [] (fun y d q=>by cases q) x d e;rw[hc] at z;exact z.symm
theorem qC {env:Env} {scope:JP} {x:Str} {k:HG} (h:(relabel scope env).names.lookup x=some k):∃k0,(x,k0)∈scope.names/\(k=k0\/(k0= .free/\k= .cell)):=by
 obtain⟨⟨n,k0⟩,hm,e⟩:=IL.mp (Jk h);simp only at e;split at e
 ·rename_i hc
  cases e;have hk:(k0==HG.free)=true:=by rw[Ip,Ip] at hc;exact hc.1.1
  exact⟨k0,hm,.inr ⟨by simpa using hk,rfl⟩⟩
 ·cases e;exact⟨_,hm,.inl rfl⟩
theorem fU {env:Env}:∀{names:List (Str×HG)} {x:Str},names.lookup x=some .free->
  (names.map fun(n,k)=>if(k==HG.free&&env.scope.kind== .function&&env.kindOf n==some .cell) then(n,HG.cell) else(n,k)).lookup x=some .cell\/
  (names.map fun(n,k)=>if(k==HG.free&&env.scope.kind== .function&&env.kindOf n==some .cell) then(n,HG.cell) else(n,k)).lookup x=some .free
 |[],_,h=>by cases h
 |(n,k)::r,x,h=>by
  rw[Iz] at h;rw[HH];dsimp only;by_cases hc:(k==HG.free&&env.scope.kind== .function&&env.kindOf n==some .cell)=true
  ·rw[if_pos hc,Iz]
   cases hx:x==n with
   |true=>exact .inl rfl
   |false=>rw[hx] at h;exact fU h
  ·rw[if_neg hc,Iz]
   cases hx:x==n with
   |true=>rw[hx] at h;exact .inr h
   |false=>rw[hx] at h;exact fU h
noncomputable def da (own:List Str) (fv:List (Str×Nat)):List Str:=own++fv.map (·.1)
noncomputable def jm (own:List Str) (fv:List (Str×Nat)) (σ:St):St:=own.map (fun _=>none)++fv.map fun p=>(σ[p.2]?).join
def OT (X:Cx) (scope:JP):List (Str×Nat)->Prop
 |[]=>True
 |p::r=>(X.N[p.2]? =some p.1/\scope.names.lookup p.1=some .free/\(X.env.scope.names.lookup p.1=some .cell\/X.env.scope.names.lookup p.1=some .free))/\OT X scope r
theorem OT.mem {X:Cx} {scope:JP}:∀{fv:List (Str×Nat)},OT X scope fv->∀p∈fv,X.N[p.2]? =some p.1/\scope.names.lookup p.1=some .free/\(X.env.scope.names.lookup p.1=some .cell\/X.env.scope.names.lookup p.1=some .free)
 |[],_,p,hp=>by cases hp
 |q::r,h,p,hp=>by
  rcases Ie.mp hp with z|hp
  ·rw[z];exact h.1
  ·exact h.2.mem p hp
noncomputable def nV (X:Cx) (scope:JP) (C:Hj):List (Str×Hj):=Jt (C+1) scope.names (eA X.env scope.names [])
theorem kz:∀(names:List (Str×HG)) (n:Nat) (acc:List (Str×Hj)) (x:Str) (c:Hj),(Jt n names acc).lookup x=some c->(n<=c/\(x,HG.cell)∈names)\/acc.lookup x=some c
 |[],_,_,_,_,h=> .inr h
 |(y,k)::r,n,acc,x,c,h=>by
  unfold Jt at h;by_cases hk:(k==HG.cell)=true
  ·rw[if_pos hk] at h
   have e:k= .cell:=by simpa using hk
   rcases kz r _ _ x c h with⟨h1,h2⟩|h1
   ·exact .inl ⟨K9 h1,Ic _ h2⟩
   ·rw[Iz] at h1
    split at h1
    ·rename_i hy;cases h1;exact .inl ⟨Ho _,by rw[eq_of_beq hy,e];exact Ik⟩
    ·exact .inr h1
  ·rw[if_neg hk] at h
   rcases kz r _ _ x c h with⟨h1,h2⟩|h1
   ·exact .inl ⟨h1,Ic _ h2⟩
   ·exact .inr h1
theorem zi:∀(names:List (Str×HG)) (n:Nat) (acc:List (Str×Hj)) (x:Str),(x,HG.cell)∉names->(Jt n names acc).lookup x=acc.lookup x
 |[],_,_,_,_=>rfl
 |(y,k)::r,n,acc,x,h=>by
  have hr:(x,HG.cell)∉r:=fun z=>h (Ic _ z);unfold Jt;by_cases hk:(k==HG.cell)=true
  ·have e:k= .cell:=by simpa using hk
   rw[if_pos hk,zi r _ _ x hr,Iz];have hy:(x==y)=false:=by refine beq_eq_false_iff_ne.mpr fun z=>h ?_;rw[z,e];exact Ik
   rw[hy]
  ·rw[if_neg hk];exact zi r _ _ x hr
theorem lH:∀(names:List (Str×HG)) (h:Heap) (acc:List (Str×Hj)) (x:Str) (c:Hj),(Jt h.objs.size names acc).lookup x=some c->(h.objs.size<=c/\(pushCells h names).IsCell c none)\/acc.lookup x=some c
 |[],_,_,_,_,e=> .inr e
 |(y,k)::r,h,acc,x,c,e=>by
  unfold Jt at e;unfold pushCells;by_cases hk:(k==HG.cell)=true
  ·rw[if_pos hk] at e⊢
   rw[<-Heap.size_push h {cls:= .type "cell",data:= .cell none}] at e;rcases lH r _ _ x c e with⟨h1,h2⟩|h1
   ·rw[Heap.size_push] at h1;exact .inl ⟨K9 h1,h2⟩
   ·rw[Iz] at h1
    split at h1
    ·cases h1;exact .inl ⟨Ho _,_,N8 _ _ _ _ (Heap.get?_push_size _ rfl),rfl⟩
    ·exact .inr h1
  ·rw[if_neg hk] at e⊢;exact lH r _ _ x c e
theorem rJ:∀(names:List (Str×HG)) (n:Nat) (acc:List (Str×Hj)),(∀x c,acc.lookup x=some c->c<n)->(∀x y c,acc.lookup x=some c->acc.lookup y=some c->x=y)->∀x y c,(Jt n names acc).lookup x=some c->(Jt n names acc).lookup y=some c->x=y
 |[],_,_,_,h2,x,y,c,e1,e2=>h2 x y c e1 e2
 |(z,k)::r,n,acc,h1,h2,x,y,c,e1,e2=>by
  unfold Jt at e1 e2;by_cases hk:(k==HG.cell)=true
  ·rw[if_pos hk] at e1 e2
   refine rJ r (n+1) ((z,n)::acc) (fun a d q=> ?_) (fun a b d q1 q2=> ?_) x y c e1 e2
   ·rw[Iz] at q
    split at q
    ·cases q;exact MY _
    ·exact Q1 (h1 a d q)
   ·rw[Iz] at q1 q2
    split at q1
    ·rename_i ha
     split at q2
     ·rename_i hb;rw[eq_of_beq ha,eq_of_beq hb]
     ·cases q1;exact absurd (h1 b _ q2) (IT _)
    ·split at q2
     ·cases q2;exact absurd (h1 a _ q1) (IT _)
     ·exact h2 a b d q1 q2
  ·rw[if_neg hk] at e1 e2;exact rJ r n acc h1 h2 x y c e1 e2
theorem rG:∀{names:List (Str×HG)} {x:Str} {k k':HG},(names.map (·.1)).Nodup->names.lookup x=some k->(x,k')∈names->k=k'
 |[],_,_,_,_,h,_=>by cases h
 |(y,j)::r,x,k,k',hn,h,hm=>by
  rw[HH,Jv] at hn;rw[Iz] at h;rcases Ie.mp hm with e|Te
  ·cases e;rw[beq_self_eq_true] at h;exact(HJ h).symm
  ·cases hx:x==y with
   |true=>rw[eq_of_beq hx] at Te;exact absurd (IL.mpr ⟨_,Te,rfl⟩) hn.1
   |false=>rw[hx] at h;exact rG hn.2 h Te
noncomputable def cf (X:Cx) (s:Hi) (H:Hp) (scope:JP) (C:Hj) (N:List Str) (fp:List Hj):Cx:=
 {X with N:=N,s₀:=s,H₀:=H,env:=compEnvC scope (nV X scope C) C X.env,outer:=X.stack,stack:=X.stack,ex:=fp,fn:=fun x=>((eA X.env scope.names []).lookup x).isNone,pn:=[],xe:=fun _ _=>False}
section
variable {X:Cx} {pins:List (Hj×Obj)} {σ:St} {H:Hp} {s:Hi}
theorem mh {scope:JP} (I:Inv X pins σ H s) {x:Str} {c:Hj} (e:(eA X.env scope.names []).lookup x=some c):X.env.cells.lookup x=some c/\c<s.heap.objs.size:=by have h:=gl _ _ (fun _ _ q=>by cases q) x c e;obtain⟨v,o,z,_⟩:=I.cell x c h;exact⟨h,Heap.lt_size z⟩
theorem tR {scope:JP} {C:Hj} {N:List Str} {fp:List Hj} (I:Inv X pins σ H s) (KY:scope.kind= .function) (P4:(scope.names.map (·.1)).Nodup)
  (Ph:∀y∈scope.names,y.2= .free->∃c,X.env.cells.lookup y.1=some c) (hC:s.heap.objs.size<=C) (hf:∀b∈fp,kO X pins H b) (RI:∀b∈fp,b<s.heap.objs.size):(cf X s H scope C N fp).Ok where
 mod:=I.ok.mod
 kind:=KY
 glob:=I.ok.glob
 blt:=I.ok.blt
 above:=hC
 inj:=rJ _ _ _ (fun x c e=>Q1 (Hx (mh I e).2 hC)) fun x y c h1 h2=>I.ok.inj x y c (mh I h1).1 (mh I h2).1
 has:=fun x hx=>by
  have Ul:∃k,(relabel scope X.env).names.lookup x=some k/\(k= .cell\/k= .free):=by
   rcases hx with z|z
   ·exact⟨_,z,.inl rfl⟩
   ·exact⟨_,z,.inr rfl⟩
  obtain⟨k,hk,LG⟩:=Ul;obtain⟨k0,hm,Zi⟩:=qC hk;have e:k0= .free\/k0= .cell:=by
   rcases Zi with z|⟨z,_⟩
   ·subst z
    rcases LG with z|z
    ·exact .inr z
    ·exact .inl z
   ·exact .inl z
  have q:((nV X scope C).lookup x).isSome=true:=by
   rcases e with e|e
   ·subst e;obtain⟨c,hc⟩:=Ph _ hm rfl;exact Ka _ _ _ (.inr (by rw[qL hm hc];rfl))
   ·subst e
    refine Ka _ _ _ (.inl ?_);cases z:scope.names.lookup x with
    |none=>exact absurd hm (fun hm=>by
      have:∀{l:List (Str×HG)},l.lookup x=none->(x,HG.cell)∉l:=fun{l}=>by
       induction l with
       |nil=>exact fun _=>by simp
       |cons p r ih=>
        intro h q;rw[Iz] at h;rcases Ie.mp q with q|q
        ·rw[<-q,beq_self_eq_true] at h;cases h
        ·split at h
         ·cases h
         ·exact ih h q
      exact this z hm)
    |some k'=>rw[rG P4 z hm]
  exact NC.mp q
 RG:=fun x c h1 h2=>by
  have Ye:((eA X.env scope.names []).lookup x).isNone=true:=h1;have h2':(nV X scope C).lookup x=some c:=h2;rcases kz _ _ _ x c h2' with⟨z,_⟩|z
  ·exact Il hC (K9 z)
  ·rw[z] at Ye;cases Ye
 hd:=I.ok.hd
 frames:=I.ok.frames
 SE:= .inl rfl
 Sn:=fun b hb=>⟨HK (Hx (RI b hb) hC),fun x c e=>by
  rcases kz _ _ _ x c e with⟨z,_⟩|z
  ·exact Jp (Hx (Hx (RI b hb) hC) (K9 z))
  ·exact(hf b hb).2.2.2.2.1 x c (mh I z).1⟩
 bs:=I.bs
 Qi:=Il I.ok.Qi I.sz
 Od:=fun b o e hb=>by
  rcases(hf b hb).2.2.2.1 with z|z
  ·exact I.ok.Od b o e z
  ·exact absurd (Hx (Heap.lt_size e) (Il I.ok.Qi z)) (IT _)
 Oi:=fun b hb hs=>by
  rcases Ie.mp (I.Mz b hs) with z|z
  ·exact(hf b hb).2.1 z
  ·exact(hf b hb).2.2.1 z
 LZ:=I.stack
 Rb:=I.MR
theorem yG {scope:JP} {C D:Hj} {own:List Str} {fv:List (Str×Nat)} {fp:List Hj} {h1:Heap} {t1:Nat} {m:Str->Option Hg} (I:Inv X pins σ H s) (KY:scope.kind= .function) (P4:(scope.names.map (·.1)).Nodup)
  (Ph:∀y∈scope.names,y.2= .free->∃c,X.env.cells.lookup y.1=some c) (Sw:OT X scope fv) (hD:s.heap.objs.size<=D) (S7:D<C) (hC:s.heap.objs.size<=C) (hf:∀b∈fp,kO X pins H b) (RI:∀b∈fp,b<s.heap.objs.size)
  (Oj:h1.Ns C m) (Th:∀x c,(nV X scope C).lookup x=some c->C<c->∃v,h1.IsCell c v) (hk:∀b o,s.heap.get? b=some o->h1.get? b=some o) (hd:∃n,h1.get? D=some {cls:= .type "list",data:= .seq #[] n}):
  Inv (cf X s H scope C (da own fv) fp) [] (jm own fv σ) (aY H D (.lst [])) {s with heap:=h1,toks:=t1}:=by
 have hn:H D=none:=I.IW.fresh hD;obtain⟨n,hd⟩:=hd;have Y9:C≠D:=Jp S7;have P1:∀x c,(nV X scope C).lookup x=some c->C<c\/(X.env.cells.lookup x=some c/\c<s.heap.objs.size):=fun x c e=>by
  rcases kz _ _ _ x c e with⟨z,_⟩|z
  ·exact .inl z
  ·exact .inr (mh I z)
 refine⟨tR I KY P4 Ph hC hf RI,rfl,I.bare,Un.laid hk hD hn,⟨m,Oj,fun i x v e1 e2 e3=> ?_⟩,fun x c e=> ?_,?_,fun x c e=> ?_,fun p hp=>absurd (show p∈([]:List (Hj×Obj)) from hp) (by simp),?_,?_⟩
 ·
  have UM:(own++fv.map (·.1))[i]? =some x:=e1;have RE:(own.map (fun _=>(none:Option V))++fv.map fun p=>(σ[p.2]?).join)[i]? =some (some v):=e2;have hi:own.length<=i:=by
   by_cases hi:i<own.length
   ·rw[Io (by simpa using hi),Hv] at RE
    cases q:own[i]? with
    |none=>rw[q] at RE;cases RE
    |some _=>rw[q] at RE;cases RE
   ·omega
  rw[IK hi,Hv] at UM;rw[IK (by simpa using hi),Hv,Hk] at RE;cases q:fv[i - own.length]? with
  |none=>rw[q] at UM;cases UM
  |some p=>
   rw[q] at UM RE;have ex:p.1=x:=HJ UM;subst ex;have ev:(σ[p.2]?).join=some v:=HJ RE;obtain⟨g1,g2,g3⟩:=Sw.mem p (HX q);have WB:σ[p.2]? =some (some v):=by
    cases z:σ[p.2]? with
    |none=>rw[z] at ev;cases ev
    |some y=>rw[z] at ev;exact congrArg some ev
   obtain⟨m0,_,hl⟩:=I.loc;obtain⟨u,r,l⟩:=hl p.2 p.1 v g1 WB (.inr g3);refine⟨u,r,?_⟩;have l2:∃c,X.env.cells.lookup p.1=some c/\s.heap.IsCell c (some u):=by
    rcases l with⟨k,_⟩|⟨_,c,e,z⟩
    ·have k':X.env.scope.names.lookup p.1=some .local:=k
     rcases g3 with z|z
     ·rw[z] at k';cases k'
     ·rw[z] at k';cases k'
    ·exact⟨c,e,z⟩
   obtain⟨c,e,o,ho,Ux⟩:=l2;refine .inr ⟨?_,c,?_,o,hk c o ho,Ux⟩
   ·exact fU g2
   ·show(nV X scope C).lookup p.1=some c;unfold nV;rw[zi _ _ _ _ fun z=>by cases rG P4 g2 z];exact qL (Jk g2) e
 ·rcases P1 x c e with z|⟨z,_⟩
  ·exact Th x c e z
  ·obtain⟨v,o,ho,Ux⟩:=I.cell x c z;exact⟨v,o,hk c o ho,Ux⟩
 ·show aY H D (.lst []) C=none;rw[aj Y9];exact I.IW.fresh hC
 ·show aY H D (.lst []) c=none
  rcases P1 x c e with z|⟨z1,z2⟩
  ·rw[aj (Jp (Kn S7 z))];exact I.IW.fresh (Il hC (JV z))
  ·rw[aj (HK (Hx z2 hD))];exact I.Kl x c z1
 ·exact I.IW.laid hk hD ⟨by show 0<=Ht;exact Jq _,[],n,.nil,hd⟩
 ·show(own.map (fun _=>(none:Option V))++fv.map fun p=>(σ[p.2]?).join).length=(own++fv.map (·.1)).length;simp
end
def A4 (X:Cx) (ifs:List HI) (t:TT):Prop:=
 ∀(pins:List (Hj×Obj)) (s:Hi) (σ:St) (H:Hp) (Q:Bool->Hp->Prop),Inv X pins σ H s->t σ H Q->
  wpAny (model X.prog X.w) X.A (forIn ifs true fun c r=>if r=true then do let ok<-isTrue c X.env (eval c X.env);pure (ForInStep.yield ok) else pure (ForInStep.yield r)) (TP X pins σ Q) X.xe s
def Ce:TT:=fun _ H Q=>Q true H
theorem fD {X:Cx}:A4 X [] Ce:=fun _ _ _ H _ I h=>wpAny_tests_nil ⟨H,I,h⟩
def BN (J:It) (D:Hj) (σc:St) (g:TG) (tc:TT) (te:TE) (H1:Hp) (Fin:Hp->Prop):Prop:=
 ∃W:Nat->Nat->St->Hp->Prop,(∃m,W 0 m σc (aY H1 D (.lst [])))/\∀i m σ H,W i m σ H->
  (J.stop i H/\Fin H)\/(J.go i H/\∃N:St->Hp->Prop,(∀σ' H',N σ' H'->∃m',m'<m/\W (i+1) m' σ' H')/\
   ∀x H',J.Us i H x H'->g x σ H' fun σ2 H2=>tc σ2 H2 fun b H3=>if b=true then te σ2 H3 fun y H4=>∃ys,H4 D=some (.lst ys)/\ys.length<Ht/\N σ2 (aY H4 D (.lst (ys++[y]))) else N σ2 H3)
section
variable {prog:Hy} {w:HU} {A:HM} {s:Hi}
theorem vG {elt tg iter:HI} {ifs:List HI} {scope:JP} {pos:Pos} {it acc:Hg} {env:Env} {R:NN->Hi->Prop} (I:Nat->Hi->Prop)
  (turn:∀n s,I n s->wpAny (model prog w) A (pyNext it) (fun r s1=>match r with
   |none=>R (.ok .next) s1
   |some v=>wpAny (model prog w) A (letOwnedTupleGo tg it v) (fun _ s2=>wpAny (model prog w) A (assign tg env v) (fun _ s3=>
     wpAny (model prog w) A (forIn ifs true fun c r=>if r=true then do let ok<-isTrue c env (eval c env);pure (ForInStep.yield ok) else pure (ForInStep.yield r)) (fun ok s4=>
      if ok=true then wpAny (model prog w) A (eval elt env) (fun x s5=>
       wpAny (model prog w) A (call (.builtin "list.append") [acc,x]) (fun _ s6=>∃m,m<n/\I m s6) (fun _ _=>False) s5) (fun _ _=>False) s4
      else∃m,m<n/\I m s4) (fun _ _=>False) s3) (fun _ _=>False) s2) (fun _ _=>False) s1) (fun _ _=>False) s)
  (n:Nat) (h:I n s):codeAny (model prog w) A (.compLoop (.ListComp elt [⟨tg,iter,ifs,0⟩] scope pos) 0 it acc env) R s:=by
 refine codeAny_loop rfl I (fun n s hI=> ?_) n h;show wpAny _ A (Sem.onRaise (compTurn (.ListComp elt [⟨tg,iter,ifs,0⟩] scope pos) 0 it acc env) (fun x=>do noteFrame x env;theTreesLotGoes x)) _ _ s;refine wpAny_noted ?_;rw[compTurn_list]
 have no:∀{α:Type} {t:Sem α} {Q Q':α->Hi->Prop} {E:Hg->Hi->Prop} {s:Hi},wpAny (model prog w) A t Q (fun _ _=>False) s->(∀a s',Q a s'->Q' a s')->wpAny (model prog w) A t Q' E s:=
  fun h1 h2=>wpAny_mono h1 h2 fun _ _ z=>False.elim z
 refine Hh (JC (Hh (no (turn n s hI) fun r s1 h1=> ?_)));cases r with
 |none=>exact Hq h1
 |some v=>
  refine Hh (no h1 fun _ s2 h2=>Hh (no h2 fun _ s3 h3=>Hh (no h3 fun ok s4 h4=> ?_)));cases ok with
  |false=>exact Hq ⟨rfl,h4⟩
  |true=>exact Hh (Hh (no h4 fun x s5 h5=>Hh (no h5 fun _ s6 h6=>Hq (Hq ⟨rfl,h6⟩))))
end
section
variable {X:Cx} {pins:List (Hj×Obj)} {σ:St} {H:Hp} {s:Hi}
theorem mP {M:Np} {A:HM} {E:Hg->Hi->Prop} {s:Hi} {scope:JP} {globals:Hj} {closure:List (Str×Hj)} {qual:Str} {env:Env} {Q:Env->Hi->Prop}
  (h:Q (newEnv scope s.heap.objs.size globals (Jt (s.heap.objs.size+1) scope.names closure) qual none .none (some env) builtinsNs) {s with heap:=pushCells (s.heap.push {cls:= .type "dict",data:= .dict #[]}) scope.names}):
  wpAny M A (newFunctionEnv scope globals closure [] qual none .none (some env)) Q E s:=by
 simp only[newFunctionEnv,Pd,if_true];refine Hh (wpAny_alloc ?_);refine Hh (wpAny_layCells _ (fun name kind cells=>by cases Y7:kind==HG.cell<;>simp[Y7]) _ _ _ _ ?_);rw[show({s with heap:=s.heap.push {cls:= .type "dict",data:= .dict #[]}}:Hi).heap.objs.size=s.heap.objs.size+1 from Heap.size_push ..];rw[List.forIn_nil];exact Hh (Hq (Hq h))
theorem kY {elt tg iter:HI} {ifs:List HI} {scope:JP} {pos:Pos} {own:List Str} {fv:List (Str×Nat)} {g:TG} {tc:TT} {te:TE} {E:Hg->Hi->Prop} {it:Hj} {fp:List Hj} {tn:Nat->Heap->Prop} {J:It} {Fin:Hj->Hp->Prop}
  {RR:Hg->Hj->NN->Hi->Prop} (I:Inv X pins σ H s) (hc:X.calm=true) (KY:scope.kind= .function) (P4:(scope.names.map (·.1)).Nodup) (Ph:∀y∈scope.names,y.2= .free->∃c,X.env.cells.lookup y.1=some c) (Sw:OT X scope fv)
  (T:Turn X.prog X.w X.K tg J fp it tn) (st:tn 0 s.heap) (hf:∀b∈fp,kO X pins H b)
  (hg:∀C,PG (cf X s H scope C (da own fv) fp) tg g) (ht:∀C,A4 (cf X s H scope C (da own fv) fp) ifs tc) (he:∀C,PE (cf X s H scope C (da own fv) fp) elt te)
  (hR:∀D,H D=none->BN J D (jm own fv σ) g tc te H (Fin D))
  (hRR:∀D C H' s',Inv X pins σ H' s'->Fin D H'->(∃m,s'.heap.Ns C m)->s.heap.objs.size<=C->H' C=none->RR (.ref D) C (.ok .next) s'):
  wpAny (model X.prog X.w) X.A (newList []) (fun acc s3=>wpAny (model X.prog X.w) X.A (newFunctionEnv scope X.env.globals (eA X.env scope.names []) [] X.env.qual none .none (some X.env)) (fun TU s4=>
   codeAny (model X.prog X.w) X.A (.compStart (.ListComp elt [⟨tg,iter,ifs,0⟩] scope pos) 0 (.ref it) acc {TU with scope:=relabel scope X.env}) (RR acc TU.locals) s4) E s3) E s:=by
 refine II ?_;generalize Ww:s.heap.push {cls:= .type "list",dict:=none,data:= .seq ([]:List Hg).toArray}=h2;have hz:h2.objs.size=s.heap.objs.size+1:=by rw[<-Ww,Heap.size_push]
 refine mP (s:={s with heap:=h2}) ?_;have S7:s.heap.objs.size<h2.objs.size:=by rw[hz];exact MY _
 have hC:s.heap.objs.size<=h2.objs.size:=JV S7;generalize Xv:pushCells (h2.push {cls:= .type "dict",data:= .dict #[]}) scope.names=h1;have Ym:∀b o,h2.get? b=some o->h1.get? b=some o:=fun b o e=>by rw[<-Xv];exact N8 _ _ b o (Heap.get?_push_of_some _ e)
 have kp:∀b o,s.heap.get? b=some o->h1.get? b=some o:=fun b o e=>Ym b o (by rw[<-Ww];exact Heap.get?_push_of_some _ e);have Oj:h1.Ns h2.objs.size (fun _=>none):=by rw[<-Xv];exact(Heap.Ns.new h2 (.type "dict")).keeps (N8 _ _)
 have Th:∀x c,(nV X scope h2.objs.size).lookup x=some c->h2.objs.size<c->∃v,h1.IsCell c v:=fun x c e NA=>by
  have e':(Jt (h2.push {cls:= .type "dict",data:= .dict #[]}).objs.size scope.names (eA X.env scope.names [])).lookup x=some c:=by rw[Heap.size_push];exact e
  rcases lH _ _ _ x c e' with⟨_,z⟩|z
  ·exact⟨none,by rw[<-Xv];exact z⟩
  ·exact absurd (Kn (mh I z).2 (Kn S7 NA)) (IT _)
 have hd:∃n,h1.get? s.heap.objs.size=some {cls:= .type "list",data:= .seq #[] n}:=⟨0,Ym _ _ (by rw[<-Ww];exact Heap.get?_push_size _ rfl)⟩;have RI:∀b∈fp,b<s.heap.objs.size:=fun b hb=>by obtain⟨o,e,_⟩:=T.obj 0 _ st b hb;exact Heap.lt_size e
 have hn:H s.heap.objs.size=none:=I.IW.fresh (Ho _);obtain⟨W,⟨m0,w0⟩,turn⟩:=hR s.heap.objs.size hn;have Wr:∀{pl:List (Hj×Obj)} {H':Hp},(∀b∈fp,H' b=none)->(∀p∈pl,p.1∉fp)->∀b∈fp,kO (cf X s H scope h2.objs.size (da own fv) fp) pl H' b:=fun{pl H'} Tg Ov b hb=>by have ok:=tR (C:=h2.objs.size) (N:=da own fv) I KY P4 Ph hC hf RI;exact⟨Tg b hb,(ok.Sn b hb).1,ok.Oi b hb,.inl hb,(ok.Sn b hb).2,fun p hp=>by have Tj:p∈([]:List (Hj×Obj))++pl:=hp;intro z;exact Ov p (by simpa using Tj) (by rw[z];exact hb)⟩
 have loop:∀s4:Hi,s4={s with heap:=h1}->
   codeAny (model X.prog X.w) X.A (.compLoop (.ListComp elt [⟨tg,iter,ifs,0⟩] scope pos) 0 (.ref it) (.ref s.heap.objs.size) (compEnvC scope (nV X scope h2.objs.size) h2.objs.size X.env)) (RR (.ref s.heap.objs.size) h2.objs.size) s4:=by
  rintro s4 rfl
  have I0:Inv (cf X s H scope h2.objs.size (da own fv) fp) [] (jm own fv σ) (aY H s.heap.objs.size (.lst [])) {s with heap:=h1}:=
   yG I KY P4 Ph Sw (Ho _) S7 hC hf RI Oj Th kp hd
  have Zl:tn 0 h1:=T.keep 0 _ _ st fun b _ o e=>kp b o e;have fr0:∀b∈fp,(aY H s.heap.objs.size (.lst [])) b=none:=fun b hb=>by rw[aj (HK (RI b hb))];exact(hf b hb).1
  refine vG (fun n s'=>∃i σ' H',Inv (cf X s H scope h2.objs.size (da own fv) fp) [] σ' H' s'/\tn i s'.heap/\(∀b∈fp,H' b=none)/\W i n σ' H') ?_ m0 ⟨0,_,_,I0,Zl,fr0,w0⟩;rintro n s5 ⟨i,σ5,H5,I5,To,Vj,w5⟩;rcases turn i n σ5 H5 w5 with⟨stop,fin⟩|⟨go,N,hN,step⟩
  ·refine bF (T.done (cf X s H scope h2.objs.size (da own fv) fp) rfl rfl rfl hc i [] s5 σ5 H5 (fun _ _=>False) I5 (Wr Vj (by simp)) To stop) fun r s6 ⟨hr,I6⟩=> ?_;subst hr;obtain⟨mm,hm,_⟩:=I6.loc;refine hRR _ _ H5 s6 ?_ fin ⟨mm,hm⟩ hC I6.free;exact I.RO (ch:=fp) I6.os I6.base I6.IW I6.bare fun b hb=>⟨(hf b hb).2.2.2.1,(hf b hb).2.1,(hf b hb).2.2.2.2.1,(hf b hb).2.2.2.2.2⟩
  ·refine bF (T.item (cf X s H scope h2.objs.size (da own fv) fp) rfl rfl rfl hc i [] s5 σ5 H5 (fun _ _=>False) I5 (Wr Vj (by simp)) To go) fun r s6 ⟨u,hr,h6⟩=> ?_
   subst hr;refine bF h6 fun _ s7 ⟨x,H7,I7,r7,y7,Xr,ZZ⟩=> ?_;have I7':=I7.pinned (fp:=fp) (Wr ZZ (by simp)) (T.obj _ _ Xr);have back:∀{σ8:St} {H8:Hp} {s8:Hi},Inv (cf X s H scope h2.objs.size (da own fv) fp) ([]++k7 fp s7.heap) σ8 H8 s8->N σ8 H8->∃m,m<n/\∃i σ' H',Inv (cf X s H scope h2.objs.size (da own fv) fp) [] σ' H' s8/\tn i s8.heap/\(∀b∈fp,H' b=none)/\W i m σ' H':=fun{σ8 H8 s8} I8 n8=>by obtain⟨m',hm,w8⟩:=hN σ8 H8 n8;refine⟨m',hm,i+1,σ8,H8,I8.Mg,T.keep _ _ _ Xr fun b hb o e=>(I8.pin (b,o) (Ir _ (Ir _ (fS hb e)))).1,fun b hb=> ?_,w8⟩;obtain⟨o,e,d⟩:=T.obj _ _ Xr b hb;exact(I8.pin (b,o) (Ir _ (Ir _ (fS hb e)))).2.1
   refine bF (hg _ _ s7 σ5 H7 x u _ I7' r7 (step x H7 y7)) fun _ s8 ⟨σ8,H8,I8,q8⟩=> ?_;refine bF (ht _ _ s8 σ8 H8 _ I8 q8) fun ok s9 ⟨H9,I9,q9⟩=> ?_;cases ok with
   |false=>rw[if_neg Hu] at q9⊢;exact back I9 q9
   |true=>rw[if_pos rfl] at q9⊢;refine bF (he _ _ s9 σ8 H9 _ I9 q9) fun y s10 ⟨v10,H10,I10,Z6,ys,hy,hl,q10⟩=> ?_;refine bF (jz _ s10 σ8 H10 (.ref s.heap.objs.size) [v10] (.ref s.heap.objs.size) [y] (fun _ X4=>N σ8 X4) I10 rfl (.cons Z6 .nil) ⟨_,ys,v10,rfl,rfl,hy,hl,q10⟩) fun _ s11 ⟨v11,X4,I11,_,q11⟩=> ?_;exact back I11 q11
 exact codeAny_compStart_list (loop _ rfl) (T.self _ 0 _ _ _ (T.keep 0 _ _ st fun b _ o e=>kp b o e) (loop _ rfl))
def uc (own:List Str) (fv:List (Str×Nat)) (wi:TI) (g:TG) (tc:TT) (te:TE):TE:=fun σ H Q=>wi σ H fun J H1=>∀D,H1 D=none->BN J D (jm own fv σ) g tc te H1 fun H'=>Q (.ref D) H'
theorem ki {scope:JP} (ok:X.Ok) (h:∀y∈scope.names,y.2= .free->(X.env.scope.names.lookup y.1=some .cell\/X.env.scope.names.lookup y.1=some .free)):∀y∈scope.names,y.2= .free->∃c,X.env.cells.lookup y.1=some c:=
 fun y hy e=>ok.has y.1 (h y hy e)
theorem BD {scope sc:JP} (h:(scope.names.all fun y=> !(y.2==HG.free)||(sc.names.lookup y.1==some HG.cell)||(sc.names.lookup y.1==some HG.free))=true):
  ∀y∈scope.names,y.2= .free->(sc.names.lookup y.1=some .cell\/sc.names.lookup y.1=some .free):=fun y hy e=>by
 have q:=Jc.mp h y hy;rw[e] at q
 simpa using q
theorem ja {elt tg iter:HI} {ifs:List HI} {scope:JP} {pos:Pos} (own:List Str) (fv:List (Str×Nat)) {wi:TI} {g:TG} {tc:TT} {te:TE} (hc:X.calm=true) (hi:PI X tg iter wi)
  (hg:∀s H C fp,PG (cf X s H scope C (da own fv) fp) tg g) (ht:∀s H C fp,A4 (cf X s H scope C (da own fv) fp) ifs tc) (he:∀s H C fp,PE (cf X s H scope C (da own fv) fp) elt te) (Sw:OT X scope fv)
  (SJ:(scope.names.all fun y=> !(y.2==HG.free)||(X.env.scope.names.lookup y.1==some HG.cell)||(X.env.scope.names.lookup y.1==some HG.free))=true)
  (KY:scope.kind= .function:=by rfl) (P4:(scope.names.map (·.1)).Nodup:=by decide+kernel)
  (OX:∀y∈scope.names,y.2= .local->scope.names.lookup y.1=some .local:=by decide+kernel) (hs:∀x,foldedSetIterable iter X.env x=pure x:=by intro _;rfl):
  PE X (.ListComp elt [⟨tg,iter,ifs,0⟩] scope pos) (uc own fv wi g tc te):=by
 intro pins s σ H Q I h;have Ph:=BD SJ;rw[eval_ListComp];refine Pt (use:=none) rfl hs (kM (ki I.ok Ph)) KY OX (bF (hi pins s σ H _ I h) fun xv s1 h1=>bF h1 fun Vf s2 h2=> ?_);obtain⟨it,fp,tn,J,H2,e,I2,T,Uz,f2,R⟩:=h2;subst e;refine kY I2 hc KY P4 (ki I.ok Ph) Sw T Uz f2 (fun C=>hg _ _ C _) (fun C=>ht _ _ C _) (fun C=>he _ _ C _) (Fin:=fun D H'=>Q (.ref D) H') R ?_;intro D C H' s' I' fin hm hC hn;obtain⟨m,hm⟩:=hm;refine⟨m,hm,fun h' Xf=>⟨.ref D,H',?_,rfl,fin⟩⟩;obtain⟨f0,f1,_,f3,f4,f5⟩:=I2.Ol hC hn;exact I'.turned (t':=s'.toks) (fun b o hb q=>(Xf.2 b hb).trans q) f0 f1 f3 f4 f5
theorem Bt {elt tg iter:HI} {ifs:List HI} {scope:JP} {pos T4 py:Pos} {i:Nat} {x:Str} (own:List Str) (fv:List (Str×Nat)) {wi:TI} {g:TG} {tc:TT} {te:TE} (hN:X.N.Nodup) (hi':X.N[i]? =some x) (hx:X.env.scope.names.lookup x=some .local)
  (hc:X.calm=true) (hi:PI X tg iter wi)
  (hg:∀s H C fp,PG (cf X s H scope C (da own fv) fp) tg g) (ht:∀s H C fp,A4 (cf X s H scope C (da own fv) fp) ifs tc) (he:∀s H C fp,PE (cf X s H scope C (da own fv) fp) elt te) (Sw:OT X scope fv)
  (SJ:(scope.names.all fun y=> !(y.2==HG.free)||(X.env.scope.names.lookup y.1==some HG.cell)||(X.env.scope.names.lookup y.1==some HG.free))=true)
  (hsw:Ja (.ListComp elt [⟨tg,iter,ifs,0⟩] scope pos) (some (.Name x py)) T4.line X.env=pure true:=by rfl)
  (KY:scope.kind= .function:=by rfl) (P4:(scope.names.map (·.1)).Nodup:=by decide+kernel)
  (OX:∀y∈scope.names,y.2= .local->scope.names.lookup y.1=some .local:=by decide+kernel) (hs:∀x,foldedSetIterable iter X.env x=pure x:=by intro _;rfl):
  PS X (.Assign [.Name x py] (.ListComp elt [⟨tg,iter,ifs,0⟩] scope pos) T4) (xT (uc own fv wi g tc te) (mi i)):=by
 intro pins s σ H D I h;have Ph:=BD SJ;rw[exec_Assign_Name_used _ _ _ _ hsw];refine Hh (JC (Hh ?_));show wpAny _ _ (do let _<-comprehension (.ListComp elt [⟨tg,iter,ifs,0⟩] scope pos) scope X.env _ (newList []) false (eval iter X.env) (some (assign (.Name x py) X.env))) _ _ s;refine Hh (bF (Pt (use:=some (assign (.Name x py) X.env)) (Q:=fun _ s'=>SP X pins D .next s') rfl hs (kM (ki I.ok Ph)) KY OX
  (bF (hi pins s σ H _ I h) fun xv s1 h1=>bF h1 fun Vf s2 h2=> ?_)) fun _ s' q=>Hq (Hq q))
 obtain⟨it,fp,tn,J,H2,e,I2,T,Uz,f2,R⟩:=h2;subst e;refine kY I2 hc KY P4 (ki I.ok Ph) Sw T Uz f2 (fun C=>hg _ _ C _) (fun C=>ht _ _ C _) (fun C=>he _ _ C _) (Fin:=fun L H'=>D.nx (σ.set i (some (.ref L))) H') R ?_;intro L C H' s' I' fin hm hC hn;obtain⟨m,hm⟩:=hm;obtain⟨f0,f1,f2',f3,f4,f5⟩:=I2.Ol hC hn;show wpAny _ _ (assign (.Name x py) X.env (.ref L)) _ _ s';refine SX (mF I' hN hi' (.inl hx) (v:= .ref L) rfl (fun UL I'' ⟨a,sb,ha⟩=> ?_) (.inr hx));have hCa:C≠a:=by
  rcases ha with z|z
  ·rw[z];exact f1
  ·exact fun q=>f4 x a z q.symm
 refine⟨m,hm.sameBut sb hCa,fun h' Xf=>⟨_,H',?_,fin⟩⟩;exact I''.turned (t':=UL.toks) (fun b o hb q=>(Xf.2 b hb).trans q) f0 f1 f3 f4 f5
end
def mE (P:Hy) (w:HU) (K:Hf) (mg:Str->Option Hg) (base:Heap) (k:Nat) (x:Str) (ps:List Str) (sp:Sp):Prop:=
 ∃(f:Hj) (fd:IB),FnOk P w K mg base ez k f fd ps sp/\Binds K fd ps []/\Jx K (.ref f)=true/\mg x=some (.ref f)
theorem sw {X:Cx} {k j:Nat} {x:Str} {ps:List Str} {sp:Sp} {e:HI} {es:List HI} {t:TA} {p pos:Pos} (C:mE X.prog X.w X.K X.mg X.base k x ps sp) (hr:JW j X.A) (ha:PA X (e::es) t) (Xa:k<=j:=by decide) (hg:Gl X x:=by rfl)
  (OI:(x==("__debug__":Str))=false:=by decide) (he:HL (e::es) X.env=(false,eval e X.env)::HL es X.env:=by rfl) (Ov:(backTo pos (HL es X.env)).any (·.1)=false:=by rfl):
  PE X (.Call (.Name x p) (e::es) [] pos) (lx sp [] E0 t):=by
 obtain⟨f,fd,F,b,kp,m⟩:=C;exact AY F (hr.mono Xa) hg m kp b .nil BL ha OI he Ov
section
variable {σ:St} {H:Hp} {Q:VK} {D:Ends}
theorem DR {t u:TS} (h:t {D with nx:=u D} σ H):AH t u D σ H:=h
theorem C6 {te:TE} {g:TG} (h:te σ H fun x H1=>g x σ H1 D.nx):xT te g D σ H:=h
theorem zX {i:Nat} {v:V} {Q:St->Hp->Prop} (h:Q (σ.set i (some v)) H):mi i v σ H Q:=h
theorem GF {v:V} (h:Q v H):tC v σ H Q:=h
theorem EL {r:R2} {ta tb:TE} (h:ta σ H fun x H1=>tb σ H1 fun y H2=>r x y H2 Q):Ek r ta tb σ H Q:=h
theorem Fc {x y:V} (c:nk x y=true) (h:Q (.bl (decide (x=y))) H):G1 x y H Q:=⟨c,h⟩
theorem FB {x y:V} (c:nk x y=true) (h:Q (.bl (!decide (x=y))) H):GX x y H Q:=⟨c,h⟩
theorem DC {te:TE} (h:te σ H D.rt):Ah te D σ H:=h
theorem AJ {te:TE} (h:te σ H fun _ H1=>D.nx σ H1):qU te D σ H:=h
theorem DF {c:TT} {t u:TS} (h:c σ H fun b H1=>if b=true then t D σ H1 else u D σ H1):z8 c t u D σ H:=h
theorem Ao (h:D.nx σ H):u6 D σ H:=h
theorem AD {t:TE} {Q:Bool->Hp->Prop} (h:t σ H fun x H'=>∃k,x= .bl k/\Q k H'):vd t σ H Q:=h
theorem Gx {t:TE} {Q:Bool->Hp->Prop} (h:t σ H fun x H'=>∃k,x= .bl k/\Q k H'):tB t σ H Q:=h
theorem FK {b:Bool} {Q:Bool->Prop} (h:Q b):∃k,V.bl b= .bl k/\Q k:=⟨b,rfl,h⟩
theorem EZ {t u:TT} {Q:Bool->Hp->Prop} (h:t σ H fun c H1=>if c=true then Q true H1 else u σ H1 Q):GI t u σ H Q:=h
theorem D5 {t:TT} {Q:Bool->Hp->Prop} (h:t σ H fun c H1=>Q (!c) H1):D0 t σ H Q:=h
theorem Bf {ta tb:TE} (h:ta σ H fun x H1=>∃c,x= .bl c/\if c=true then tb σ H1 Q else Q (.bl false) H1):ye ta tb σ H Q:=h
theorem CK {Q:List V->Hp->Prop} (h:Q [] H):l6 σ H Q:=h
theorem AA {ta:TE} {tr:TA} {Q:List V->Hp->Prop} (h:ta σ H fun x H1=>tr σ H1 fun xs H2=>Q (x::xs) H2):fy ta tr σ H Q:=h
theorem Ff {r:List V->Hp->VK->Prop} {t:TA} (h:t σ H fun vs H1=>r vs H1 Q):D8 r t σ H Q:=h
theorem AQ {sp:Sp} {E:XK} {t:TA} (h:t σ H fun vs H1=>sp (vs++[]) H1 Q E):lx sp [] E t σ H Q:=h
theorem Eg {t:TA} (h:t σ H fun xs H1=>xs.length<=Ht/\∀p,H1 p=none->Q (.ref p) (aY H1 p (.lst xs))):Cp t σ H Q:=h
theorem E8 {K:Hf} {T:String} {r:V->List V->Hp->VK->Prop} {to:TE} {t:TA} (h:to σ H fun x H1=>GM K T x H1/\t σ H1 fun xs H2=>r x xs H2 Q):E9 K T r to t σ H Q:=h
end
theorem Cv {α:Type} {xs:List α} {i:Int} {v:α} (h0:0<=i) (h:xs[i.toNat]? =some v):lX xs i=some v:=by have q:=uh h;rwa [Int.toNat_of_nonneg h0] at q
theorem IX.tup {K:Hf} {H H':Hp} {a:Hj} {xs:List V} (e:IX H H') (h:Lh K H a xs):Lh K H' a xs:=by
 rcases h with(h|⟨o,h⟩)|h
 ·exact .inl (.inl (e _ _ h))
 ·exact .inl (.inr ⟨o,e _ _ h⟩)
 ·exact .inr h
theorem bq {H:Hp} {p:Hj} (h:H p=none) (o:HO):IX H (aY H p o):=fun b u q=>by rw[aj (b7 q h)];exact q
theorem Et:Iq "max"=some (.builtin "max"):=by decide+kernel
theorem aD:Iq "isinstance"=some (.builtin "isinstance"):=by decide+kernel
theorem mK:Iq "len"=some (.builtin "len"):=by decide+kernel
theorem zw:Iq "all"=some (.builtin "all"):=by decide+kernel
theorem B3:Iq "int"=some (.type "int"):=by decide+kernel
theorem D6:Iq "bool"=some (.type "bool"):=by decide+kernel
theorem FD:Iq "str"=some (.type "str"):=by decide+kernel
theorem xX:Iq "list"=some (.type "list"):=by decide+kernel
theorem o7:Iq "tuple"=some (.type "tuple"):=by decide+kernel
end L2
namespace L3
open PySem L2
abbrev D:=Hr
inductive PV where
 |fz (d:D)
 |ow (ds:List D)
 |pl (i:Nat)
abbrev aw:=List (Option PV)
structure Xc where
 cls:Str
 fs:List (Str×D)
inductive Res (α:Type) where
 |ok (a:α)
 |er (x:Xc)
 |bad
namespace Res
noncomputable def bind {α β:Type} (r:Res α) (f:α->Res β):Res β:=match r with
 | .ok a=>f a
 | .er x=> .er x
 | .bad=> .bad
noncomputable def IJ {α:Type}:Option α->Res α
 |some a=> .ok a
 |none=> .bad
theorem bind_ok {α β:Type} (a:α) (f:α->Res β):(Res.ok a).bind f=f a:=rfl
end Res
abbrev aX:=Hj->Prop
noncomputable def bX (O:aX) (p:Hj):aX:=fun b=>O b\/b=p
noncomputable def vA (O:aX) (p:Hj):aX:=fun b=>O b/\b≠p
noncomputable def Ox:aX:=fun _=>False
def Ev (O:aX) (H:Hp) (O':aX) (H':Hp):Prop:=∀b o,H b=some o->¬O b->H' b=some o/\¬O' b
theorem Ev.refl {O:aX} {H:Hp}:Ev O H O H:=fun _ _ h n=>⟨h,n⟩
theorem Ev.trans {O O1 O2:aX} {H H1 H2:Hp} (a:Ev O H O1 H1) (b:Ev O1 H1 O2 H2):Ev O H O2 H2:=fun p o h n=>let⟨h1,n1⟩:=a p o h n;b p o h1 n1
theorem Ev.grow {O:aX} {H H':Hp} (s:IX H H'):Ev O H O H':=fun b o h n=>⟨s b o h,n⟩
theorem Ev.add {O:aX} {H H':Hp} {p:Hj} (s:IX H H') (hp:H p=none):Ev O H (bX O p) H':=fun b o h n=>⟨s b o h,fun z=>z.elim n fun e=>by subst e;rw[h] at hp;cases hp⟩
theorem Ev.sub {O O':aX} {H:Hp} (h:∀b,O' b->O b):Ev O H O' H:=fun b o e n=>⟨e,fun z=>n (h b z)⟩
theorem Ev.mut {O:aX} {H:Hp} {p:Hj} (hp:O p) (u:HO):Ev O H O (aY H p u):=fun b o h n=>⟨by rw[aj (fun e=>n (by rw[e];exact hp))];exact h,n⟩
def KH (K:Hf) (H:Hp) (a:Hj) (xs:List V):Prop:=Rd H a (.lst xs)\/∃(HW:List Hg) (n:Nat),K.lookup a=some {cls:= .type "list",data:= .seq HW.toArray n}/\xs.length<=Ht/\Vals xs HW
theorem KH.sq {K:Hf} {H:Hp} {a:Hj} {xs:List V} (h:KH K H a xs):Lk K H a xs:=by
 rcases h with h|⟨HW,n,h1,h2,h3⟩
 ·exact .inl h
 ·exact .inr ⟨_,HW.toArray,n,h1,rfl,rfl,rfl,by rw[Hs,<-h3.length];exact h2,by simpa using h3⟩
theorem KH.of {K:Hf} {H:Hp} {a:Hj} {xs:List V} (h:H a=some (.lst xs)):KH K H a xs:= .inl (.inl h)
theorem KH.same {K:Hf} {H H':Hp} {a:Hj} {xs:List V} (e:IX H H') (h:KH K H a xs):KH K H' a xs:=by
 rcases h with(h|⟨o,h⟩)|h
 ·exact .inl (.inl (e _ _ h))
 ·exact .inl (.inr ⟨o,e _ _ h⟩)
 ·exact .inr h
theorem gS (H:Hp):IX (fun _=>none) H:=fun _ _ h=>by cases h
def NQ (O:aX) (K:Hf) (H:Hp) (a:Hj) (xs:List V):Prop:=KH K H a xs/\(O a->KH K (fun _=>none) a xs)
def Mp (O:aX) (K:Hf) (H:Hp) (a:Hj) (xs:List V):Prop:=Lh K H a xs/\(O a->Lh K (fun _=>none) a xs)
section
variable {O O':aX} {K:Hf} {H H':Hp} {a:Hj} {xs:List V}
theorem NQ.ev (h:NQ O K H a xs) (e:Ev O H O' H'):NQ O' K H' a xs:=by
 obtain⟨h,k⟩:=h;by_cases z:O a
 ·exact⟨KH.same (gS H') (k z),fun _=>k z⟩
 ·rcases h with(h|⟨o,h⟩)|h
  ·obtain⟨h1,h2⟩:=e a _ h z;exact⟨.inl (.inl h1),fun y=>absurd y h2⟩
  ·obtain⟨h1,h2⟩:=e a _ h z;exact⟨.inl (.inr ⟨o,h1⟩),fun y=>absurd y h2⟩
  ·exact⟨.inr h,fun _=> .inr h⟩
theorem Mp.ev (h:Mp O K H a xs) (e:Ev O H O' H'):Mp O' K H' a xs:=by
 obtain⟨h,k⟩:=h;by_cases z:O a
 ·exact⟨(gS H').tup (k z),fun _=>k z⟩
 ·rcases h with(h|⟨o,h⟩)|h
  ·obtain⟨h1,h2⟩:=e a _ h z;exact⟨.inl (.inl h1),fun y=>absurd y h2⟩
  ·obtain⟨h1,h2⟩:=e a _ h z;exact⟨.inl (.inr ⟨o,h1⟩),fun y=>absurd y h2⟩
  ·exact⟨.inr h,fun _=> .inr h⟩
end
mutual
inductive DV (O:aX) (K:Hf) (H:Hp):V->D->Prop
 |JD:DV O K H .JD .none
 |bl (b:Bool):DV O K H (.bl b) (.bool b)
 |int (i:Int):DV O K H (.int i) (.int i)
 |str (x:Str):DV O K H (.str x) (.str x)
 |tup {a:Hj} {xs:List V} {ds:List D}:Mp O K H a xs->Jm O K H xs ds->DV O K H (.ref a) (.tuple ds)
 |lst {a:Hj} {xs:List V} {ds:List D}:NQ O K H a xs->Jm O K H xs ds->DV O K H (.ref a) (.list ds)
inductive Jm (O:aX) (K:Hf) (H:Hp):List V->List D->Prop
 |nil:Jm O K H [] []
 |cons {v:V} {vs:List V} {d:D} {ds:List D}:DV O K H v d->Jm O K H vs ds->Jm O K H (v::vs) (d::ds)
end
section
variable {O O':aX} {K:Hf} {H H':Hp}
mutual
theorem DV.ev (e:Ev O H O' H'):∀{v:V} {d:D},DV O K H v d->DV O' K H' v d
 |_,_,.JD=> .JD
 |_,_,.bl b=> .bl b
 |_,_,.int i=> .int i
 |_,_,.str x=> .str x
 |_,_,.tup h hs=> .tup (h.ev e) (Jm.ev e hs)
 |_,_,.lst h hs=> .lst (h.ev e) (Jm.ev e hs)
theorem Jm.ev (e:Ev O H O' H'):∀{vs:List V} {ds:List D},Jm O K H vs ds->Jm O' K H' vs ds
 |_,_,.nil=> .nil
 |_,_,.cons h hs=> .cons (DV.ev e h) (Jm.ev e hs)
end
theorem Jm.length:∀{vs:List V} {ds:List D},Jm O K H vs ds->vs.length=ds.length
 |_,_,.nil=>rfl
 |_,_,.cons _ t=>by rw[HP,HP,t.length]
theorem Jm.get:∀{vs:List V} {ds:List D} {i:Nat} {d:D},Jm O K H vs ds->ds[i]? =some d->∃v,vs[i]? =some v/\DV O K H v d
 |_,_,_,_,.nil,e=>by simp at e
 |_,_,0,_,.cons h _,e=>by simp at e;subst e;exact⟨_,rfl,h⟩
 |_,_,i+1,d,.cons _ t,e=>by obtain⟨v,h1,h2⟩:=Jm.get (i:=i) (d:=d) t (by simpa using e);exact⟨v,by simpa using h1,h2⟩
theorem Jm.Rn:∀{vs:List V} {ds:List D} {i:Nat} {v:V},Jm O K H vs ds->vs[i]? =some v->∃d,ds[i]? =some d/\DV O K H v d
 |_,_,_,_,.nil,e=>by simp at e
 |_,_,0,_,.cons h _,e=>by simp at e;subst e;exact⟨_,rfl,h⟩
 |_,_,i+1,v,.cons _ t,e=>by obtain⟨d,h1,h2⟩:=Jm.Rn (i:=i) (v:=v) t (by simpa using e);exact⟨d,by simpa using h1,h2⟩
theorem Jm.append:∀{vs ws:List V} {ds es:List D},Jm O K H vs ds->Jm O K H ws es->Jm O K H (vs++ws) (ds++es)
 |_,_,_,_,.nil,h=>h
 |_,_,_,_,.cons h t,g=> .cons h (Jm.append t g)
theorem Jm.take:∀{vs:List V} {ds:List D} (n:Nat),Jm O K H vs ds->Jm O K H (vs.take n) (ds.take n)
 |_,_,0,_=> .nil
 |_,_,_+1,.nil=> .nil
 |_,_,n+1,.cons h t=> .cons h (Jm.take n t)
theorem Jm.drop:∀{vs:List V} {ds:List D} (n:Nat),Jm O K H vs ds->Jm O K H (vs.drop n) (ds.drop n)
 |_,_,0,h=>h
 |_,_,_+1,.nil=> .nil
 |_,_,n+1,.cons _ t=>Jm.drop n t
theorem Jm.flat {vs:List V} {ds:List D} (h:Jm O K H vs ds):∀n:Nat,Jm O K H (Hl n vs).flatten (Hl n ds).flatten
 |0=> .nil
 |n+1=>by rw[Im,Im,JN,JN];exact h.append (Jm.flat h n)
mutual
theorem DV.plain:∀{v:V} {d:D},DV O K H v d->L2.DV K H v d
 |_,_,.JD=> .JD
 |_,_,.bl b=> .bl b
 |_,_,.int i=> .int i
 |_,_,.str x=> .str x
 |_,_,.tup h hs=> .tup h.1 (Jm.plain hs)
 |_,_,.lst h hs=> .lst h.1.sq (Jm.plain hs)
theorem Jm.plain:∀{vs:List V} {ds:List D},Jm O K H vs ds->L2.Jm K H vs ds
 |_,_,.nil=> .nil
 |_,_,.cons h hs=> .cons (DV.plain h) (Jm.plain hs)
end
end
def DX (O:aX) (K:Hf) (H:Hp) (v:V):D->Prop
 | .list ds=>∃a xs,v= .ref a/\KH K H a xs/\Jm O K H xs ds
 |d=>DV O K H v d
theorem DV.x {O:aX} {K:Hf} {H:Hp} {v:V} {d:D} (h:DV O K H v d):DX O K H v d:=by
 cases h with
 |lst h hs=>exact⟨_,_,rfl,h.1,hs⟩
 |JD=>exact .JD
 |bl b=>exact .bl b
 |int i=>exact .int i
 |str x=>exact .str x
 |tup h hs=>exact .tup h hs
theorem DX.plain {O:aX} {K:Hf} {H:Hp} {v:V} {d:D} (h:DX O K H v d):L2.DV K H v d:=by
 cases d with
 |list ds=>obtain⟨a,xs,rfl,h1,h2⟩:=h;exact .lst h1.sq h2.plain
 |none=>exact DV.plain h
 |bool b=>exact DV.plain h
 |int i=>exact DV.plain h
 |str x=>exact DV.plain h
 |tuple ds=>exact DV.plain h
 |dict kvs=>exact DV.plain h
def N4 (K:Hf) (H0:Hp) (O:aX) (H:Hp) (v:V):PV->Prop
 | .fz d=>DV O K H v d
 | .ow ds=>∃a vs,v= .ref a/\O a/\H0 a=none/\H a=some (.lst vs)/\Jm O K H vs ds
 | .pl _=>False
structure Rl (K:Hf) (B:aX) (H0:Hp) (O:aX) (σ:St) (H:Hp) (ρ:aw):Prop where
 same:IX H0 H
 bo:∀a,B a->O a
 bd:∀a,B a->H0 a≠none
 od:∀a,H a=none->¬O a
 len:σ.length=ρ.length
 slot:∀(i:Nat) (x:PV),ρ[i]? =some (some x)->∃v,σ[i]? =some (some v)/\N4 K H0 O H v x
 one:∀(i j:Nat) (ds es:List D) (v:V),ρ[i]? =some (some (.ow ds))->ρ[j]? =some (some (.ow es))->σ[i]? =some (some v)->σ[j]? =some (some v)->i=j
def Ll (K:Hf) (H0:Hp) (O:aX) (σ:St) (H:Hp) (ρ:aw) (v:V):PV->Prop
 | .fz d=>DV O K H v d
 | .ow ds=>∃a vs,v= .ref a/\O a/\H0 a=none/\H a=some (.lst vs)/\Jm O K H vs ds/\∀(i:Nat) (es:List D),ρ[i]? =some (some (.ow es))->σ[i]?≠some (some (.ref a))
 | .pl i=>σ[i]? =some (some v)
def fW:PV->Prop
 | .ow _=>False
 |_=>True
noncomputable def fX:PV->PV
 | .ow ds=> .fz (.list ds)
 |p=>p
section
variable {K:Hf} {B O O':aX} {H0 H H':Hp} {σ:St} {ρ ρ':aw} {v:V}
theorem N4.grow {x:PV} (s:IX H H') (h:N4 K H0 O H v x):N4 K H0 O H' v x:=by
 cases x with
 |fz d=>exact DV.ev (Ev.grow s) h
 |ow ds=>obtain⟨a,vs,e,h1,h2,h3,h4⟩:=h;exact⟨a,vs,e,h1,h2,s _ _ h3,h4.ev (Ev.grow s)⟩
 |pl i=>exact h
theorem Rl.grow (R:Rl K B H0 O σ H ρ) (s:IX H H'):Rl K B H0 O σ H' ρ:=
 ⟨R.same.trans s,R.bo,R.bd,fun a h=>R.od a (s.free h),R.len,fun i x h=>let⟨v,h1,h2⟩:=R.slot i x h;⟨v,h1,h2.grow s⟩,R.one⟩
theorem Rl.RH (R:Rl K B H0 O σ H ρ) {p:Hj} (h:H p=none):H0 p=none:=R.same.free h
theorem Rl.add (R:Rl K B H0 O σ H ρ) {p:Hj} (s:IX H H') (hp:H p=none) (hq:H' p≠none):Rl K B H0 (bX O p) σ H' ρ:=by
 refine⟨R.same.trans s,fun a h=> .inl (R.bo a h),R.bd,fun a h z=>z.elim (R.od a (s.free h)) fun e=>hq (by rw[<-e];exact h),R.len,fun i x h=> ?_,R.one⟩;obtain⟨v,h1,h2⟩:=R.slot i x h;refine⟨v,h1,?_⟩;cases x with
 |fz d=>exact DV.ev (Ev.add s hp) h2
 |ow ds=>obtain⟨a,vs,e,g1,g2,g3,g4⟩:=h2;exact⟨a,vs,e,.inl g1,g2,s _ _ g3,g4.ev (Ev.add s hp)⟩
 |pl i=>exact h2
theorem Rl.Ug (R:Rl K B H0 O σ H ρ) {a:Hj} (h:H0 a=none):¬B a:=fun z=>R.bd a z h
theorem Rl.sub (R:Rl K B H0 O σ H ρ) {a:Hj} (h0:H0 a=none) (h:∀(i:Nat) (es:List D),ρ[i]? =some (some (.ow es))->σ[i]?≠some (some (.ref a))):Rl K B H0 (vA O a) σ H ρ:=by
 refine⟨R.same,fun b hb=>⟨R.bo b hb,fun e=>R.Ug h0 (e▸hb)⟩,R.bd,fun b hb z=>R.od b hb z.1,R.len,fun i x hx=> ?_,R.one⟩;obtain⟨v,h1,h2⟩:=R.slot i x hx;refine⟨v,h1,?_⟩;cases x with
 |fz d=>exact DV.ev (Ev.sub fun b z=>z.1) h2
 |ow ds=>obtain⟨b,vs,e,g1,g2,g3,g4⟩:=h2;subst e;exact⟨b,vs,rfl,⟨g1,fun e=>h i ds hx (by rw[h1,e])⟩,g2,g3,g4.ev (Ev.sub fun b z=>z.1)⟩
 |pl i=>exact h2
theorem rO {a:Hj} {vs:List V} {ds:List D} (h:H a=some (.lst vs)) (n:¬O a) (hd:Jm O K H vs ds):DV O K H (.ref a) (.list ds):= .lst ⟨KH.of h,fun z=>absurd z n⟩ hd
theorem ji {pv:PV} (R:Rl K B H0 O σ H ρ) (h:Ll K H0 O σ H ρ v pv):∃O',Ev O H O' H/\Rl K B H0 O' σ H ρ/\Ll K H0 O' σ H ρ v (fX pv):=by
 cases pv with
 |fz d=>exact⟨O,.refl,R,h⟩
 |pl i=>exact⟨O,.refl,R,h⟩
 |ow ds=>obtain⟨a,vs,rfl,h1,h2,h3,h4,h5⟩:=h;exact⟨vA O a,Ev.sub fun b z=>z.1,R.sub h2 h5,rO h3 (fun z=>z.2 rfl) (h4.ev (Ev.sub fun b z=>z.1))⟩
theorem kt (pv:PV):fW (fX pv):=by cases pv<;>trivial
theorem Ll.keep {pv:PV} (hs:fW pv) (e:Ev O H O' H') (h:Ll K H0 O σ H ρ v pv):Ll K H0 O' σ H' ρ' v pv:=by
 cases pv with
 |fz d=>exact DV.ev e h
 |pl i=>exact h
 |ow ds=>exact hs.elim
noncomputable def Gp:Option (Option PV)->Option D
 |some (some (.fz d))=>some d
 |some (some (.ow ds))=>some (.list ds)
 |_=>none
noncomputable def kq (ρ:aw):PV->Option D
 | .fz d=>some d
 | .ow ds=>some (.list ds)
 | .pl i=>Gp ρ[i]?
theorem gc {pv:PV} {d:D} (R:Rl K B H0 O σ H ρ) (h:Ll K H0 O σ H ρ v pv) (e:kq ρ pv=some d):DX O K H v d:=by
 cases pv with
 |fz d'=>cases e;exact DV.x h
 |ow ds=>cases e;obtain⟨a,vs,rfl,h1,h2,h3,h4,h5⟩:=h;exact⟨a,vs,rfl,KH.of h3,h4⟩
 |pl i=>
  have e':Gp ρ[i]? =some d:=e;have h':σ[i]? =some (some v):=h;cases q:ρ[i]? with
  |none=>rw[q] at e';cases e'
  |some o=>
   cases o with
   |none=>rw[q] at e';cases e'
   |some x=>
    obtain⟨u,g1,g2⟩:=R.slot i x q;rw[h'] at g1;cases g1;rw[q] at e';cases x with
    |fz d'=>cases e';exact DV.x g2
    |ow ds=>cases e';obtain⟨a,vs,rfl,k1,k2,k3,k4⟩:=g2;exact⟨a,vs,rfl,KH.of k3,k4⟩
    |pl j=>exact g2.elim
noncomputable def toS (ρ:aw) (i:Nat):Option (Option PV)->Option (D×aw)
 |some (some (.fz d))=>some (d,ρ)
 |some (some (.ow ds))=>some (.list ds,ρ.set i (some (.fz (.list ds))))
 |_=>none
noncomputable def oV (ρ:aw):PV->Option (D×aw)
 | .fz d=>some (d,ρ)
 | .ow ds=>some (.list ds,ρ)
 | .pl i=>toS ρ i ρ[i]?
theorem bG {α:Type} {l:List α} {i j:Nat} {x y:α} (h:(l.set i x)[j]? =some y):(j=i/\y=x)\/(j≠i/\l[j]? =some y):=by
 rw[IG] at h;by_cases e:i=j
 ·rw[if_pos e] at h
  split at h
  ·cases h;exact .inl ⟨e.symm,rfl⟩
  ·cases h
 ·rw[if_neg e] at h;exact .inr ⟨fun z=>e z.symm,h⟩
theorem lM {pv:PV} {d:D} (R:Rl K B H0 O σ H ρ) (h:Ll K H0 O σ H ρ v pv) (e:oV ρ pv=some (d,ρ')):∃O',Ev O H O' H/\Rl K B H0 O' σ H ρ'/\DV O' K H v d:=by
 cases pv with
 |fz d'=>cases e;exact⟨O,.refl,R,h⟩
 |ow ds=>cases e;obtain⟨a,vs,rfl,h1,h2,h3,h4,h5⟩:=h;exact⟨vA O a,Ev.sub fun b z=>z.1,R.sub h2 h5,rO h3 (fun z=>z.2 rfl) (h4.ev (Ev.sub fun b z=>z.1))⟩
 |pl i=>
  have e':toS ρ i ρ[i]? =some (d,ρ'):=e;have h':σ[i]? =some (some v):=h;cases q:ρ[i]? with
  |none=>rw[q] at e';cases e'
  |some o=>
   cases o with
   |none=>rw[q] at e';cases e'
   |some x=>
    obtain⟨u,g1,g2⟩:=R.slot i x q;rw[h'] at g1;cases g1;rw[q] at e';cases x with
    |fz d'=>cases e';exact⟨O,.refl,R,g2⟩
    |pl j=>exact g2.elim
    |ow ds=>
     cases e';obtain⟨a,vs,rfl,k1,k2,k3,k4⟩:=g2;have es:Ev O H (vA O a) H:=Ev.sub fun b z=>z.1;have dv:DV (vA O a) K H (.ref a) (.list ds):=rO k3 (fun z=>z.2 rfl) (k4.ev es);refine⟨vA O a,es,⟨R.same,fun b hb=>⟨R.bo b hb,fun e=>R.Ug k2 (e▸hb)⟩,R.bd,fun b hb z=>R.od b hb z.1,by rw[IZ];exact R.len,fun j x hx=> ?_,fun j k xs ys w hj hk=> ?_⟩,dv⟩
     ·rcases bG hx with⟨rfl,ee⟩|⟨LS,hx⟩
      ·cases ee;exact⟨_,h',dv⟩
      ·obtain⟨u,m1,m2⟩:=R.slot j x hx
       refine⟨u,m1,?_⟩;cases x with
       |fz d=>exact DV.ev es m2
       |pl i=>exact m2
       |ow xs=>obtain⟨b,us,rfl,n1,n2,n3,n4⟩:=m2;exact⟨b,us,rfl,⟨n1,fun z=>LS (R.one j i xs ds (.ref a) hx q (by rw[m1,z]) h')⟩,n2,n3,n4.ev es⟩
     ·rcases bG hj with⟨rfl,ee⟩|⟨_,hj⟩
      ·cases ee
      ·rcases bG hk with⟨rfl,ee⟩|⟨_,hk⟩
       ·cases ee
       ·exact R.one j k xs ys w hj hk
end
def S2 (K:Hf) (B:aX) (H:Hp) (c:Hg) (dx:Option Hj) (x:Xc):Prop:=
 (∃a,c= .ref a/\HA K Hw x.cls=some (some (.ref a)))/\∃fs,(∀p,dx=some p->H p=some (.xd fs))/\∀f d,x.fs.lookup f=some d->dx≠none/\∃v,fs.lookup f=some v/\DV B K H v d
def XE (K:Hf) (B:aX) (H0:Hp) (E:XK) (x:Xc):Prop:=∀c dx H',IX H0 H'->S2 K B H' c dx x->E c dx H'
def WR {α:Type} (K:Hf) (E:XK) (B:aX) (H0:Hp) (P:α->Prop):Res α->Prop
 | .ok a=>P a
 | .er x=>XE K B H0 E x
 | .bad=>False
section
variable {K:Hf} {E:XK} {B:aX} {H0:Hp}
theorem WR.bind {α β:Type} {P:β->Prop} {r:Res α} {k:α->Res β} (h:WR K E B H0 P (r.bind k)):WR K E B H0 (fun a=>WR K E B H0 P (k a)) r:=by cases r<;>exact h
theorem WR.IJ {α β:Type} {P:β->Prop} {o:Option α} {k:α->Res β} (h:WR K E B H0 P ((Res.IJ o).bind k)):∃a,o=some a/\WR K E B H0 P (k a):=by
 cases o with
 |none=>exact h.elim
 |some a=>exact⟨a,rfl,h⟩
theorem WR.imp {α:Type} {P P':α->Prop} {r:Res α} (h:WR K E B H0 P r) (g:∀a,P a->P' a):WR K E B H0 P' r:=by
 cases r with
 |ok a=>exact g a h
 |er x=>exact h
 |bad=>exact h
end
abbrev FE:=aw->Res (PV×aw)
abbrev FT:=aw->Res (Bool×aw)
abbrev FA:=aw->Res (List PV×aw)
def EO (K:Hf) (E:XK) (t:TE) (f:FE):Prop:=
 ∀(B:aX) (H0:Hp) (O:aX) (σ:St) (H:Hp) (ρ:aw) (Q:VK),Rl K B H0 O σ H ρ->WR K E B H0 (fun r=>∀O' v H',Ev O H O' H'->Rl K B H0 O' σ H' r.2->Ll K H0 O' σ H' r.2 v r.1->Q v H') (f ρ)->t σ H Q
def Om (K:Hf) (E:XK) (t:TT) (f:FT):Prop:=
 ∀(B:aX) (H0:Hp) (O:aX) (σ:St) (H:Hp) (ρ:aw) (Q:Bool->Hp->Prop),Rl K B H0 O σ H ρ->WR K E B H0 (fun r=>∀O' H',Ev O H O' H'->Rl K B H0 O' σ H' r.2->Q r.1 H') (f ρ)->t σ H Q
def AO (K:Hf) (E:XK) (t:TA) (f:FA):Prop:=
 ∀(B:aX) (H0:Hp) (O:aX) (σ:St) (H:Hp) (ρ:aw) (Q:List V->Hp->Prop),Rl K B H0 O σ H ρ->WR K E B H0 (fun r=>∀O' vs H',Ev O H O' H'->Rl K B H0 O' σ H' r.2->Paired (fun v pv=>Ll K H0 O' σ H' r.2 v pv/\fW pv) vs r.1->Q vs H') (f ρ)->t σ H Q
inductive RV where
 |fz (d:D)
 |ow (ds:List D)
noncomputable def RV.pv:RV->PV
 | .fz d=> .fz d
 | .ow ds=> .ow ds
def Fin (O:aX) (K:Hf) (H:Hp) (Q:VK):RV->Prop
 | .fz d=>∀v H',IX H H'->DV O K H' v d->Q v H'
 | .ow ds=>∀p vs H',IX H H'->H p=none->H' p=some (.lst vs)->Jm (bX O p) K H' vs ds->Q (.ref p) H'
def gd (O:aX) (H:Hp):Prop:=∀a,H a=none->¬O a
section
variable {K:Hf} {E:XK} {B O O':aX} {H0 H H':Hp} {σ:St} {ρ ρ':aw} {v:V}
theorem fE {Q:VK} {rv:RV} (R:Rl K B H0 O σ H ρ) (h:∀O' v H',Ev O H O' H'->Rl K B H0 O' σ H' ρ->Ll K H0 O' σ H' ρ v rv.pv->Q v H'):Fin O K H Q rv:=by
 cases rv with
 |fz d=>exact fun v H' s dv=>h O v H' (Ev.grow s) (R.grow s) dv
 |ow ds=>intro p vs H' s hp e dv;refine h (bX O p) (.ref p) H' (Ev.add s hp) (R.add s hp (by rw[e];simp)) ⟨p,vs,rfl,.inr rfl,R.RH hp,e,dv,fun i es hi z=> ?_⟩;obtain⟨u,h1,a,us,e2,g1,g2,g3,g4⟩:=R.slot i _ hi;rw[z] at h1;cases h1;cases e2;rw[hp] at g3;cases g3
theorem Fin.new {Q:VK} {ds:List D} {vs:List V} (hd:Jm O K H vs ds) (h:Fin O K H Q (.ow ds)):∀p,H p=none->Q (.ref p) (aY H p (.lst vs)):=fun p hp=>
 h p vs _ (bq hp _) hp ar (hd.ev (Ev.add (bq hp _) hp))
theorem Fin.Pa {Q:VK} {ds:List D} {vs:List V} (hd:Jm O K H vs ds) (hO:gd O H) (h:Fin O K H Q (.fz (.tuple ds))):∀p,H p=none->Q (.ref p) (aY H p (.tup vs)):=fun p hp=>
 h (.ref p) _ (bq hp _) (.tup ⟨Lh.of ar,fun z=>absurd z (hO p hp)⟩ (hd.ev (Ev.grow (bq hp _))))
theorem Fin.at {Q:VK} {d:D} (h:Fin O K H Q (.fz d)) (hv:DV O K H v d):Q v H:=h v H (IX.refl H) hv
noncomputable def tY (ρ:aw) (i:Nat):Option (Option PV)->Res (PV×aw)
 |some (some (.fz d))=> .ok (.fz d,ρ)
 |some (some (.ow _))=> .ok (.pl i,ρ)
 |_=> .bad
noncomputable def aa (i:Nat):FE:=fun ρ=>tY ρ i ρ[i]?
theorem au {i:Nat}:EO K E (mY i) (aa i):=by
 intro B H0 O σ H ρ Q R w;unfold aa at w;cases q:ρ[i]? with
 |none=>rw[q] at w;exact w.elim
 |some o=>
  cases o with
  |none=>rw[q] at w;exact w.elim
  |some x=>
   rw[q] at w;obtain⟨v,h1,h2⟩:=R.slot i x q;cases x with
   |fz d=>exact⟨v,h1,w O v H .refl R h2⟩
   |ow ds=>exact⟨v,h1,w O v H .refl R h1⟩
   |pl j=>exact w.elim
noncomputable def pC (d:D):FE:=fun ρ=> .ok (.fz d,ρ)
theorem wZ {v:V} {d:D} (h:∀O H,DV O K H v d):EO K E (tC v) (pC d):=fun B H0 O σ H ρ Q R w=>w O v H .refl R (h O H)
theorem aR {i:Int}:EO K E (tC (.int i)) (pC (.int i)):=wZ fun _ _=> .int i
theorem pP {b:Bool}:EO K E (tC (.bl b)) (pC (.bool b)):=wZ fun _ _=> .bl b
theorem sZ {x:Str}:EO K E (tC (.str x)) (pC (.str x)):=wZ fun _ _=> .str x
theorem wN:EO K E (tC .JD) (pC .none):=wZ fun _ _=> .JD
def jg (K:Hf) (r:R2) (f:D->D->Option RV):Prop:=∀(O:aX) (H:Hp) (x y:V) (dx dy:D) (rv:RV) (Q:VK),gd O H->DX O K H x dx->DX O K H y dy->f dx dy=some rv->Fin O K H Q rv->r x y H Q
noncomputable def am (f:D->D->Option RV) (fa fb:FE):FE:=fun ρ=>(fa ρ).bind fun a=>(fb a.2).bind fun b=>(Res.IJ (kq b.2 (fX a.1))).bind fun dx=>(Res.IJ (kq b.2 b.1)).bind fun dy=>(Res.IJ (f dx dy)).bind fun rv=> .ok (rv.pv,b.2)
theorem bT {r:R2} {f:D->D->Option RV} {ta tb:TE} {fa fb:FE} (hr:jg K r f) (ha:EO K E ta fa) (hb:EO K E tb fb):EO K E (Ek r ta tb) (am f fa fb):=by intro B H0 O σ H ρ Q R w;refine ha B H0 O σ H ρ _ R (w.bind.imp fun a w1 O1 x H1 e1 R1 p1=> ?_);obtain⟨O2,e2,R2,p2⟩:=ji R1 p1;refine hb B H0 O2 σ H1 a.2 _ R2 (w1.bind.imp fun b w2 O3 y H3 e3 R3 p3=> ?_);have p2':=p2.keep (kt a.1) e3 (ρ':=b.2);obtain⟨dx,qx,w2⟩:=w2.IJ;obtain⟨dy,qy,w2⟩:=w2.IJ;obtain⟨rv,qf,w2⟩:=w2.IJ;refine hr O3 H3 x y dx dy rv Q R3.od (gc R3 p2' qx) (gc R3 p3 qy) qf (fE R3 fun O4 v H4 e4 R4 p4=> ?_);exact w2 O4 v H4 (e1.trans (e2.trans (e3.trans e4))) R4 p4
def GY (K:Hf) (r:V->Hp->VK->Prop) (f:D->Option RV):Prop:=∀(O:aX) (H:Hp) (x:V) (dx:D) (rv:RV) (Q:VK),gd O H->DX O K H x dx->f dx=some rv->Fin O K H Q rv->r x H Q
noncomputable def o9 (f:D->Option RV) (fa:FE):FE:=fun ρ=>(fa ρ).bind fun a=>(Res.IJ (kq a.2 a.1)).bind fun dx=>(Res.IJ (f dx)).bind fun rv=> .ok (rv.pv,a.2)
theorem zt {r:V->Hp->VK->Prop} {f:D->Option RV} {ta:TE} {fa:FE} (hr:GY K r f) (ha:EO K E ta fa):EO K E (FZ r ta) (o9 f fa):=by intro B H0 O σ H ρ Q R w;refine ha B H0 O σ H ρ _ R (w.bind.imp fun a w1 O1 x H1 e1 R1 p1=> ?_);obtain⟨dx,qx,w1⟩:=w1.IJ;obtain⟨rv,qf,w1⟩:=w1.IJ;exact hr O1 H1 x dx rv Q R1.od (gc R1 p1 qx) qf (fE R1 fun O4 v H4 e4 R4 p4=>w1 O4 v H4 (e1.trans e4) R4 p4)
noncomputable def Gf:D->Option Bool
 | .bool b=>some b
 |_=>none
theorem DQ {O:aX} {H:Hp} {x:V} {d:D} {b:Bool} (h:DX O K H x d) (e:Gf d=some b):x= .bl b:=by cases d<;>cases e;cases h;rfl
noncomputable def aC (fa:FE):aw->Res (Bool×aw):=fun ρ=>(fa ρ).bind fun a=>(Res.IJ (kq a.2 a.1)).bind fun d=>(Res.IJ (Gf d)).bind fun b=> .ok (b,a.2)
theorem cG {ta:TE} {fa:FE} (ha:EO K E ta fa):Om K E (vd ta) (aC fa):=by intro B H0 O σ H ρ Q R w;refine ha B H0 O σ H ρ _ R (w.bind.imp fun a w1 O1 x H1 e1 R1 p1=> ?_);obtain⟨d,qd,w1⟩:=w1.IJ;obtain⟨b,qb,w1⟩:=w1.IJ;exact⟨b,DQ (gc R1 p1 qd) qb,w1 O1 H1 e1 R1⟩
theorem uM {ta:TE} {fa:FE} (ha:EO K E ta fa):Om K E (tB ta) (aC fa):=cG ha
noncomputable def we (fa fb:FT):FT:=fun ρ=>(fa ρ).bind fun a=>if a.1=true then fb a.2 else .ok (false,a.2)
noncomputable def l7 (fa fb:FT):FT:=fun ρ=>(fa ρ).bind fun a=>if a.1=true then .ok (true,a.2) else fb a.2
noncomputable def gh (fa:FT):FT:=fun ρ=>(fa ρ).bind fun a=> .ok (!a.1,a.2)
theorem Om.next {t:TT} {f:FT} {Q:Bool->Hp->Prop} (h:Om K E t f) {O1:aX} {H1:Hp} {ρ:aw} (R:Rl K B H0 O1 σ H1 ρ) (e1:Ev O H O1 H1) (w:WR K E B H0 (fun r=>∀O' H',Ev O H O' H'->Rl K B H0 O' σ H' r.2->Q r.1 H') (f ρ)):t σ H1 Q:=
 h B H0 O1 σ H1 ρ Q R (w.imp fun r q O' H' e' R'=>q O' H' (e1.trans e') R')
theorem EO.next {t:TE} {f:FE} {Q:VK} (h:EO K E t f) {O1:aX} {H1:Hp} {ρ:aw} (R:Rl K B H0 O1 σ H1 ρ) (e1:Ev O H O1 H1) (w:WR K E B H0 (fun r=>∀O' v H',Ev O H O' H'->Rl K B H0 O' σ H' r.2->Ll K H0 O' σ H' r.2 v r.1->Q v H') (f ρ)):t σ H1 Q:=
 h B H0 O1 σ H1 ρ Q R (w.imp fun r q O' v H' e' R' p'=>q O' v H' (e1.trans e') R' p')
theorem uJ {t u:TT} {f g:FT} (h1:Om K E t f) (h2:Om K E u g):Om K E (Ea t u) (we f g):=by
 intro B H0 O σ H ρ Q R w;refine h1 B H0 O σ H ρ _ R (w.bind.imp fun a w1 O1 H1 e1 R1=> ?_);obtain⟨b,ρ1⟩:=a;cases b with
 |true=>exact h2.next R1 e1 w1
 |false=>exact w1 O1 H1 e1 R1
theorem wL {t u:TT} {f g:FT} (h1:Om K E t f) (h2:Om K E u g):Om K E (GI t u) (l7 f g):=by
 intro B H0 O σ H ρ Q R w;refine h1 B H0 O σ H ρ _ R (w.bind.imp fun a w1 O1 H1 e1 R1=> ?_);obtain⟨b,ρ1⟩:=a;cases b with
 |true=>exact w1 O1 H1 e1 R1
 |false=>exact h2.next R1 e1 w1
theorem n5 {t:TT} {f:FT} (h1:Om K E t f):Om K E (D0 t) (gh f):=by intro B H0 O σ H ρ Q R w;exact h1 B H0 O σ H ρ _ R (w.bind.imp fun a w1 O1 H1 e1 R1=>w1 O1 H1 e1 R1)
noncomputable def cF:FT:=fun ρ=> .ok (true,ρ)
theorem d8:Om K E Ce cF:=fun B H0 O σ H ρ Q R w=>w O H .refl R
noncomputable def p0 (fa fb:FE):FE:=fun ρ=>(aC fa ρ).bind fun a=>if a.1=true then fb a.2 else .ok (.fz (.bool false),a.2)
noncomputable def ww (fa:FE):FE:=fun ρ=>(aC fa ρ).bind fun a=> .ok (.fz (.bool (!a.1)),a.2)
theorem sR {ta tb:TE} {fa fb:FE} (ha:EO K E ta fa) (hb:EO K E tb fb):EO K E (ye ta tb) (p0 fa fb):=by
 intro B H0 O σ H ρ Q R w;refine cG ha B H0 O σ H ρ (fun c H1=>if c=true then tb σ H1 Q else Q (.bl false) H1) R (w.bind.imp fun a w1 O1 H1 e1 R1=> ?_);obtain⟨b,ρ1⟩:=a;cases b with
 |true=>exact hb.next R1 e1 w1
 |false=>exact w1 O1 _ H1 e1 R1 (.bl false)
theorem xZ {ta:TE} {fa:FE} (ha:EO K E ta fa):EO K E (BG ta) (ww fa):=by intro B H0 O σ H ρ Q R w;exact cG ha B H0 O σ H ρ (fun c H1=>Q (.bl (!c)) H1) R (w.bind.imp fun a w1 O1 H1 e1 R1=>w1 O1 _ H1 e1 R1 (.bl _))
noncomputable def ah:FA:=fun ρ=> .ok ([],ρ)
noncomputable def ac (fa:FE) (fr:FA):FA:=fun ρ=>(fa ρ).bind fun a=>(fr a.2).bind fun b=> .ok (fX a.1::b.1,b.2)
theorem bz:AO K E l6 ah:=fun B H0 O σ H ρ Q R w=>w O [] H .refl R .nil
theorem aU {ta:TE} {tr:TA} {fa:FE} {fr:FA} (ha:EO K E ta fa) (hr:AO K E tr fr):AO K E (fy ta tr) (ac fa fr):=by intro B H0 O σ H ρ Q R w;refine ha B H0 O σ H ρ _ R (w.bind.imp fun a w1 O1 x H1 e1 R1 p1=> ?_);obtain⟨O2,e2,R2,p2⟩:=ji R1 p1;refine hr B H0 O2 σ H1 a.2 _ R2 (w1.bind.imp fun b w2 O3 ys H3 e3 R3 p3=> ?_);exact w2 O3 (x::ys) H3 (e1.trans (e2.trans e3)) R3 (.cons ⟨p2.keep (kt a.1) e3,kt a.1⟩ p3)
noncomputable def iW (ρ:aw):List PV->Option (List D)
 |[]=>some []
 |p::r=>match kq ρ p with
  |some d=>(match iW ρ r with
   |some ds=>some (d::ds)
   |none=>none)
  |none=>none
theorem mW (R:Rl K B H0 O σ H ρ):∀{vs:List V} {ps:List PV} {ds:List D},Paired (fun v pv=>Ll K H0 O σ H ρ v pv/\fW pv) vs ps->iW ρ ps=some ds->Paired (DX O K H) vs ds
 |_,_,_,.nil,e=>by cases e;exact .nil
 |_,_,_,.cons (l₁:=vs) (l₂:=ps) (b:=p) h t,e=>by
  unfold iW at e;cases q:kq ρ p with
  |none=>rw[q] at e;cases e
  |some d=>
   rw[q] at e;dsimp only at e;cases q2:iW ρ ps with
   |none=>rw[q2] at e;cases e
   |some Uw=>rw[q2] at e;cases e;exact .cons (gc R h.1 q) (mW R t q2)
noncomputable def lm (ρ:aw):List PV->Option (List D×aw)
 |[]=>some ([],ρ)
 |p::r=>match oV ρ p with
  |some (d,ρ1)=>(match lm ρ1 r with
   |some (ds,ρ2)=>some (d::ds,ρ2)
   |none=>none)
  |none=>none
theorem o0:∀{vs:List V} {ps:List PV} {ds:List D} {O:aX} {ρ ρ':aw},Rl K B H0 O σ H ρ->Paired (fun v pv=>Ll K H0 O σ H ρ v pv/\fW pv) vs ps->lm ρ ps=some (ds,ρ')->∃O',Ev O H O' H/\Rl K B H0 O' σ H ρ'/\Jm O' K H vs ds
 |_,_,_,O,_,_,R,.nil,e=>by cases e;exact⟨O,.refl,R,.nil⟩
 |_,_,_,O,ρ,ρ',R,.cons (l₁:=vs) (l₂:=ps) (b:=p) h t,e=>by
  unfold lm at e;cases q:oV ρ p with
  |none=>rw[q] at e;cases e
  |some r=>
   obtain⟨d,ρ1⟩:=r;rw[q] at e;dsimp only at e;cases q2:lm ρ1 ps with
   |none=>rw[q2] at e;cases e
   |some r2=>obtain⟨Uw,ρ2⟩:=r2;rw[q2] at e;cases e;obtain⟨O1,e1,R1,d1⟩:=lM R h.1 q;have t1:Paired (fun v pv=>Ll K H0 O1 σ H ρ1 v pv/\fW pv) vs ps:=Paired.Mi t fun v pv ⟨h1,h2⟩=>⟨h1.keep h2 e1,h2⟩;obtain⟨O2,e2,R2,d2⟩:=o0 R1 t1 q2;exact⟨O2,e1.trans e2,R2,.cons (d1.ev e2) d2⟩
abbrev FN:=List D->Res RV
noncomputable def ic (K:Hf) (n:Nat) (F:FN):Sp:=fun vs H Q E=>vs.length=n/\∃(B:aX) (ds:List D),(∀a,B a->H a≠none)/\Jm B K H vs ds/\WR K E B H (Fin B K H Q) (F ds)
noncomputable def ck (fa:FA):FE:=fun ρ=>(fa ρ).bind fun a=>(Res.IJ (lm a.2 a.1)).bind fun b=>if b.1.length<=1000 then .ok (.fz (.tuple b.1),b.2) else .bad
noncomputable def cH (fa:FA):FE:=fun ρ=>(fa ρ).bind fun a=>(Res.IJ (lm a.2 a.1)).bind fun b=>if b.1.length<=1000 then .ok (.ow b.1,b.2) else .bad
theorem ze {n:Nat} (h:n<=1000):n<=Ht:=Il h (by decide)
theorem jG {ta:TA} {fa:FA} (ha:AO K E ta fa):EO K E (Eu ta) (ck fa):=by
 intro B H0 O σ H ρ Q R w;refine ha B H0 O σ H ρ _ R (w.bind.imp fun a w1 O1 vs H1 e1 R1 p1=> ?_);obtain⟨⟨ds,ρ2⟩,q,w2⟩:=w1.IJ;obtain⟨O2,e2,R2,dv⟩:=o0 R1 p1 q;dsimp only at w2;by_cases hn:ds.length<=1000
 ·rw[if_pos hn] at w2;refine⟨by rw[dv.length];exact ze hn,Fin.Pa dv R2.od (fE (rv:= .fz (.tuple ds)) R2 fun O3 v H3 e3 R3 p3=>w2 O3 v H3 (e1.trans (e2.trans e3)) R3 p3)⟩
 ·rw[if_neg hn] at w2;exact w2.elim
theorem jF {ta:TA} {fa:FA} (ha:AO K E ta fa):EO K E (Cp ta) (cH fa):=by
 intro B H0 O σ H ρ Q R w;refine ha B H0 O σ H ρ _ R (w.bind.imp fun a w1 O1 vs H1 e1 R1 p1=> ?_);obtain⟨⟨ds,ρ2⟩,q,w2⟩:=w1.IJ;obtain⟨O2,e2,R2,dv⟩:=o0 R1 p1 q;dsimp only at w2;by_cases hn:ds.length<=1000
 ·rw[if_pos hn] at w2;refine⟨by rw[dv.length];exact ze hn,Fin.new dv (fE (rv:= .ow ds) R2 fun O3 v H3 e3 R3 p3=>w2 O3 v H3 (e1.trans (e2.trans e3)) R3 p3)⟩
 ·rw[if_neg hn] at w2;exact w2.elim
def Ef (K:Hf) (r:List V->Hp->VK->Prop) (f:List D->Option RV):Prop:=∀(O:aX) (H:Hp) (xs:List V) (ds:List D) (rv:RV) (Q:VK),gd O H->Paired (DX O K H) xs ds->f ds=some rv->Fin O K H Q rv->r xs H Q
noncomputable def fR (f:List D->Option RV) (fa:FA):FE:=fun ρ=>(fa ρ).bind fun a=>(Res.IJ (iW a.2 a.1)).bind fun ds=>(Res.IJ (f ds)).bind fun rv=> .ok (rv.pv,a.2)
theorem jM {r:List V->Hp->VK->Prop} {f:List D->Option RV} {ta:TA} {fa:FA} (hr:Ef K r f) (ha:AO K E ta fa):EO K E (D8 r ta) (fR f fa):=by intro B H0 O σ H ρ Q R w;refine ha B H0 O σ H ρ _ R (w.bind.imp fun a w1 O1 vs H1 e1 R1 p1=> ?_);obtain⟨ds,q,w2⟩:=w1.IJ;obtain⟨rv,qf,w2⟩:=w2.IJ;exact hr O1 H1 vs ds rv Q R1.od (mW R1 p1 q) qf (fE R1 fun O4 v H4 e4 R4 p4=>w2 O4 v H4 (e1.trans e4) R4 p4)
noncomputable def F6:D->Option Int
 | .int i=>some i
 |_=>none
theorem yY {O:aX} {H:Hp} {x:V} {d:D} {i:Int} (h:DX O K H x d) (e:F6 d=some i):x= .int i:=by cases d<;>cases e;cases h;rfl
abbrev FO:=aw->Res (Option Int×aw)
def F4 (K:Hf) (E:XK) (t:TO) (f:FO):Prop:=
 ∀(B:aX) (H0:Hp) (O:aX) (σ:St) (H:Hp) (ρ:aw) (Q:Option Int->Hp->Prop),Rl K B H0 O σ H ρ->WR K E B H0 (fun r=>∀O' H',Ev O H O' H'->Rl K B H0 O' σ H' r.2->Q r.1 H') (f ρ)->t σ H Q
noncomputable def cn:FO:=fun ρ=> .ok (none,ρ)
noncomputable def bh (fa:FE):FO:=fun ρ=>(fa ρ).bind fun a=>(Res.IJ (kq a.2 a.1)).bind fun d=>(Res.IJ (F6 d)).bind fun i=> .ok (some i,a.2)
theorem xL:F4 K E uq cn:=fun B H0 O σ H ρ Q R w=>w O H .refl R
theorem gj {ta:TE} {fa:FE} (ha:EO K E ta fa):F4 K E (uR ta) (bh fa):=by intro B H0 O σ H ρ Q R w;refine ha B H0 O σ H ρ _ R (w.bind.imp fun a w1 O1 x H1 e1 R1 p1=> ?_);obtain⟨d,q,w2⟩:=w1.IJ;obtain⟨i,qi,w2⟩:=w2.IJ;exact⟨i,yY (gc R1 p1 q) qi,w2 O1 H1 e1 R1⟩
def F7 (K:Hf) (r:V->Option Int->Option Int->Hp->VK->Prop) (f:D->Option Int->Option Int->Option RV):Prop:=∀(O:aX) (H:Hp) (x:V) (lo hi:Option Int) (dx:D) (rv:RV) (Q:VK),gd O H->DX O K H x dx->f dx lo hi=some rv->Fin O K H Q rv->r x lo hi H Q
noncomputable def iJ (f:D->Option Int->Option Int->Option RV) (fa:FE) (fl fh:FO):FE:=fun ρ=>(fa ρ).bind fun a=>(fl a.2).bind fun l=>(fh l.2).bind fun h=>(Res.IJ (kq h.2 (fX a.1))).bind fun dx=>(Res.IJ (f dx l.1 h.1)).bind fun rv=> .ok (rv.pv,h.2)
theorem xj {r:V->Option Int->Option Int->Hp->VK->Prop} {f:D->Option Int->Option Int->Option RV} {ta:TE} {tl th:TO} {fa:FE} {fl fh:FO} (hr:F7 K r f) (ha:EO K E ta fa) (hl:F4 K E tl fl) (hh:F4 K E th fh):EO K E (GV r ta tl th) (iJ f fa fl fh):=by intro B H0 O σ H ρ Q R w;refine ha B H0 O σ H ρ _ R (w.bind.imp fun a w1 O1 x H1 e1 R1 p1=> ?_);obtain⟨O2,e2,R2,p2⟩:=ji R1 p1;refine hl B H0 O2 σ H1 a.2 _ R2 (w1.bind.imp fun l w2 O3 H3 e3 R3=> ?_);refine hh B H0 O3 σ H3 l.2 _ R3 (w2.bind.imp fun h w3 O4 H4 e4 R4=> ?_);obtain⟨dx,qx,w3⟩:=w3.IJ;obtain⟨rv,qf,w3⟩:=w3.IJ;exact hr O4 H4 x l.1 h.1 dx rv Q R4.od (gc R4 (p2.keep (kt a.1) (e3.trans e4)) qx) qf (fE R4 fun O5 v H5 e5 R5 p5=>w3 O5 v H5 (e1.trans (e2.trans (e3.trans (e4.trans e5)))) R5 p5)
end
theorem oh {α:Type} {l:List α} {i:Nat} {x y:α} (h:(l.set i x)[i]? =some y):i<l.length:=by
 rw[IG] at h;rw[if_pos rfl] at h;split at h
 ·assumption
 ·cases h
section
variable {K:Hf} {E:XK} {B O O':aX} {H0 H H':Hp} {σ:St} {ρ ρ':aw} {v:V}
theorem Rl.mut {i:Nat} {ds Uw:List D} {a:Hj} {RJ:List V} (R:Rl K B H0 O σ H ρ) (hi:ρ[i]? =some (some (.ow ds))) (hv:σ[i]? =some (some (.ref a))) (hO:O a) (h0:H0 a=none) (hd:Jm O K H RJ Uw):
  Rl K B H0 O σ (aY H a (.lst RJ)) (ρ.set i (some (.ow Uw))):=by
 have ev:Ev O H O (aY H a (.lst RJ)):=Ev.mut hO _;refine⟨fun b o e=>by rw[aj (b7 e h0)];exact R.same b o e,R.bo,R.bd,fun b hb=> ?_,by rw[IZ];exact R.len,fun j x hx=> ?_,fun j k xs ys w hj hk Oz LG=> ?_⟩
 ·by_cases e:b=a
  ·rw[e,ar] at hb;cases hb
  ·rw[aj e] at hb;exact R.od b hb
 ·rcases bG hx with⟨rfl,ee⟩|⟨LS,hx⟩
  ·cases ee;exact⟨_,hv,a,RJ,rfl,hO,h0,ar,hd.ev ev⟩
  ·obtain⟨u,m1,m2⟩:=R.slot j x hx
   refine⟨u,m1,?_⟩;cases x with
   |fz d=>exact DV.ev ev m2
   |pl i=>exact m2
   |ow xs=>obtain⟨b,us,rfl,n1,n2,n3,n4⟩:=m2;have ZD:b≠a:=fun z=>LS (R.one j i xs ds (.ref a) hx hi (by rw[m1,z]) hv);exact⟨b,us,rfl,n1,n2,by rw[aj ZD];exact n3,n4.ev ev⟩
 ·have own:∀{j:Nat} {xs:List D},(ρ.set i (some (.ow Uw)))[j]? =some (some (.ow xs))->∃ys,ρ[j]? =some (some (.ow ys)):=fun{j xs} h=>by
   rcases bG h with⟨rfl,_⟩|⟨_,h⟩
   ·exact⟨_,hi⟩
   ·exact⟨_,h⟩
  obtain⟨ZU,Ya⟩:=own hj;obtain⟨ys',Sf⟩:=own hk;exact R.one j k ZU ys' w Ya Sf Oz LG
theorem mJ {n:Nat} (h:n<1000000):n<Ht:=Hx h (by decide)
noncomputable def pY:Option (Option PV)->Option (List D)
 |some (some (.ow ds))=>some ds
 |_=>none
theorem ke {o:Option (Option PV)} {ds:List D} (h:pY o=some ds):o=some (some (.ow ds)):=by
 unfold pY at h;split at h
 ·cases h;rfl
 ·cases h
noncomputable def gH (i:Nat) (fe:FE):FE:=fun ρ=>(Res.IJ (pY ρ[i]?)).bind fun _=>(fe ρ).bind fun a=>(Res.IJ (oV a.2 a.1)).bind fun b=>(Res.IJ (pY b.2[i]?)).bind fun ds=>
 if ds.length<1000000 then .ok (.fz .none,b.2.set i (some (.ow (ds++[b.1])))) else .bad
theorem yq {i:Nat} {te:TE} {fe:FE} (he:EO K E te fe):EO K E (E9 K "list" nO (mY i) (fy te l6)) (gH i fe):=by
 intro B H0 O σ H ρ Q R w;obtain⟨ds0,q0,w⟩:=w.IJ;obtain⟨v,g1,a,vs,rfl,g2,g3,g4,g5⟩:=R.slot i _ (ke q0);refine⟨_,g1,.inl ⟨rfl,_,Lk.of g4⟩,?_⟩;refine he B H0 O σ H ρ _ R (w.bind.imp fun b w1 O1 y H1 e1 R1 p1=> ?_);obtain⟨⟨d,ρ2⟩,qd,w1⟩:=w1.IJ;obtain⟨O2,e2,R2,dv⟩:=lM R1 p1 qd;obtain⟨ds,qo,w1⟩:=w1.IJ;have qo:=ke qo;obtain⟨v',k1,a',RJ,e',k2,k3,k4,k5⟩:=R2.slot i _ qo;subst e';rw[g1] at k1;cases k1;dsimp only at w1;by_cases hl:ds.length<1000000
 ·rw[if_pos hl] at w1;refine⟨a,RJ,y,rfl,rfl,k4,mJ (by rw[k5.length];exact hl),?_⟩;exact w1 O2 .JD _ (e1.trans (e2.trans (Ev.mut k2 _))) (R2.mut qo g1 k2 k3 (k5.append (.cons dv .nil))) .JD
 ·rw[if_neg hl] at w1;exact w1.elim
abbrev FG:=PV->aw->Res aw
abbrev Eh:=List D->aw->Res aw
def GO (K:Hf) (E:XK) (g:TG) (f:FG):Prop:=
 ∀(B:aX) (H0:Hp) (O:aX) (σ:St) (H:Hp) (ρ:aw) (v:V) (pv:PV) (Q:St->Hp->Prop),Rl K B H0 O σ H ρ->Ll K H0 O σ H ρ v pv->WR K E B H0 (fun ρ'=>∀O' σ' H',Ev O H O' H'->Rl K B H0 O' σ' H' ρ'->Q σ' H') (f pv ρ)->g v σ H Q
def FV (K:Hf) (E:XK) (g:vX) (f:Eh):Prop:=
 ∀(B:aX) (H0:Hp) (O:aX) (σ:St) (H:Hp) (ρ:aw) (vs:List V) (ds:List D) (Q:St->Hp->Prop),Rl K B H0 O σ H ρ->Jm O K H vs ds->WR K E B H0 (fun ρ'=>∀O' σ' H',Ev O H O' H'->Rl K B H0 O' σ' H' ρ'->Q σ' H') (f ds ρ)->g vs σ H Q
theorem Rl.TY {i:Nat} {d:D} (R:Rl K B H0 O σ H ρ) (h:DV O K H v d):Rl K B H0 O (σ.set i (some v)) H (ρ.set i (some (.fz d))):=by
 refine⟨R.same,R.bo,R.bd,R.od,by rw[IZ,IZ];exact R.len,fun j x hx=> ?_,fun j k xs ys w hj hk Oz LG=> ?_⟩
 ·rcases bG hx with⟨rfl,e⟩|⟨LS,hx⟩
  ·cases e;have:=oh hx;exact⟨v,by rw[IG,if_pos rfl,if_pos (by rw[R.len];exact this)],h⟩
  ·obtain⟨u,m1,m2⟩:=R.slot j x hx;exact⟨u,by rw[IG,if_neg (fun z=>LS z.symm)];exact m1,m2⟩
 ·rcases bG hj with⟨rfl,ee⟩|⟨n1,hj⟩
  ·cases ee
  ·rcases bG hk with⟨rfl,ee⟩|⟨n2,hk⟩
   ·cases ee
   ·rw[IG,if_neg (fun z=>n1 z.symm)] at Oz;rw[IG,if_neg (fun z=>n2 z.symm)] at LG;exact R.one j k xs ys w hj hk Oz LG
theorem Rl.WK {i:Nat} {ds:List D} (R:Rl K B H0 O σ H ρ) (h:Ll K H0 O σ H ρ v (.ow ds)):Rl K B H0 O (σ.set i (some v)) H (ρ.set i (some (.ow ds))):=by
 obtain⟨a,vs,rfl,h1,h2,h3,h4,h5⟩:=h;refine⟨R.same,R.bo,R.bd,R.od,by rw[IZ,IZ];exact R.len,fun j x hx=> ?_,fun j k xs ys w hj hk Oz LG=> ?_⟩
 ·rcases bG hx with⟨rfl,e⟩|⟨LS,hx⟩
  ·cases e;have:=oh hx;exact⟨.ref a,by rw[IG,if_pos rfl,if_pos (by rw[R.len];exact this)],a,vs,rfl,h1,h2,h3,h4⟩
  ·obtain⟨u,m1,m2⟩:=R.slot j x hx;exact⟨u,by rw[IG,if_neg (fun z=>LS z.symm)];exact m1,m2⟩
 ·rcases bG hj with⟨rfl,ee⟩|⟨n1,UO⟩
  ·rcases bG hk with⟨rfl,ee2⟩|⟨n2,hk⟩
   ·rfl
   ·rw[IG,if_neg (fun z=>n2 z.symm)] at LG
    rcases bG Oz with⟨_,e⟩|⟨z,_⟩
    ·cases e;exact absurd LG (h5 k ys hk)
    ·exact absurd rfl z
  ·have Ya:=UO
   rw[IG,if_neg (fun z=>n1 z.symm)] at Oz;rcases bG hk with⟨rfl,ee⟩|⟨n2,hk⟩
   ·rcases bG LG with⟨_,e⟩|⟨z,_⟩
    ·cases e;exact absurd Oz (h5 j xs UO)
    ·exact absurd rfl z
   ·rw[IG,if_neg (fun z=>n2 z.symm)] at LG;exact R.one j k xs ys w UO hk Oz LG
noncomputable def gN (i:Nat):FG:=fun pv ρ=>match pv with
 | .ow ds=> .ok (ρ.set i (some (.ow ds)))
 | .fz d=> .ok (ρ.set i (some (.fz d)))
 | .pl j=>(Res.IJ (oV ρ (.pl j))).bind fun b=> .ok (b.2.set i (some (.fz b.1)))
theorem bc {i:Nat}:GO K E (mi i) (gN i):=by
 intro B H0 O σ H ρ v pv Q R p w;cases pv with
 |ow ds=>exact w O _ H .refl (R.WK p)
 |fz d=>exact w O _ H .refl (R.TY p)
 |pl j=>obtain⟨⟨d,ρ2⟩,q,w⟩:=WR.IJ (show WR K E B H0 _ ((Res.IJ (oV ρ (.pl j))).bind fun b=> .ok (b.2.set i (some (.fz b.1)))) from w);obtain⟨O2,e2,R2,dv⟩:=lM R p q;exact w O2 _ H e2 (R2.TY dv)
noncomputable def Ad:Eh:=fun ds ρ=>match ds with
 |[]=> .ok ρ
 |_=> .bad
noncomputable def rh (f:FG) (g:Eh):Eh:=fun ds ρ=>match ds with
 |[]=> .bad
 |d::r=>(f (.fz d) ρ).bind fun ρ1=>g r ρ1
theorem sK:FV K E DN Ad:=by
 intro B H0 O σ H ρ vs ds Q R dv w;cases dv with
 |nil=>exact⟨rfl,w O σ H .refl R⟩
 |cons _ _=>exact w.elim
theorem iM {t:TG} {u:vX} {f:FG} {g:Eh} (h1:GO K E t f) (h2:FV K E u g):FV K E (yp t u) (rh f g):=by
 intro B H0 O σ H ρ vs ds Q R dv w;cases dv with
 |nil=>exact w.elim
 |cons hd tl=>rename_i v vs d ds;refine⟨_,_,rfl,h1 B H0 O σ H ρ _ (.fz d) _ R hd (WR.imp (WR.bind w) fun ρ1 w1 O1 σ1 H1 e1 R1=> ?_)⟩;exact h2 B H0 O1 σ1 H1 ρ1 _ _ Q R1 (tl.ev e1) (w1.imp fun ρ2 q O2 σ2 H2 e2 R2=>q O2 σ2 H2 (e1.trans e2) R2)
noncomputable def GQ:D->Option (List D)
 | .tuple ds=>some ds
 |_=>none
theorem zn {O:aX} {H:Hp} {x:V} {d:D} {ds:List D} (h:DX O K H x d) (e:GQ d=some ds):∃a xs,x= .ref a/\Mp O K H a xs/\Jm O K H xs ds:=by
 cases d<;>cases e;cases h with
 |tup h hs=>exact⟨_,_,rfl,h,hs⟩
noncomputable def gT (n:Nat) (f:Eh):FG:=fun pv ρ=>(Res.IJ (kq ρ pv)).bind fun d=>(Res.IJ (GQ d)).bind fun ds=>if ds.length=n then f ds ρ else .bad
theorem rX {n:Nat} {t:vX} {f:Eh} (h:FV K E t f):GO K E (Cy K n t) (gT n f):=by
 intro B H0 O σ H ρ v pv Q R p w;obtain⟨d,qd,w⟩:=w.IJ;obtain⟨ds,qs,w⟩:=w.IJ;obtain⟨a,xs,rfl,hq,hx⟩:=zn (gc R p qd) qs;by_cases hn:ds.length=n
 ·rw[if_pos hn] at w;exact⟨a,xs,rfl,hq.1,hx.length.trans hn,h B H0 O σ H ρ xs ds Q R hx w⟩
 ·rw[if_neg hn] at w;exact w.elim
inductive Fl where
 |nx (ρ:aw)
 |rt (rv:RV)
 |bk (ρ:aw)
 |ct (ρ:aw)
abbrev FS:=aw->Res Fl
def PB (K:Hf) (B:aX) (H0:Hp) (O:aX) (H:Hp) (D:Ends):Fl->Prop
 | .nx ρ'=>∀O' σ' H',Ev O H O' H'->Rl K B H0 O' σ' H' ρ'->D.nx σ' H'
 | .bk ρ'=>∀O' σ' H',Ev O H O' H'->Rl K B H0 O' σ' H' ρ'->D.bk σ' H'
 | .ct ρ'=>∀O' σ' H',Ev O H O' H'->Rl K B H0 O' σ' H' ρ'->D.ct σ' H'
 | .rt rv=>Fin B K H0 D.rt rv
def SO (K:Hf) (E:XK) (t:TS) (g:FS):Prop:=
 ∀(B:aX) (H0:Hp) (O:aX) (σ:St) (H:Hp) (ρ:aw) (D:Ends),Rl K B H0 O σ H ρ->WR K E B H0 (PB K B H0 O H D) (g ρ)->t D σ H
theorem PB.ev {D:Ends} {fl:Fl} {O1:aX} {H1:Hp} (e:Ev O H O1 H1) (h:PB K B H0 O H D fl):PB K B H0 O1 H1 D fl:=by
 cases fl with
 |nx ρ'=>exact fun O' σ' H' e' R'=>h O' σ' H' (e.trans e') R'
 |bk ρ'=>exact fun O' σ' H' e' R'=>h O' σ' H' (e.trans e') R'
 |ct ρ'=>exact fun O' σ' H' e' R'=>h O' σ' H' (e.trans e') R'
 |rt rv=>exact h
noncomputable def bO:FS:=fun ρ=> .ok (.nx ρ)
noncomputable def ak (f g:FS):FS:=fun ρ=>(f ρ).bind fun fl=>match fl with
 | .nx ρ1=>g ρ1
 |fl=> .ok fl
noncomputable def cC (f:FE):FS:=fun ρ=>(f ρ).bind fun a=> .ok (.nx a.2)
noncomputable def aJ (f:FE) (g:FG):FS:=fun ρ=>(f ρ).bind fun a=>(g a.1 a.2).bind fun ρ1=> .ok (.nx ρ1)
noncomputable def ig (c:FT) (f g:FS):FS:=fun ρ=>(c ρ).bind fun a=>if a.1=true then f a.2 else g a.2
noncomputable def vY (ρ:aw):PV->Option RV
 | .fz d=>some (.fz d)
 | .ow ds=>some (.ow ds)
 | .pl i=>match ρ[i]? with
  |some (some (.fz d))=>some (.fz d)
  |some (some (.ow ds))=>some (.ow ds)
  |_=>none
noncomputable def bU (f:FE):FS:=fun ρ=>(f ρ).bind fun a=>(Res.IJ (vY a.2 a.1)).bind fun rv=> .ok (.rt rv)
theorem fQ:SO K E u6 bO:=fun B H0 O σ H ρ D R w=>w O σ H .refl R
theorem ap {t u:TS} {f g:FS} (h1:SO K E t f) (h2:SO K E u g):SO K E (AH t u) (ak f g):=by
 intro B H0 O σ H ρ D R w;refine h1 B H0 O σ H ρ {D with nx:=u D} R (WR.imp (WR.bind w) fun fl w1=> ?_);cases fl with
 |nx ρ1=>exact fun O1 σ1 H1 e1 R1=>h2 B H0 O1 σ1 H1 ρ1 D R1 (WR.imp w1 fun fl q=>q.ev e1)
 |rt rv=>exact w1
 |bk ρ1=>exact w1
 |ct ρ1=>exact w1
theorem ug {t:TE} {f:FE} (h:EO K E t f):SO K E (qU t) (cC f):=by intro B H0 O σ H ρ D R w;exact h B H0 O σ H ρ _ R (w.bind.imp fun a w1 O1 x H1 e1 R1 p1=>w1 O1 σ H1 e1 R1)
theorem d9 {t:TE} {f:FE} {g:TG} {fg:FG} (h:EO K E t f) (hg:GO K E g fg):SO K E (xT t g) (aJ f fg):=by intro B H0 O σ H ρ D R w;refine h B H0 O σ H ρ _ R (w.bind.imp fun a w1 O1 x H1 e1 R1 p1=> ?_);exact hg B H0 O1 σ H1 a.2 x a.1 _ R1 p1 (w1.bind.imp fun ρ1 w2 O2 σ2 H2 e2 R2=>w2 O2 σ2 H2 (e1.trans e2) R2)
theorem kB {c:TT} {fc:FT} {t u:TS} {f g:FS} (hc:Om K E c fc) (h1:SO K E t f) (h2:SO K E u g):SO K E (z8 c t u) (ig fc f g):=by
 intro B H0 O σ H ρ D R w;refine hc B H0 O σ H ρ _ R (w.bind.imp fun a w1 O1 H1 e1 R1=> ?_);obtain⟨b,ρ1⟩:=a;cases b with
 |true=>exact h1 B H0 O1 σ H1 ρ1 D R1 (WR.imp w1 fun fl q=>q.ev e1)
 |false=>exact h2 B H0 O1 σ H1 ρ1 D R1 (WR.imp w1 fun fl q=>q.ev e1)
theorem Cu {Q:VK} {pv:PV} {rv:RV} (R:Rl K B H0 O σ H ρ) (p:Ll K H0 O σ H ρ v pv) (e:vY ρ pv=some rv) (w:Fin B K H0 Q rv):Q v H:=by
 have ow:∀{a:Hj} {vs:List V} {ds:List D},O a->H0 a=none->H a=some (.lst vs)->Jm O K H vs ds->Fin B K H0 Q (.ow ds)->Q (.ref a) H:=fun{a vs ds} h1 h2 h3 h4 w=>
  w a vs H R.same h2 h3 (h4.ev (Ev.sub fun b z=>z.elim (R.bo b) fun e=>by rw[e];exact h1))
 have fz:∀{d:D},DV O K H v d->Fin B K H0 Q (.fz d)->Q v H:=fun{d} h w=>w v H R.same (h.ev (Ev.sub R.bo));cases pv with
 |fz d=>cases e;exact fz p w
 |ow ds=>cases e;obtain⟨a,vs,rfl,h1,h2,h3,h4,h5⟩:=p;exact ow h1 h2 h3 h4 w
 |pl i=>
  have p':σ[i]? =some (some v):=p;unfold vY at e;dsimp only at e;cases q:ρ[i]? with
  |none=>rw[q] at e;cases e
  |some o=>
   cases o with
   |none=>rw[q] at e;cases e
   |some x=>
    obtain⟨u,g1,g2⟩:=R.slot i x q;rw[p'] at g1;cases g1;rw[q] at e;cases x with
    |fz d=>cases e;exact fz g2 w
    |ow ds=>cases e;obtain⟨a,vs,rfl,h1,h2,h3,h4⟩:=g2;exact ow h1 h2 h3 h4 w
    |pl j=>exact g2.elim
theorem cV {t:TE} {f:FE} (h:EO K E t f):SO K E (Ah t) (bU f):=by intro B H0 O σ H ρ D R w;refine h B H0 O σ H ρ _ R (w.bind.imp fun a w1 O1 x H1 e1 R1 p1=> ?_);obtain⟨rv,q,w1⟩:=w1.IJ;exact Cu R1 p1 q w1
def vD (K:Hf) (J:It) (O:aX) (H:Hp) (ds:List D):Prop:=∀O' H',Ev O H O' H'->gd O' H'->
 (∀i,i<ds.length->J.go i H'/\∀x Qj,J.Us i H' x Qj->IX H' Qj/\∃d,ds[i]? =some d/\DV O' K Qj x d)/\J.stop ds.length H'
abbrev FI:=aw->Res (List D×aw)
def IO (K:Hf) (E:XK) (wi:TI) (fi:FI):Prop:=
 ∀(B:aX) (H0:Hp) (O:aX) (σ:St) (H:Hp) (ρ:aw) (R':It->Hp->Prop),Rl K B H0 O σ H ρ->WR K E B H0 (fun r=>∀O' J H',Ev O H O' H'->Rl K B H0 O' σ H' r.2->vD K J O' H' r.1->R' J H') (fi ρ)->wi σ H R'
noncomputable def qY (gt:FG) (b:FS):List D->FS
 |[],ρ=> .ok (.nx ρ)
 |d::r,ρ=>(gt (.fz d) ρ).bind fun ρ1=>(b ρ1).bind fun fl=>match fl with
  | .nx ρ2=>qY gt b r ρ2
  | .ct ρ2=>qY gt b r ρ2
  | .bk ρ2=> .ok (.nx ρ2)
  | .rt rv=> .ok (.rt rv)
noncomputable def dY (fi:FI) (gt:FG) (b:FS):FS:=fun ρ=>(fi ρ).bind fun a=>qY gt b a.1 a.2
theorem oe {wi:TI} {fi:FI} {g:TG} {gt:FG} {tb:TS} {b:FS} (hi:IO K E wi fi) (hg:GO K E g gt) (hb:SO K E tb b):SO K E (D4 wi g tb) (dY fi gt b):=by
 intro B H0 O σ H ρ D R w;refine hi B H0 O σ H ρ _ R (w.bind.imp fun a w1 O1 J H1 e1 R1 it=> ?_);obtain⟨ds,ρ1⟩:=a;dsimp only at w1 it R1;refine⟨fun i m σ' H'=>m=ds.length - i/\i<=ds.length/\∃O2 ρ2,Ev O1 H1 O2 H'/\Rl K B H0 O2 σ' H' ρ2/\WR K E B H0 (PB K B H0 O H D) (qY gt b (ds.drop i) ρ2),⟨_,rfl,Jq _,O1,ρ1,.refl,R1,w1⟩,?_⟩;rintro i m σ2 H2 ⟨rfl,hi,O2,ρ2,e2,R2,w2⟩;obtain⟨go,stop⟩:=it O2 H2 e2 R2.od;by_cases NA:i<ds.length
 ·obtain⟨g1,g2⟩:=go i NA
  refine .inr ⟨g1,fun σ' H'=>i+1<=ds.length/\∃O2 ρ2,Ev O1 H1 O2 H'/\Rl K B H0 O2 σ' H' ρ2/\WR K E B H0 (PB K B H0 O H D) (qY gt b (ds.drop (i+1)) ρ2),fun σ' H' ⟨h1,h2⟩=>⟨ds.length - (i+1),by omega,rfl,h1,h2⟩,fun x H3 y=> ?_⟩;obtain⟨s3,d,hd,dv⟩:=g2 x H3 y;have ed:ds.drop i=d::ds.drop (i+1):=by obtain⟨_,q⟩:=Hm.mp hd;rw[Ju NA,q]
  rw[ed] at w2;have e3:Ev O2 H2 O2 H3:=Ev.grow s3;refine hg B H0 O2 σ2 H3 ρ2 x (.fz d) _ (R2.grow s3) dv (WR.imp (WR.bind w2) fun ρ3 w3 O4 σ4 H4 e4 R4=> ?_);have XI:Ev O1 H1 O4 H4:=e2.trans (e3.trans e4);refine hb B H0 O4 σ4 H4 ρ3 _ R4 (WR.imp (WR.bind w3) fun fl w4=> ?_);cases fl with
  |nx ρ5=>exact fun O5 σ5 H5 e5 R5=>⟨NA,O5,ρ5,XI.trans e5,R5,w4⟩
  |ct ρ5=>exact fun O5 σ5 H5 e5 R5=>⟨NA,O5,ρ5,XI.trans e5,R5,w4⟩
  |bk ρ5=>exact fun O5 σ5 H5 e5 R5=>w4 O5 σ5 H5 (e1.trans (XI.trans e5)) R5
  |rt rv=>exact w4
 ·have e:i=ds.length:=by omega
  subst e;rw[JF (Ho _)] at w2;exact .inl ⟨stop,w2 O2 σ2 H2 (e1.trans e2) R2⟩
noncomputable def fZ:D->Option (List D)
 | .tuple ds=>some ds
 | .list ds=>some ds
 |_=>none
def yN (K:Hf) (tl:TE):TI:=fun σ H R=>tl σ H fun x H1=>∃a,x= .ref a/\(((∃xs,Lk K H1 a xs)/\R (GC K a) H1)\/((∃xs,Lh K H1 a xs)/\R (Gw K a) H1))
theorem fH {X:Cx} {tg l:HI} {tl:TE} (hl:PE X l tl):PI X tg l (yN X.K tl):=by
 intro pins s σ H R I h;refine bF (hl pins s σ H _ I h) fun v s1 ⟨x,H1,I1,r1,q1⟩=> ?_;obtain⟨a,e,q⟩:=q1;subst e;cases r1;rcases q with⟨⟨xs,hq⟩,q⟩|⟨⟨xs,hq⟩,q⟩
 ·obtain⟨HW,rv,p,hz⟩:=I1.list hq
  refine Qc p.isList ?_;refine⟨s1.heap.objs.size,[s1.heap.objs.size],_,_,H1,rfl,I1.kept (t':=s1.toks) fun b o e=>Heap.get?_push_of_some _ e,vN a _,⟨_,Heap.get?_push_size _ rfl,rfl,rfl⟩,fun b hb=> ?_,q⟩;have e:b=s1.heap.objs.size:=by simpa using hb
  subst e;exact I1.Ol (Ho _) (I1.IW.fresh (Ho _))
 ·obtain⟨HW,rv,p,hz⟩:=I1.tuple hq
  refine Pu (show s1.heap.IsTuple a HW.toArray from p) ?_;refine⟨s1.heap.objs.size,[s1.heap.objs.size],_,_,H1,rfl,I1.kept (t':=s1.toks) fun b o e=>Heap.get?_push_of_some _ e,sj a _,⟨_,Heap.get?_push_size _ rfl,rfl,rfl⟩,fun b hb=> ?_,q⟩;have e:b=s1.heap.objs.size:=by simpa using hb
  subst e;exact I1.Ol (Ho _) (I1.IW.fresh (Ho _))
theorem zO {a:Hj} {xs:List V} {ds:List D} (h:NQ O K H a xs) (hd:Jm O K H xs ds):vD K (GC K a) O H ds:=by intro O' H' e n;have h':=h.ev e;have SQ:=hd.ev e;refine⟨fun i hi=> ?_,⟨xs,h'.1.sq,by rw[hd.length];exact Ho _⟩⟩;obtain⟨x,hx,_⟩:=SQ.get (HD hi);refine⟨⟨xs,x,h'.1.sq,hx⟩,?_⟩;rintro y Qj ⟨rfl,hy⟩;obtain⟨d,q1,q2⟩:=SQ.Rn (hy xs h'.1.sq);exact⟨IX.refl _,d,q1,q2⟩
theorem Ec {a:Hj} {xs:List V} {ds:List D} (h:Mp O K H a xs) (hd:Jm O K H xs ds):vD K (Gw K a) O H ds:=by intro O' H' e n;have h':=h.ev e;have SQ:=hd.ev e;refine⟨fun i hi=> ?_,⟨xs,h'.1,by rw[hd.length];exact Ho _⟩⟩;obtain⟨x,hx,_⟩:=SQ.get (HD hi);refine⟨⟨xs,x,h'.1,hx⟩,?_⟩;rintro y Qj ⟨rfl,hy⟩;obtain⟨d,q1,q2⟩:=SQ.Rn (hy xs h'.1);exact⟨IX.refl _,d,q1,q2⟩
noncomputable def gf (fe:FE):FI:=fun ρ=>(fe ρ).bind fun a=>(Res.IJ (oV a.2 a.1)).bind fun b=>(Res.IJ (fZ b.1)).bind fun ds=> .ok (ds,b.2)
theorem gx {tl:TE} {fe:FE} (h:EO K E tl fe):IO K E (yN K tl) (gf fe):=by
 intro B H0 O σ H ρ R' R w;refine h B H0 O σ H ρ _ R (w.bind.imp fun a w1 O1 x H1 e1 R1 p1=> ?_);obtain⟨⟨d,ρ2⟩,q,w1⟩:=w1.IJ;obtain⟨O2,e2,R2,dv⟩:=lM R1 p1 q;obtain⟨ds,qs,w1⟩:=w1.IJ;dsimp only at qs;cases dv with
 |tup h hs=>cases qs;exact⟨_,rfl,.inr ⟨⟨_,h.1⟩,w1 O2 _ H1 (e1.trans e2) R2 (Ec h hs)⟩⟩
 |lst h hs=>cases qs;exact⟨_,rfl,.inl ⟨⟨_,h.1.sq⟩,w1 O2 _ H1 (e1.trans e2) R2 (zO h hs)⟩⟩
 |_=>cases qs
noncomputable def dz (lo:Int) (n:Nat):List D:=(HF n).map fun(k:Nat)=> .int (lo+(k:Int))
theorem xo {lo:Int} {n:Nat}:vD K (FY lo n) O H (dz lo n):=by
 intro O' H' e nn;have hl:(dz lo n).length=n:=by unfold dz;rw[Hk,HC]
 refine⟨fun i hi=> ?_,by show n<=_;rw[hl];exact Ho _⟩;rw[hl] at hi;refine⟨hi,?_⟩;rintro x Qj ⟨rfl,rfl⟩;exact⟨IX.refl _,.int (lo+i),by unfold dz;rw[Hv,Ma hi];rfl,.int _⟩
def cI (i:Int):Prop:= -(2^62)<=i/\i<2^62
noncomputable instance (i:Int):Decidable (cI i):=by unfold cI;infer_instance
noncomputable def cK:List D->Option (List D)
 |[.int j]=>if cI j then some (dz 0 j.toNat) else none
 |_=>none
noncomputable def dM (f:List D->Option (List D)) (fa:FA):FI:=fun ρ=>(fa ρ).bind fun a=>(Res.IJ (iW a.2 a.1)).bind fun ds=>(Res.IJ (f ds)).bind fun xs=> .ok (xs,a.2)
theorem kh {ta:TA} {fa:FA} (h:AO K E ta fa):IO K E (BX ta) (dM cK fa):=by
 intro B H0 O σ H ρ R' R w;refine h B H0 O σ H ρ _ R (w.bind.imp fun a w1 O1 vs H1 e1 R1 p1=> ?_);obtain⟨ds,q,w1⟩:=w1.IJ;obtain⟨xs,qx,w1⟩:=w1.IJ;have px:=mW R1 p1 q;unfold cK at qx;split at qx
 ·rename_i j
  split at qx
  ·rename_i hj
   cases qx;cases px with
   |cons h1 h2=>cases h2;cases h1;exact⟨j,rfl,hj.1,hj.2,w1 O1 _ H1 e1 R1 xo⟩
  ·cases qx
 ·cases qx
end
section
variable {K:Hf} {E:XK} {B O O':aX} {H0 H H':Hp} {σ:St} {ρ ρ':aw} {v:V}
noncomputable def vf:Option PV->Option PV
 |some (.fz d)=>some (.fz d)
 |_=>none
noncomputable def cv (ρ:aw):aw:=ρ.map vf
theorem rC {i:Nat} {x:PV} (h:(cv ρ)[i]? =some (some x)):∃d,x= .fz d/\ρ[i]? =some (some (.fz d)):=by
 unfold cv at h;rw[Hv] at h;cases q:ρ[i]? with
 |none=>rw[q] at h;cases h
 |some o=>
  rw[q] at h;have h':vf o=some x:=HJ h;unfold vf at h';split at h'
  ·cases h';exact⟨_,rfl,rfl⟩
  ·cases h'
noncomputable def me (ρ:aw):List Nat->Option (List D×aw)
 |[]=>some ([],ρ)
 |j::r=>match oV ρ (.pl j) with
  |some (d,ρ1)=>(match me ρ1 r with
   |some (c,ρ2)=>some (d::c,ρ2)
   |none=>none)
  |none=>none
theorem vE {i:Nat} {d:D} {ρ':aw} (R:Rl K B H0 O σ H ρ) (h:oV ρ (.pl i)=some (d,ρ')):∃v,σ[i]? =some (some v):=by
 have e':toS ρ i ρ[i]? =some (d,ρ'):=h;cases q:ρ[i]? with
 |none=>rw[q] at e';cases e'
 |some o=>
  cases o with
  |none=>rw[q] at e';cases e'
  |some x=>obtain⟨v,g1,_⟩:=R.slot i x q;exact⟨v,g1⟩
theorem qq:∀{fv:List Nat} {ds:List D} {O:aX} {ρ ρ':aw},Rl K B H0 O σ H ρ->me ρ fv=some (ds,ρ')->∃O' vs,Ev O H O' H/\Rl K B H0 O' σ H ρ'/\Jm O' K H vs ds/\fv.map (fun j=>(σ[j]?).join)=vs.map some
 |[],_,O,_,_,R,e=>by cases e;exact⟨O,[],.refl,R,.nil,rfl⟩
 |j::r,_,O,ρ,ρ',R,e=>by
  unfold me at e;cases q:oV ρ (.pl j) with
  |none=>rw[q] at e;cases e
  |some p=>
   obtain⟨d,ρ1⟩:=p;rw[q] at e;dsimp only at e;cases q2:me ρ1 r with
   |none=>rw[q2] at e;cases e
   |some p2=>obtain⟨c,ρ2⟩:=p2;rw[q2] at e;cases e;obtain⟨v,hv⟩:=vE R q;obtain⟨O1,e1,R1,d1⟩:=lM (v:=v) (pv:= .pl j) R hv q;obtain⟨O2,vs,e2,R2,d2,h2⟩:=qq R1 q2;exact⟨O2,v::vs,e1.trans e2,R2,.cons (d1.ev e2) d2,by rw[HH,HH,h2,hv];rfl⟩
noncomputable def cD (gt:FG) (ft:FT) (fe:FE):List D->aw->List D->Res (List D)
 |[],_,acc=> .ok acc
 |d::r,ρ,acc=>(gt (.fz d) ρ).bind fun ρ1=>(ft ρ1).bind fun b=>if b.1=true then(fe b.2).bind fun a=>(Res.IJ (oV a.2 a.1)).bind fun x=>
   if acc.length<1000000 then cD gt ft fe r (cv x.2) (acc++[x.1]) else .bad
  else cD gt ft fe r (cv b.2) acc
noncomputable def ik {α:Type}:Res α->Res α
 | .er _=> .bad
 |r=>r
noncomputable def eC (n:Nat) (fv:List Nat) (fi:FI) (gt:FG) (ft:FT) (fe:FE):FE:=fun ρ=>(fi ρ).bind fun a=>(Res.IJ (me a.2 fv)).bind fun c=>
 (ik (cD gt ft fe a.1 (Hl n none++c.1.map fun d=>some (.fz d)) [])).bind fun xs=> .ok (.ow xs,c.2)
theorem zV {n:Nat} {own:List Str} (h:own.length=n):own.map (fun _=>(none:Option V))=Hl n none:=by
 subst h
 induction own with
 |nil=>rfl
 |cons x r ih=>rw[HH,ih,HP,Im]
theorem ol {α:Type} {r:Res α} {P:α->Prop} (h:WR K E B H0 P (ik r)):∃a,r= .ok a/\P a:=by
 cases r with
 |ok a=>exact⟨a,rfl,h⟩
 |er x=>exact h.elim
 |bad=>exact h.elim
def Fx (K:Hf) (J:It) (O:aX) (H:Hp) (ds:List D):Prop:=∀O' H',Ev O H O' H'->IX H H'->gd O' H'->
 (∀i,i<ds.length->J.go i H'/\∀x Qj,J.Us i H' x Qj->IX H' Qj/\∃d,ds[i]? =some d/\DV O' K Qj x d)/\J.stop ds.length H'
def Gn (K:Hf) (E:XK) (wi:TI) (fi:FI):Prop:=
 ∀(B:aX) (H0:Hp) (O:aX) (σ:St) (H:Hp) (ρ:aw) (R':It->Hp->Prop),Rl K B H0 O σ H ρ->WR K E B H0 (fun r=>∀O' J H',Ev O H O' H'->Rl K B H0 O' σ H' r.2->Fx K J O' H' r.1->R' J H') (fi ρ)->wi σ H R'
theorem IO.s {wi:TI} {fi:FI} (h:IO K E wi fi):Gn K E wi fi:=fun B H0 O σ H ρ R' R w=>h B H0 O σ H ρ R' R (w.imp fun r q O' J H' e R it=>q O' J H' e R fun O2 H2 e2 _ n=>it O2 H2 e2 n)
theorem pW {own:List Str} {fv:List (Str×Nat)} {wi:TI} {g:TG} {tc:TT} {te:TE} {fi:FI} {gt:FG} {ft:FT} {fe:FE} {n:Nat} {fj:List Nat} (hn:own.length=n) (hf:fv.map (·.2)=fj)
  (hi:Gn K E wi fi) (hg:GO K E0 g gt) (ht:Om K E0 tc ft) (he:EO K E0 te fe):EO K E (uc own fv wi g tc te) (eC n fj fi gt ft fe):=by
 intro B H0 O σ H ρ Q R w;refine hi B H0 O σ H ρ _ R (w.bind.imp fun a w1 O1 J H1 e1 R1 it=> ?_);obtain⟨ds,ρ1⟩:=a;obtain⟨⟨cs,ρ2⟩,qc,w1⟩:=w1.IJ;dsimp only at qc it;obtain⟨O2,vs,e2,R2,OQ,RQ⟩:=qq R1 qc;obtain⟨xs,qx,w1⟩:=ol (WR.bind w1);intro Dd RN;have hB:∀{H':Hp},IX H1 H'->H' Dd≠none->∀a,bX O2 Dd a->H' a≠none:=fun{H'} s nd a h z=>h.elim (fun q=>R2.od a (s.free z) q) fun e=>nd (by rw[<-e];exact z);refine⟨fun i m σ' H'=>m=ds.length - i/\i<=ds.length/\∃(acc:List D) (ys:List V) (ρc:aw),IX H1 H'/\H' Dd=some (.lst ys)/\Jm (bX O2 Dd) K H' ys acc/\σ'.length=ρc.length/\(∀(j:Nat) (x:PV),ρc[j]? =some (some x)->∃d u,x=PV.fz d/\σ'[j]? =some (some u)/\DV (bX O2 Dd) K H' u d)/\cD gt ft fe (ds.drop i) ρc acc= .ok xs,
  ⟨_,rfl,Jq _,[],[],_,bq RN _,ar,.nil,?_,fun j x hx=> ?_,qx⟩,?_⟩
 ·unfold jm;rw[Hn,Hn,Hk,Hk,HE,Hk,hn,<-OQ.length];have:=congrArg KG RQ;rw[Hk,Hk,<-hf,Hk] at this;omega
 ·have hm:fv.map (fun p=>(σ[p.2]?).join)=vs.map some:=by rw[<-RQ,<-hf,Ln];rfl
  unfold jm;rw[zV hn,hm];by_cases hj:j<n
  ·rw[Io (by rw[HE];exact hj),Kb,if_pos hj] at hx;cases hx
  ·rw[IK (by rw[HE];omega),HE,Hv] at hx⊢
   cases qd:cs[j - n]? with
   |none=>rw[qd] at hx;cases hx
   |some d=>rw[qd] at hx;cases hx;obtain⟨u,hu,du⟩:=OQ.get qd;exact⟨d,u,rfl,by rw[hu];rfl,du.ev (Ev.add (bq RN _) RN)⟩
 ·rintro i m σ' H' ⟨rfl,hi,acc,ys,ρc,s,hD,Vq,hl,PU,qP⟩
  have nD:H' Dd≠none:=by rw[hD];simp
  have no':gd (bX O2 Dd) H':=fun a z h=>hB s nD a h z;have Wx:Ev O1 H1 (bX O2 Dd) H':=e2.trans (Ev.add s RN);obtain⟨go,stop⟩:=it (bX O2 Dd) H' Wx s no';by_cases NA:i<ds.length
  ·obtain⟨g1,g2⟩:=go i NA
   refine .inr ⟨g1,fun σ5 H5=>i+1<=ds.length/\∃(acc:List D) (ys:List V) (ρc:aw),IX H1 H5/\H5 Dd=some (.lst ys)/\Jm (bX O2 Dd) K H5 ys acc/\σ5.length=ρc.length/\(∀(j:Nat) (x:PV),ρc[j]? =some (some x)->∃d u,x=PV.fz d/\σ5[j]? =some (some u)/\DV (bX O2 Dd) K H5 u d)/\cD gt ft fe (ds.drop (i+1)) ρc acc= .ok xs,
    fun σ5 H5 ⟨h1,h2⟩=>⟨ds.length - (i+1),by omega,rfl,h1,h2⟩,fun x H3 y=> ?_⟩
   obtain⟨s3,d,hd,dv⟩:=g2 x H3 y;have ed:ds.drop i=d::ds.drop (i+1):=by obtain⟨_,q⟩:=Hm.mp hd;rw[Ju NA,q]
   rw[ed] at qP;have WC:H3 Dd=some (.lst ys):=s3 _ _ hD;have YL:H3 Dd≠none:=by rw[WC];simp
   have sv:IX H1 H3:=s.trans s3;have RC:Rl K (bX O2 Dd) H3 (bX O2 Dd) σ' H3 ρc:=⟨IX.refl _,fun _ h=>h,hB sv YL,fun a z h=>hB sv YL a h z,hl,fun j x hx=>by obtain⟨d,u,rfl,h1,h2⟩:=PU j x hx;exact⟨u,h1,h2.ev (Ev.grow s3)⟩,fun j k xs ys w hj=>by obtain⟨d,u,e,_⟩:=PU j _ hj;cases e⟩;unfold cD at qP;have back:∀{O5:aX} {σ5:St} {H5:Hp} {ρ5:aw} {H6:Hp},Rl K (bX O2 Dd) H3 O5 σ5 H5 ρ5->(∀b o,b≠Dd->H5 b=some o->H6 b=some o)->σ5.length=(cv ρ5).length/\∀(j:Nat) (x:PV),(cv ρ5)[j]? =some (some x)->∃d u,x=PV.fz d/\σ5[j]? =some (some u)/\DV (bX O2 Dd) K H6 u d:=fun{O5 σ5 H5 ρ5 H6} R5 k=>by refine⟨by unfold cv;rw[Hk];exact R5.len,fun j x hx=> ?_⟩;obtain⟨d,rfl,Zr⟩:=rC hx;obtain⟨u,h1,h2⟩:=R5.slot j _ Zr;refine⟨d,u,rfl,h1,DV.ev (O:=bX O2 Dd) (H:=H5) (fun b o h n=>⟨k b o (fun e=>n (.inr e)) h,n⟩) (DV.ev (Ev.sub R5.bo) h2)⟩
   refine hg _ _ _ σ' H3 ρc x (.fz d) _ RC dv ?_;cases qg:gt (.fz d) ρc with
   |er z=>rw[qg] at qP;cases qP
   |bad=>rw[qg] at qP;cases qP
   |ok ρ3=>
    rw[qg,Res.bind_ok] at qP;intro O4 σ4 H4 e4 R4;refine ht _ _ _ σ4 H4 ρ3 _ R4 ?_;cases qt:ft ρ3 with
    |er z=>rw[qt] at qP;cases qP
    |bad=>rw[qt] at qP;cases qP
    |ok b=>
     obtain⟨b,ρ4⟩:=b;rw[qt,Res.bind_ok] at qP;intro O5 H5 e5 R5;cases b with
     |false=>rw[if_neg Hu] at qP⊢;obtain⟨l5,k5⟩:=back R5 (H6:=H5) fun b o _ h=>h;refine⟨NA,acc,ys,cv ρ4,sv.trans R5.same,R5.same _ _ WC,?_,l5,k5,qP⟩;exact Vq.ev (Ev.grow (s3.trans R5.same))
     |true=>
      rw[if_pos rfl] at qP⊢;refine he _ _ _ σ4 H5 ρ4 _ R5 ?_;cases qe:fe ρ4 with
      |er z=>rw[qe] at qP;cases qP
      |bad=>rw[qe] at qP;cases qP
      |ok r=>
       rw[qe,Res.bind_ok] at qP;intro O6 yv H6 e6 R6 p6;cases q7:oV r.2 r.1 with
       |none=>rw[q7] at qP;cases qP
       |some xr=>
        obtain⟨xd,ρ7⟩:=xr;rw[q7] at qP;obtain⟨O7,e7,R7,dv7⟩:=lM R6 p6 q7;have hD7:H6 Dd=some (.lst ys):=R7.same _ _ WC;have Va:(if acc.length<1000000 then cD gt ft fe (ds.drop (i+1)) (cv ρ7) (acc++[xd]) else .bad)= .ok xs:=qP;by_cases Wo:acc.length<1000000
        ·rw[if_pos Wo] at Va
         have up:∀b o,b≠Dd->H6 b=some o->aY H6 Dd (.lst (ys++[yv])) b=some o:=fun b o hb h=>by rw[aj hb];exact h
         have evD:Ev (bX O2 Dd) H6 (bX O2 Dd) (aY H6 Dd (.lst (ys++[yv]))):=fun b o h n=>⟨up b o (fun e=>n (.inr e)) h,n⟩;have Wg:Jm (bX O2 Dd) K H6 ys acc:=Vq.ev (Ev.grow (s3.trans R7.same));obtain⟨l5,k5⟩:=back R7 up;refine⟨ys,hD7,mJ (by rw[Vq.length];exact Wo),NA,acc++[xd],ys++[yv],cv ρ7,fun b o h=> ?_,ar,?_,l5,k5,Va⟩
         ·rw[aj (b7 h RN)];exact R7.same _ _ (sv _ _ h)
         ·exact(Wg.append (.cons (DV.ev (Ev.sub R7.bo) dv7) .nil)).ev evD
        ·rw[if_neg Wo] at Va;cases Va
  ·have e:i=ds.length:=by omega
   subst e;rw[JF (Ho _)] at qP;have qP:Res.ok acc= .ok xs:=qP;cases qP;refine .inl ⟨stop,?_⟩;refine w1 (bX O2 Dd) (.ref Dd) H' (e1.trans Wx) (R2.add s RN nD) ⟨Dd,ys,rfl,.inr rfl,R2.RH RN,hD,Vq,fun k es hk z=> ?_⟩;obtain⟨u,h1,b,us,e2,g1,g2,g3,g4⟩:=R2.slot k _ hk;rw[z] at h1;cases h1;cases e2;rw[RN] at g3;cases g3
theorem iz {own:List Str} {fv:List (Str×Nat)} {wi:TI} {g:TG} {tc:TT} {te:TE} {fi:FI} {gt:FG} {ft:FT} {fe:FE} {n:Nat} {fj:List Nat} (hn:own.length=n) (hf:fv.map (·.2)=fj)
  (hi:IO K E wi fi) (hg:GO K E0 g gt) (ht:Om K E0 tc ft) (he:EO K E0 te fe):EO K E (uc own fv wi g tc te) (eC n fj fi gt ft fe):=pW hn hf hi.s hg ht he
noncomputable def CA (ρ:aw):Option (Option PV)->Res (List D×aw)
 |some (some (.ow ds))=> .ok (ds,ρ)
 |_=> .bad
noncomputable def xn (i:Nat):FI:=fun ρ=>CA ρ ρ[i]?
theorem pU {i:Nat}:Gn K E (yN K (mY i)) (xn i):=by
 intro B H0 O σ H ρ R' R w;unfold xn at w;cases q:ρ[i]? with
 |none=>rw[q] at w;exact w.elim
 |some o=>
  cases o with
  |none=>rw[q] at w;exact w.elim
  |some x=>
   cases x with
   |fz d=>rw[q] at w;exact w.elim
   |pl j=>rw[q] at w;exact w.elim
   |ow ds=>rw[q] at w;obtain⟨v,h1,a,vs,rfl,g1,g2,g3,g4⟩:=R.slot i _ q;refine⟨_,h1,a,rfl,.inl ⟨⟨vs,Lk.of g3⟩,w O _ H .refl R fun O' H' e s n=> ?_⟩⟩;have k:H' a=some (.lst vs):=s _ _ g3;have d':=g4.ev e;refine⟨fun j hj=> ?_,⟨vs,Lk.of k,by rw[d'.length];exact Ho _⟩⟩;obtain⟨x,hx,_⟩:=d'.get (HD hj);refine⟨⟨vs,x,Lk.of k,hx⟩,?_⟩;rintro y Qj ⟨rfl,hy⟩;obtain⟨d,q1,q2⟩:=d'.Rn (hy vs (Lk.of k));exact⟨IX.refl _,d,q1,q2⟩
noncomputable def aZ (F:FN) (n:Nat) (fa:FA):FE:=fun ρ=>(fa ρ).bind fun a=>(Res.IJ (lm a.2 a.1)).bind fun b=>if b.1.length=n then(ik (F b.1)).bind fun rv=> .ok (rv.pv,b.2) else .bad
theorem yi {F:FN} {n:Nat} {ta:TA} {fa:FA} (ha:AO K E ta fa):EO K E (lx (ic K n F) [] E0 ta) (aZ F n fa):=by
 intro B H0 O σ H ρ Q R w;refine ha B H0 O σ H ρ _ R (w.bind.imp fun a w1 O1 vs H1 e1 R1 p1=> ?_);obtain⟨⟨ds,ρ2⟩,q,w2⟩:=w1.IJ;obtain⟨O2,e2,R2,dv⟩:=o0 R1 p1 q;dsimp only at w2;by_cases hn:ds.length=n
 ·rw[if_pos hn] at w2;obtain⟨rv,qF,w2⟩:=ol (WR.bind w2);rw[Iv];refine⟨dv.length.trans hn,O2,ds,fun a z hz=>R2.od a hz z,dv,?_⟩;rw[qF];exact fE R2 fun O3 v H3 e3 R3 p3=>w2 O3 v H3 (e1.trans (e2.trans e3)) R3 p3
 ·rw[if_neg hn] at w2;exact w2.elim
end
noncomputable def dD (N:Nat) (g:FS):FN:=fun ds=>(g (ds.map (fun d=>some (.fz d))++Hl (N - ds.length) none)).bind fun fl=>match fl with
 | .rt rv=> .ok rv
 | .nx _=> .ok (.fz .none)
 |_=> .bad
theorem yC {K:Hf} {B:aX} {H:Hp} {N:List Str} {vs:List V} {ds:List D} (hb:∀a,B a->H a≠none) (dv:Jm B K H vs ds):Rl K B H B (L2.start N vs) H (ds.map (fun d=>some (.fz d))++Hl (N.length - ds.length) none):=by
 have hl:=dv.length;refine⟨IX.refl _,fun _ h=>h,hb,fun a z h=>hb a h z,?_,fun i x hx=> ?_,fun i j xs ys w hi=> ?_⟩
 ·unfold L2.start;rw[Hn,Hn,Hk,Hk,HE,HE,hl]
 all_goals
  have key:∀{i:Nat} {x:PV},(ds.map (fun d=>some (PV.fz d))++Hl (N.length - ds.length) none)[i]? =some (some x)->∃d,x= .fz d/\ds[i]? =some d:=fun{i x} h=>by
   by_cases hi:i<ds.length
   ·rw[Io (by rw[Hk];exact hi),Hv] at h
    cases q:ds[i]? with
    |none=>rw[q] at h;cases h
    |some d=>rw[q] at h;cases h;exact⟨d,rfl,rfl⟩
   ·rw[IK (by rw[Hk];omega),Kb] at h;split at h<;>cases h
 ·obtain⟨d,rfl,hd⟩:=key hx;obtain⟨v,hv,h2⟩:=dv.get hd;refine⟨v,?_,h2⟩;have hi:i<vs.length:=(Hm.mp hv).1;unfold L2.start;rw[Io (by rw[Hk];exact hi),Hv,hv];rfl
 ·obtain⟨d,e,_⟩:=key hi;cases e
theorem G9 {P:Hy} {w:HU} {K:Hf} {mg:Str->Option Hg} {base:Heap} {x qual:Str} {st:Js} {f:Hj} {fd:IB} {N ps:List Str} {k n:Nat} {g:FS} (F:Lc K x qual st f fd) (S:JJ N ps (aq st)) (hn:ps.length=n)
  (KN:∀(Jr:Hg) (A:HM) (outer:List Env) (s:Hi) (H:Hp) (E:XK),JW k (A.deeper (Ii qual (aq st) s.heap.objs.size f Jr))->
   ∃t,MS (dH ez P w K mg base N qual (aq st) f Jr A outer s H E).Q6 (bQ st) t/\SO K E t g):FnOk P w K mg base ez (k+1) f fd ps (ic K n (dD N.length g)):=by
 refine F.ok S (fun vs H Q E h=>h.1.trans hn.symm) (fun Jr A outer s H vs Q E hr h=> ?_);obtain⟨t,ht,hs⟩:=KN Jr A outer s H E hr;obtain⟨hl,B,ds,hb,dv,h⟩:=h;refine⟨t,ht,hs B H B _ H _ _ (yC hb dv) (WR.imp (WR.bind h) fun fl q=> ?_)⟩;cases fl with
 |rt rv=>exact q
 |nx ρ=>exact fun O' σ' H' e R=>q .JD H' R.same .JD
 |bk ρ=>exact q.elim
 |ct ρ=>exact q.elim
end L3
namespace L3
open PySem PySem.Spec PyProof.Rows L2
theorem OpR.or {X:Cx} {f:Hg->Hg->Sem Hg} {r r':R2} (h:OpR X f r) (h':OpR X f r'):OpR X f (fun x y H Q=>r x y H Q\/r' x y H Q):=by
 intro pins s σ H x y v u Q I rx ry q;rcases q with q|q
 ·exact h pins s σ H x y v u Q I rx ry q
 ·exact h' pins s σ H x y v u Q I rx ry q
theorem DA {X:Cx} {pins:List (Hj×Obj)} {σ:L2.St} {H:Hp} {s:Hi} {l:Hj} {xs:List V} (I:Inv X pins σ H s) (h:KH X.K H l xs):xs.length<=Ht/\∃(HW:List Hg) (n:Nat),Vals xs HW/\xs.length=HW.length/\s.heap.get? l=some {cls:= .type "list",data:= .seq HW.toArray n}:=by
 rcases h with(h|⟨o,h⟩)|⟨HW,n,h1,h2,h3⟩
 ·exact I.SD h
 ·obtain⟨_,z,HW,n,r,e⟩:=I.IW l _ h;exact⟨z,HW,n,r,r.length,e⟩
 ·exact⟨h2,HW,n,h3,h3.length,I.Mj _ _ h1⟩
def B2 (K:Hf):R2:=fun x y H Q=>∃l b xs zs,x= .ref l/\y= .ref b/\KH K H l xs/\KH K H b zs/\xs.length+zs.length<=Ht/\∀p,H p=none->Q (.ref p) (aY H p (.lst (xs++zs)))
theorem ou {X:Cx}:OpR X (Jj .Add) (B2 X.K):=by
 intro pins s σ H x y v u Q I rx ry h;obtain⟨l,b,xs,zs,rfl,rfl,hH,hB,hz,q⟩:=h;cases rx;cases ry;obtain⟨z,HW,n,r,hl,e⟩:=DA I hH;obtain⟨z2,L6,n2,r2,hl2,e2⟩:=DA I hB;refine PySem.P.add_list e e2 ?_ (by rw[Hs,Hs];omega);have ea:HW.toArray++L6.toArray=(HW++L6).toArray:=by simp
 rw[ea];exact⟨.ref _,_,I.Ua (t':=s.toks) (r.append r2) (by rw[Hn];omega),rfl,q _ I.fresh⟩
def BR (K:Hf):R2:=fun x y H Q=>∃l k xs,x= .ref l/\y= .int k/\KH K H l xs/\ -(2^63)<=k/\k<2^63/\xs.length*k.toNat<=Ht/\
 ∀p,H p=none->Q (.ref p) (aY H p (.lst (Hl k.toNat xs).flatten))
theorem AB {X:Cx}:OpR X (Jj .Mult) (BR X.K):=by
 intro pins s σ H x y v u Q I rx ry h;obtain⟨l,k,xs,rfl,rfl,hH,h1,h2,hz,q⟩:=h;cases rx;obtain⟨t,rfl⟩:=ry;obtain⟨z,HW,n,r,hl,e⟩:=DA I hH;have hlen:HW.toArray.size*k.toNat<=Ht:=by rw[Hs,<-hl];exact hz
 have WN:¬HW.toArray.size*k.toNat>(2^63 - 1)/8:=by
  have:(Ht:Nat)<=(2^63 - 1)/8:=by decide
  omega
 have Xu:¬(!Builtin.List.listFitsIndex k)=true:=by rw[V5 h1 h2];exact Hu
 have UE:¬Builtin.List.listTooLong (HW.toArray.size*k.toNat)=true:=by rw[xq hlen];exact Hu
 have PD:KR (fun x1 x2=>x1++x2) #[] (Hl (if HW.toArray.isEmpty=true then 0 else k.toNat) HW.toArray)=(Hl k.toNat HW).flatten.toArray:=by
  have f0:∀m:Nat,KR (fun x1 x2=>x1++x2) #[] (Hl m HW.toArray)=(Hl m HW).flatten.toArray:=fun m=>by have:=jw HW m [];rw[Nl] at this;exact this
  rw[f0];cases HW with
  |nil=>simp
  |cons a r'=>rw[if_neg (by simp)]
 refine Pe (T:= "list") (U:= "int") (by decide) ⟨_,e,rfl⟩ (fun s'=>MX s' k t) noFill_list_mul F.fills_int_mul F.slot_int_rmul repeat_list F.slot_int_index.lookup
  (JB F.slot_int_rmul (MX s k t) F.entry_int_rmul (F.args_int_rmul_2 _ _) (int___rmul___int_list k t l HW.toArray n)
   ⟨e,rfl,⟨_,e,rfl⟩,JB F.slot_list_mul ⟨_,e,rfl⟩ F.entry_list_mul (F.args_list_mul_2 _ _) (AutoListH.list___mul___list_int_3 l HW.toArray n k t Xu WN UE) ⟨e,?_⟩⟩)
 rw[PD];exact⟨.ref _,_,I.Ua (t':=s.toks) (r.rep k.toNat) (by rw[uE,Nat.mul_comm];exact hz),rfl,q _ I.fresh⟩
section
variable {K:Hf}
noncomputable def fI (g:Int->Int->Int):D->D->Option RV
 | .int i,.int j=>some (.fz (.int (g i j)))
 |_,_=>none
noncomputable def fB (g:Int->Int->Bool):D->D->Option RV
 | .int i,.int j=>some (.fz (.bool (g i j)))
 |_,_=>none
noncomputable def E3 (C:Int->Int->Bool) (g:Int->Int->Int):D->D->Option RV
 | .int i,.int j=>if C i j=true then some (.fz (.int (g i j))) else none
 |_,_=>none
theorem qJ {g:Int->Int->Int} {dx dy:D} {rv:RV} (h:fI g dx dy=some rv):∃i j,dx= .int i/\dy= .int j/\rv= .fz (.int (g i j)):=by
 unfold fI at h;split at h
 ·cases h;exact⟨_,_,rfl,rfl,rfl⟩
 ·cases h
theorem EJ {g:Int->Int->Int}:jg K (tV fun i j=> .int (g i j)) (fI g):=by intro O H x y dx dy rv Q n hx hy e q;obtain⟨i,j,rfl,rfl,rfl⟩:=qJ e;cases hx;cases hy;exact⟨i,j,rfl,rfl,q.at (.int _)⟩
theorem zk {g:Int->Int->Bool}:jg K (tV fun i j=> .bl (g i j)) (fB g):=by
 intro O H x y dx dy rv Q n hx hy e q;unfold fB at e;split at e
 ·cases e;cases hx;cases hy;exact⟨_,_,rfl,rfl,q.at (.bl _)⟩
 ·cases e
theorem sL {C:Int->Int->Bool} {C':Int->Int->Prop} {g:Int->Int->Int} (hC:∀i j,C i j=true->C' i j):jg K (rI C' fun i j=> .int (g i j)) (E3 C g):=by
 intro O H x y dx dy rv Q n hx hy e q;unfold E3 at e;split at e
 ·split at e
  ·rename_i hc;cases e;cases hx;cases hy;exact⟨_,_,rfl,rfl,hC _ _ hc,q.at (.int _)⟩
  ·cases e
 ·cases e
theorem wG {O:aX} {H:Hp} {x:V} {ds:List D} (h:DX O K H x (.list ds)):∃a xs,x= .ref a/\KH K H a xs/\Jm O K H xs ds:=h
theorem ri {O:aX} {H:Hp} {x:V} {ds:List D} (h:DX O K H x (.tuple ds)):∃a xs,x= .ref a/\Mp O K H a xs/\Jm O K H xs ds:=zn h rfl
def yV (K:Hf):R2:=fun x y H Q=>tV (fun i j=> .int (i+j)) x y H Q\/B2 K x y H Q\/Bv K x y H Q
theorem gP {X:Cx}:OpR X (Jj .Add) (yV X.K):=OpR.or Dr (OpR.or ou zL)
noncomputable def bE:D->D->Option RV
 | .int i,.int j=>some (.fz (.int (i+j)))
 | .list xs,.list ys=>if xs.length+ys.length<=1000000 then some (.ow (xs++ys)) else none
 | .tuple xs,.tuple ys=>if xs≠[]/\xs.length+ys.length<=1000000 then some (.fz (.tuple (xs++ys))) else none
 |_,_=>none
theorem ld {n:Nat} (h:n<=1000000):n<=Ht:=Il h (by decide)
theorem Jm.ne {O:aX} {H:Hp} {vs:List V} {ds:List D} (h:Jm O K H vs ds):vs=[]↔ds=[]:=by cases h<;>simp
theorem gW:jg K (yV K) bE:=by
 intro O H x y dx dy rv Q n hx hy e q;unfold bE at e;split at e
 ·cases e;cases hx;cases hy;exact .inl ⟨_,_,rfl,rfl,q.at (.int _)⟩
 ·split at e
  ·rename_i hl;cases e;obtain⟨a,xs,rfl,h1,h2⟩:=wG hx;obtain⟨b,ys,rfl,g1,g2⟩:=wG hy;exact .inr (.inl ⟨a,b,xs,ys,rfl,rfl,h1,g1,ld (by rw[h2.length,g2.length];exact hl),Fin.new (h2.append g2) q⟩)
  ·cases e
 ·split at e
  ·rename_i hl;cases e;obtain⟨a,xs,rfl,h1,h2⟩:=ri hx;obtain⟨b,ys,rfl,g1,g2⟩:=ri hy;refine .inr (.inr ⟨a,b,xs,ys,rfl,rfl,h1.1,g1.1,fun z=>hl.1 (h2.ne.mp z),ld (by rw[h2.length,g2.length];exact hl.2),fun z=> ?_,fun _=>Fin.Pa (h2.append g2) n q⟩);have z':=g2.ne.mp z;subst z';rw[Iv] at q;exact q.at (.tup h1 h2)
  ·cases e
 ·cases e
def xA (K:Hf):R2:=fun x y H Q=>rI Rp (fun i j=> .int (i*j)) x y H Q\/BR K x y H Q
theorem Ba {X:Cx}:OpR X (Jj .Mult) (xA X.K):=OpR.or DI AB
noncomputable def dS (i:Int):Bool:=decide (-(2^64)<i/\i<2^64)
theorem lD {i:Int} (h:dS i=true): -(2^64)<i/\i<2^64:=of_decide_eq_true h
noncomputable def vH:D->D->Option RV
 | .int i,.int j=>if(dS i||dS j)=true then some (.fz (.int (i*j))) else none
 | .list xs,.int k=>if xs.length*k.toNat<=1000000/\ -(2^63)<=k/\k<2^63 then some (.ow (Hl k.toNat xs).flatten) else none
 |_,_=>none
theorem Af:jg K (xA K) vH:=by
 intro O H x y dx dy rv Q n hx hy e q;unfold vH at e;split at e
 ·split at e
  ·rename_i hc
   cases e;cases hx;cases hy;refine .inl ⟨_,_,rfl,rfl,?_,q.at (.int _)⟩;rcases(Rh _ _).mp hc with z|z
   ·exact .inl (lD z)
   ·exact .inr (lD z)
  ·cases e
 ·split at e
  ·rename_i hc;cases e;cases hy;obtain⟨a,xs,rfl,h1,h2⟩:=wG hx;exact .inr ⟨a,_,xs,rfl,rfl,h1,hc.2.1,hc.2.2,ld (by rw[h2.length];exact hc.1),Fin.new (h2.flat _) q⟩
  ·cases e
 ·cases e
noncomputable def lf:=fI fun i j=>i - j
theorem uN:jg K (tV fun i j=> .int (i - j)) lf:=EJ
noncomputable def CG (_ j:Int):Bool:=decide (0<j)
noncomputable def aM:=E3 CG fun i j=>i % j
theorem gQ:jg K (rI (fun _ j=>0<j) fun i j=> .int (i % j)) aM:=sL fun i j h=>of_decide_eq_true h
noncomputable def CC (_ j:Int):Bool:=decide (0<j/\j<2^128)
noncomputable def bN:=E3 CC fun i j=>i/j
theorem nt:jg K (rI (fun _ j=>0<j/\j.natAbs.log2<9000) fun i j=> .int (i/j)) bN:=sL fun i j h=>by
 have h':=of_decide_eq_true h;refine⟨h'.1,?_⟩;have h2:j.natAbs<2^128:=by have:=h'.2;omega
 have h3:j.natAbs.log2<128:=(Nat.log2_lt (by omega)).mpr h2;omega
noncomputable def xa (i j:Int):Bool:=decide (0<=j/\j<=1000000/\i.natAbs<2^64)
theorem AW (i j:Int) (h:xa i j=true):Dj i j:=by unfold xa at h;exact(show 0<=j/\j<=1000000/\i.natAbs<2^64 from of_decide_eq_true h)
noncomputable def jR:=E3 xa fun i j=>i^j.toNat
theorem zQ:jg K (rI Dj fun i j=> .int (i^j.toNat)) jR:=sL AW
noncomputable def El:=fB fun i j=>decide (i<j)
noncomputable def CN:=fB fun i j=>decide (j<i)
noncomputable def EE:=fB fun i j=>decide (j<=i)
theorem yd:jg K (tV fun i j=> .bl (decide (i<j))) El:=zk
theorem sW:jg K (tV fun i j=> .bl (decide (j<i))) CN:=zk
theorem D3:jg K (tV fun i j=> .bl (decide (j<=i))) EE:=zk
noncomputable def xt (d:D):Bool:=d.canLay0&&decide (d.depth<=64)
noncomputable def j7 (d e:D):Option RV:=if(xt d&&e.canLay0)=true then some (.fz (.bool (Hr.eqv d e))) else none
noncomputable def re (d e:D):Option RV:=if(xt d&&e.canLay0)=true then some (.fz (.bool (!Hr.eqv d e))) else none
theorem sY:jg K (Al K false) j7:=by
 intro O H x y dx dy rv Q n hx hy e q;unfold j7 at e;split at e
 ·rename_i hc;cases e;unfold xt at hc;simp only[Ip,decide_eq_true_eq] at hc;exact⟨dx,dy,hx.plain,hy.plain,hc.1.1,hc.2,hc.1.2,q.at (.bl _)⟩
 ·cases e
theorem DZ:jg K (Al K true) re:=by
 intro O H x y dx dy rv Q n hx hy e q;unfold re at e;split at e
 ·rename_i hc;cases e;unfold xt at hc;simp only[Ip,decide_eq_true_eq] at hc;exact⟨dx,dy,hx.plain,hy.plain,hc.1.1,hc.2,hc.1.2,q.at (.bl _)⟩
 ·cases e
noncomputable def wb:D->D->Option RV
 | .none,.none=>some (.fz (.bool true))
 |_,.none=>some (.fz (.bool false))
 |_,_=>none
theorem Ei {O:aX} {H:Hp} {x:V} {d:D} (h:DX O K H x d) (hd:d≠ .none):x≠ .JD:=by
 cases d with
 |none=>exact absurd rfl hd
 |list ds=>obtain⟨a,xs,rfl,_⟩:=wG h;simp
 |tuple ds=>obtain⟨a,xs,rfl,_⟩:=ri h;simp
 |bool b=>cases h;simp
 |int b=>cases h;simp
 |str b=>cases h;simp
 |dict b=>cases h
theorem Bc:jg K (fun x y H Q=>y= .JD/\Q (.bl (decide (x= .JD))) H) wb:=by
 intro O H x y dx dy rv Q n hx hy e q;unfold wb at e;split at e
 ·cases e;cases hx;cases hy;exact⟨rfl,q.at (.bl _)⟩
 ·rename_i hd;cases e;cases hy;refine⟨rfl,?_⟩;rw[decide_eq_false (Ei hx hd)];exact q.at (.bl _)
 ·cases e
def yS (K:Hf) (neg:Bool):R2:=fun x y H Q=>∃d ds,L2.DV K H x d/\(L2.DV K H y (.list ds)\/L2.DV K H y (.tuple ds))/\d.canLay0=true/\Hr.canLayAll0 ds=true/\d.depth<=64/\Q (.bl (if neg then !(ds.any fun e=>Hr.eqv e d) else ds.any fun e=>Hr.eqv e d)) H
theorem se {X:Cx} (hu:X.A.units+65<cLine):OpR X (Jn .In) (yS X.K false):=by
 intro pins s σ H x y v u Q I rx ry h;obtain⟨d,ds,h1,h2,l1,l2,hd,q⟩:=h;obtain⟨as,r1⟩:=h1.reads I rx;have hm:min (Hr.depthAll ds) d.depth<=64:=Il (MW _ _) hd;rcases h2 with h2|h2
 ·obtain⟨bs,r2⟩:=h2.reads I ry;exact V6 r2 r1 l2 l1 (by omega) ⟨.bl _,H,I,rfl,q⟩
 ·obtain⟨bs,r2⟩:=h2.reads I ry;exact V7 r2 r1 l2 l1 (by omega) ⟨.bl _,H,I,rfl,q⟩
theorem tJ {X:Cx} (hu:X.A.units+65<cLine):OpR X (Jn .NotIn) (yS X.K true):=by
 intro pins s σ H x y v u Q I rx ry h;obtain⟨d,ds,h1,h2,l1,l2,hd,q⟩:=h;obtain⟨as,r1⟩:=h1.reads I rx;have hm:min (Hr.depthAll ds) d.depth<=64:=Il (MW _ _) hd;rcases h2 with h2|h2
 ·obtain⟨bs,r2⟩:=h2.reads I ry;exact V8 r2 r1 l2 l1 (by omega) ⟨.bl _,H,I,rfl,q⟩
 ·obtain⟨bs,r2⟩:=h2.reads I ry;exact V9 r2 r1 l2 l1 (by omega) ⟨.bl _,H,I,rfl,q⟩
noncomputable def wC (d e:D):Option RV:=match fZ e with
 |some ds=>if(xt d&&Hr.canLayAll0 ds)=true then some (.fz (.bool (ds.any fun e=>Hr.eqv e d))) else none
 |none=>none
noncomputable def Aj (d e:D):Option RV:=match fZ e with
 |some ds=>if(xt d&&Hr.canLayAll0 ds)=true then some (.fz (.bool (!ds.any fun e=>Hr.eqv e d))) else none
 |none=>none
theorem yO {O:aX} {H:Hp} {y:V} {e:D} {ds:List D} (hy:DX O K H y e) (h:fZ e=some ds):L2.DV K H y (.list ds)\/L2.DV K H y (.tuple ds):=by
 unfold fZ at h;split at h
 ·cases h;exact .inr hy.plain
 ·cases h;exact .inl hy.plain
 ·cases h
theorem su:jg K (yS K false) wC:=by
 intro O H x y dx dy rv Q n hx hy e q;unfold wC at e;split at e
 ·rename_i ds hs
  split at e
  ·rename_i hc;cases e;unfold xt at hc;simp only[Ip,decide_eq_true_eq] at hc;exact⟨dx,ds,hx.plain,yO hy hs,hc.1.1,hc.2,hc.1.2,q.at (.bl _)⟩
  ·cases e
 ·cases e
theorem tK:jg K (yS K true) Aj:=by
 intro O H x y dx dy rv Q n hx hy e q;unfold Aj at e;split at e
 ·rename_i ds hs
  split at e
  ·rename_i hc;cases e;unfold xt at hc;simp only[Ip,decide_eq_true_eq] at hc;exact⟨dx,ds,hx.plain,yO hy hs,hc.1.1,hc.2,hc.1.2,q.at (.bl _)⟩
  ·cases e
 ·cases e
noncomputable def cN (d e:D):Option RV:=match fZ d,e with
 |some ds,.int i=>(lX ds i).map .fz
 |_,_=>none
theorem zz {O:aX} {H:Hp} {xs:List V} {ds:List D} {i:Int} {d:D} (h:Jm O K H xs ds) (e:lX ds i=some d):∃v,lX xs i=some v/\DV O K H v d:=by
 unfold lX at e⊢;rw[h.length];cases q:CT ds.length i with
 |none=>rw[q] at e;cases e
 |some j=>rw[q] at e;exact h.get e
theorem jo:jg K (Gs K) cN:=by
 intro O H x y dx dy rv Q n hx hy e q;unfold cN at e;split at e
 ·rename_i ds i hs
  cases hy;cases qa:lX ds i with
  |none=>rw[qa] at e;cases e
  |some d=>
   rw[qa] at e;cases e;unfold fZ at hs;split at hs
   ·cases hs;obtain⟨a,xs,rfl,h1,h2⟩:=ri hx;obtain⟨v,hv,dv⟩:=zz h2 qa;exact .inr (.inl ⟨a,xs,i,v,rfl,rfl,h1.1,hv,q.at dv⟩)
   ·cases hs;obtain⟨a,xs,rfl,h1,h2⟩:=wG hx;obtain⟨v,hv,dv⟩:=zz h2 qa;exact .inl ⟨a,xs,i,v,rfl,rfl,h1.sq,hv,q.at dv⟩
   ·cases hs
 ·cases e
noncomputable def eX (xs:List D) (lo hi:Option Int):List D:=(xs.drop (HT.sIx xs.length 0 lo)).take (HT.sIx xs.length xs.length hi - HT.sIx xs.length 0 lo)
theorem zg {O:aX} {H:Hp} {xs:List V} {ds:List D} {lo hi:Option Int} (h:Jm O K H xs ds):Jm O K H (pQ xs lo hi) (eX ds lo hi):=by unfold pQ eX;rw[h.length];exact(h.drop _).take _
noncomputable def gC (n:Nat) (lo hi:Option Int):Bool:=decide (HT.sIx n 0 lo=0/\HT.sIx n n hi=n)
def Cz (K:Hf):V->Option Int->Option Int->Hp->VK->Prop:=fun x lo hi H Q=>EB K x lo hi H Q\/Fw K x lo hi H Q
theorem r9 {X:Cx}:C9 X (Cz X.K):=by
 intro pins s σ H x v vl vu lo hi sl Q I rx hs pl pu h;rcases h with h|h
 ·exact zN pins s σ H x v vl vu lo hi sl Q I rx hs pl pu h
 ·exact DS pins s σ H x v vl vu lo hi sl Q I rx hs pl pu h
noncomputable def FX:D->Option Int->Option Int->Option RV
 | .list ds,lo,hi=>some (.ow (eX ds lo hi))
 | .tuple ds,lo,hi=>if gC ds.length lo hi=true then none else some (.fz (.tuple (eX ds lo hi)))
 |_,_,_=>none
theorem kr:F7 K (Cz K) FX:=by
 intro O H x lo hi dx rv Q n hx e q;unfold FX at e;split at e
 ·cases e;obtain⟨a,xs,rfl,h1,h2⟩:=wG hx;exact .inl ⟨a,xs,rfl,h1.sq,Fin.new (zg h2) q⟩
 ·split at e
  ·cases e
  ·rename_i hw;cases e;obtain⟨a,xs,rfl,h1,h2⟩:=ri hx;refine .inr ⟨a,xs,rfl,h1.1,fun z=>hw ?_,Fin.Pa (zg h2) n q⟩;unfold gC;rw[<-h2.length];exact decide_eq_true z
 ·cases e
noncomputable def jt:D->Option RV
 | .int i=>some (.fz (.int (-i)))
 |_=>none
theorem nb:GY K (rU fun i=> .int (-i)) jt:=by
 intro O H x dx rv Q n hx e q;unfold jt at e;split at e
 ·cases e;cases hx;exact⟨_,rfl,q.at (.int _)⟩
 ·cases e
noncomputable def dR:List D->Option RV
 |[d]=>(match fZ d with
  |some ds=>some (.fz (.int ds.length))
  |none=>none)
 |_=>none
theorem jr:Ef K (fun xs H Q=>∃x n,xs=[x]/\Fg K x H n/\Q (.int n) H) dR:=by
 intro O H xs ds rv Q n hp e q;unfold dR at e;split at e
 ·split at e
  ·rename_i es hs
   cases e;cases hp with
   |cons h1 h2=>
    cases h2;unfold fZ at hs;split at hs
    ·cases hs;obtain⟨a,xs,rfl,h1,h2⟩:=ri h1;exact⟨_,xs.length,rfl,.inr ⟨xs,h1.1,rfl⟩,by rw[h2.length];exact q.at (.int _)⟩
    ·cases hs;obtain⟨a,xs,rfl,h1,h2⟩:=wG h1;exact⟨_,xs.length,rfl,.inl ⟨xs,h1.sq,rfl⟩,by rw[h2.length];exact q.at (.int _)⟩
    ·cases hs
  ·cases e
 ·cases e
noncomputable def j8:List D->Option RV
 |[.tuple ds]=>some (.fz (.tuple ds))
 |[.list ds]=>some (.fz (.tuple ds))
 |_=>none
theorem pM:Ef K (fun xs H Q=>∃p ys,xs=[.ref p]/\((Lk K H p ys/\∀l,H l=none->Q (.ref l) (aY H l (.tup ys)))\/(Lh K H p ys/\Q (.ref p) H))) j8:=by
 intro O H xs ds rv Q n hp e q;unfold j8 at e;split at e
 ·cases e
  cases hp with
  |cons h1 h2=>cases h2;obtain⟨a,xs,rfl,h1,h2⟩:=ri h1;exact⟨a,xs,rfl,.inr ⟨h1.1,q.at (.tup h1 h2)⟩⟩
 ·cases e
  cases hp with
  |cons h1 h2=>cases h2;obtain⟨a,xs,rfl,h1,h2⟩:=wG h1;exact⟨a,xs,rfl,.inl ⟨h1.sq,Fin.Pa h2 n q⟩⟩
 ·cases e
noncomputable def vn:List D->Option RV
 |[d]=>(fZ d).map .ow
 |_=>none
theorem zP:Ef K (fun xs H Q=>∃p ys,xs=[.ref p]/\(Lk K H p ys\/Lh K H p ys)/\∀l,H l=none->Q (.ref l) (aY H l (.lst ys))) vn:=by
 intro O H xs ds rv Q n hp e q;unfold vn at e;split at e
 ·rename_i d
  cases hp with
  |cons h1 h2=>
   cases h2;cases hs:fZ d with
   |none=>rw[hs] at e;cases e
   |some es=>
    rw[hs] at e;cases e;unfold fZ at hs;split at hs
    ·cases hs;obtain⟨a,xs,rfl,h1,h2⟩:=ri h1;exact⟨a,xs,rfl,.inr h1.1,Fin.new h2 q⟩
    ·cases hs;obtain⟨a,xs,rfl,h1,h2⟩:=wG h1;exact⟨a,xs,rfl,.inl h1.sq,Fin.new h2 q⟩
    ·cases hs
 ·cases e
noncomputable def mw:List D->Option RV
 |[.int i,.int j]=>some (.fz (.int (if j>i then j else i)))
 |_=>none
theorem AR:Ef K (fun xs H Q=>∃i j,xs=[.int i,.int j]/\Q (.int (if j>i then j else i)) H) mw:=by
 intro O H xs ds rv Q n hp e q;unfold mw at e;split at e
 ·cases e
  cases hp with
  |cons h1 h2=>
   cases h2 with
   |cons h2 h3=>cases h3;cases h1;cases h2;exact⟨_,_,rfl,q.at (.int _)⟩
 ·cases e
end
end L3
namespace PySem
open Sem (wp)
open AutoSeq1 (wpAny_loadPart')
open Builtin Builtin.Str
end PySem
namespace L3
open PySem PySem.Spec PyProof.Rows L2
theorem vC {bs:List Bool} {HW:List Hg} (r:Vals (bs.map V.bl) HW) {i:Nat} {v:Hg} (h:HW[i]? =some v):∃b,bs[i]? =some b/\v= .bool b:=by
 have hl:=r.length;rw[Hk] at hl;have hi:i<bs.length:=by rw[hl];exact(Hm.mp h).1
 obtain⟨u,hu,ru⟩:=r.get (i:=i) (x:= .bl bs[i]) (by rw[Hv,HD hi];rfl);rw[h] at hu;cases hu;exact⟨bs[i],HD hi,ru⟩
theorem sT (bs:List Bool):((HF bs.length).all fun i=>(bs[i]?).getD true)=bs.all id:=by
 rw[KI,Jc,Jc];constructor
 ·intro h b hb;obtain⟨i,hi,e⟩:=Pf.mp hb;have:=h i (Jd.mpr hi);rw[HD hi,e] at this;exact this
 ·intro h i hi;have hi:=Jd.mp hi;rw[HD hi];exact h _ (JU hi)
section
variable {X:Cx}
theorem k6 (hc:X.calm=true):hJ X (.builtin "all") (fun xs H Q=>∃(p:Hj) (bs:List Bool),xs=[.ref p]/\Lk X.K H p (bs.map V.bl)/\Q (.bl (bs.all id)) H):=by
 intro pins s σ H xs us Q I r h;obtain⟨l,bs,rfl,hq,q⟩:=h;obtain⟨u,rfl,ru⟩:=qu r;cases ru;obtain⟨HW,rv,pl,hz⟩:=I.list hq;have hlen:=rv.length;rw[Hk] at hlen;have NA:l<s.heap.objs.size:=by obtain⟨_,_,e,_⟩:=pl;exact Heap.lt_size e
 refine call_all_walk (Qc pl.isList ?_);refine⟨s.heap.objs.size,[s.heap.objs.size,l],[s.heap.objs.size],HW.toArray.size,_,_,fun i=>(bs[i]?).getD true,rfl,V2.list (A:=X.A.in1) (I.ok.hd hc) _ l (HK NA) HW.toArray,
  ⟨⟨_,Heap.get?_push_size _ rfl,rfl,rfl⟩,pl.isList.push _⟩,fun i v s' Q' E' hP hQ=> ?_,fun h' tk hk=> ?_⟩
 ·obtain⟨b,e,rfl⟩:=vC rv (i:=i) (v:=v) (by simpa using hP);simp only[e,Option.getD_some] at hQ;exact JT hQ
 ·rw[Hs,<-hlen,sT];refine⟨.bl _,H,I.kept (t':=tk) fun b o e=>hk b o (fun hm=> ?_) (Heap.get?_push_of_some _ e),rfl,q⟩;rw[HZ.mp hm] at e;exact IT _ (Heap.lt_size e)
end
section
variable {K:Hf}
noncomputable def oE:List D->Option (List Bool)
 |[]=>some []
 | .bool b::r=>(oE r).map (b::·)
 |_=>none
theorem tX {O:aX} {H:Hp}:∀{xs:List V} {ds:List D} {bs:List Bool},Jm O K H xs ds->oE ds=some bs->xs=bs.map V.bl
 |_,_,_,.nil,e=>by cases e;rfl
 |_,_,bs,.cons (vs:=vs) (ds:=r) h t,e=>by
  cases h with
  |bl b=>
   have e':(oE r).map (b::·)=some bs:=e;cases q:oE r with
   |none=>rw[q] at e';cases e'
   |some bs'=>rw[q] at e';cases e';rw[tX t q];rfl
  |_=>cases e
noncomputable def pi:List D->Option RV
 |[.list ds]=>(oE ds).map fun bs=> .fz (.bool (bs.all id))
 |_=>none
theorem sB:Ef K (fun xs H Q=>∃(p:Hj) (bs:List Bool),xs=[.ref p]/\Lk K H p (bs.map V.bl)/\Q (.bl (bs.all id)) H) pi:=by
 intro O H xs ds rv Q n hp e q;unfold pi at e;split at e
 ·rename_i es
  cases qs:oE es with
  |none=>rw[qs] at e;cases e
  |some bs=>
   rw[qs] at e;cases e;cases hp with
   |cons h1 h2=>cases h2;obtain⟨a,ys,rfl,h1,h2⟩:=wG h1;have:=tX h2 qs;subst this;exact⟨a,bs,rfl,h1.sq,q.at (.bl _)⟩
 ·cases e
theorem zq {O:aX} {H:Hp} (ns:List Int):Jm O K H (ns.map V.int) (ns.map .int):=by
 induction ns with
 |nil=>exact .nil
 |cons n r ih=>exact .cons (.int n) ih
end
def GR (K:Hf) (H:Hp) (x:V) (t:String):Prop:=match x with
 | .JD=>t= "NoneType"
 | .bl _=>t= "bool"
 | .int _=>t= "int"
 | .str _=>t= "str"
 | .ref a=>(t= "list"/\∃xs,Lk K H a xs)\/(t= "tuple"/\∃xs,Lh K H a xs)
 |_=>False
def Bw (K:Hf):List V->Hp->VK->Prop:=fun xs H Q=>∃x n t b,xs=[x,.ty n]/\GR K H x t/\HN K (.type t) (.type n)=some b/\Q (.bl b) H
theorem eZ {X:Cx}:hJ X (.builtin "isinstance") (Bw X.K):=by
 intro pins s σ H xs us Q I r h;obtain⟨x,n,t,b,rfl,ty,e,q⟩:=h;obtain⟨u,w',rfl,rx,rn⟩:=mz r;obtain rfl:w'=Hg.type n:=rn;have fin:∀tk,EP X pins σ Q (.bool b) {s with toks:=tk}:=fun tk=>⟨.bl b,H,I.tok tk,rfl,q⟩;cases x with
 |JD=>cases(show t= "NoneType" from ty);cases(show u=Hg.none from rx);exact JY PySem.W.kitx_none I.Mj True.intro e (fun z=>nomatch z) fin
 |bl y=>cases(show t= "bool" from ty);cases(show u=Hg.bool y from rx);exact JY PySem.W.kitx_bool I.Mj True.intro e (fun z=>nomatch z) fin
 |int i=>cases(show t= "int" from ty);obtain⟨t,q⟩:=(show∃t,u=Hg.int i t from rx);cases q;exact JY PySem.W.kitx_int I.Mj True.intro e (fun z=>nomatch z) fin
 |str y=>cases(show t= "str" from ty);obtain⟨t,q⟩:=(show∃t,u=Hg.str y t from rx);cases q;exact JY PySem.W.kitx_str I.Mj True.intro e (fun z=>nomatch z) fin
 |ref a=>
  cases(show u=Hg.ref a from rx);rcases ty with⟨rfl,xs,h⟩|⟨rfl,xs,h⟩
  ·obtain⟨HW,r,⟨o,k,h1,h2,_⟩,_⟩:=I.list h;exact JY PySem.W.kitx_list I.Mj ⟨_,h1,h2⟩ e (fun z=>nomatch z) fin
  ·obtain⟨HW,r,⟨o,h1,h2,_⟩,_⟩:=I.tuple h;exact JY PySem.W.kitx_tuple I.Mj ⟨o,h1,h2⟩ e (fun z=>nomatch z) fin
 |_=>exact(show False from ty).elim
section
variable {K:Hf} {E:XK} {B O O':aX} {H0 H H':Hp} {σ:L2.St} {ρ ρ':aw} {v:V}
noncomputable def wS:D->Option String
 | .none=>some "NoneType"
 | .bool _=>some "bool"
 | .int _=>some "int"
 | .str _=>some "str"
 | .list _=>some "list"
 | .tuple _=>some "tuple"
 | .dict _=>none
noncomputable def AZ (n t:String):Bool:=n==t||(n== "int"&&t== "bool")
theorem Bj {n t:String} (hn:n= "int"\/n= "bool"\/n= "str"\/n= "list"\/n= "tuple") {d:D} (ht:wS d=some t):HN K (.type t) (.type n)=some (AZ n t):=by cases d<;>(cases ht;try (rcases hn with rfl|rfl|rfl|rfl|rfl<;>rfl))
theorem Fo {x:V} {d:D} {t:String} (h:DX O K H x d) (e:wS d=some t):GR K H x t:=by
 cases d with
 |none=>cases e;cases h;rfl
 |bool b=>cases e;cases h;rfl
 |int b=>cases e;cases h;rfl
 |str b=>cases e;cases h;rfl
 |dict b=>cases e
 |list ds=>cases e;obtain⟨a,xs,rfl,h1,_⟩:=wG h;exact .inl ⟨rfl,xs,h1.sq⟩
 |tuple ds=>cases e;obtain⟨a,xs,rfl,h1,_⟩:=ri h;exact .inr ⟨rfl,xs,h1.1⟩
noncomputable def iB (n:String) (fa:FE):FE:=fun ρ=>(fa ρ).bind fun a=>(Res.IJ (kq a.2 a.1)).bind fun d=>(Res.IJ (wS d)).bind fun t=> .ok (.fz (.bool (AZ n t)),a.2)
theorem kE {n:String} {ta:TE} {fa:FE} (hn:n= "int"\/n= "bool"\/n= "str"\/n= "list"\/n= "tuple") (ha:EO K E ta fa):EO K E (D8 (Bw K) (fy ta (fy (tC (.ty n)) l6))) (iB n fa):=by intro B H0 O σ H ρ Q R w;refine ha B H0 O σ H ρ _ R (w.bind.imp fun a w1 O1 x H1 e1 R1 p1=> ?_);obtain⟨d,q,w1⟩:=w1.IJ;obtain⟨t,qt,w1⟩:=w1.IJ;exact⟨x,n,t,AZ n t,rfl,Fo (gc R1 p1 q) qt,Bj hn qt,w1 O1 _ H1 e1 R1 (.bl _)⟩
end
theorem wf {P:Hy} {w:HU} {K:Hf} {mg mb:Str->Option Hg} {k:Nat} {fa a:Hj} {fd:IB} {x:Str} {F:FN} {s₁:Hi} {vs:List Hg} {ns:List Int}
  (KX:K.In s₁.heap) (Oj:s₁.heap.Ns Hw mg) (hb:s₁.heap.Ns builtinsNs mb) (TQ:∀x:Str,x≠ "__name__"->mb x=Iq x) (Sm:s₁.heap.NoLimit) (hg:s₁.gens= #[])
  (ha:s₁.heap.get? a=some {cls:= .type "list",data:= .seq vs.toArray}) (hi:IntsAre vs ns) (hl:ns.length<=Ht) (hr:JW k callerA)
  (FF:∀base:Heap,K.In base->base.Ns Hw mg->FnOk P w K mg base ez k fa fd [x] (ic K 1 F)) (Qz:∀(s:Hi) (u:Hg),MD s fd ⟨[u],[]⟩ [(x,u)])
  (hF:F [.list (ns.map .int)]= .ok (.fz (.bool true))):
  codeAny (model P w) callerA (.call (.ref fa) ⟨[.ref a],[]⟩) (fun r s'=>r= .ok (.ret (.bool true))/\OldK s₁.heap s'.heap/\s'.os=s₁.os/\AllBare s'.gens) s₁:=by
 refine wQ (sp:=fun vs H Q E=>ic K 1 F vs H Q E\/(vs.length=1/\False)) KX Oj hb TQ Sm hg ha hi hl hr (fun base k1 k2=>(FF base k1 k2).imp fun vs H Q E h=> ?_) Qz (fun H hO hS=> ?_) fun _ _ _ h=>h
 ·rcases h with h|h
  ·exact h
  ·exact h.2.elim
 ·refine .inl ⟨rfl,Ox,[.list (ns.map .int)],fun a z=>z.elim,.cons (.lst ⟨?_,fun z=>z.elim⟩ (zq ns)) .nil,?_⟩
  ·rcases hS with h|⟨o,HW,n,h1,h2,h3,h4,h5,h6⟩
   ·exact .inl h
   ·have e:=KX a o h1;rw[ha] at e;cases e;cases h4;exact .inr ⟨vs,0,h1,by rw[Hk];exact hl,by simpa using h6⟩
  ·rw[hF];exact fun v H' s dv=>by cases dv;rfl
theorem FH {l:Qd} {n k:Nat} {q:Hy} {loose:List Str} {XP:(Str->Option Hg)->Heap->Prop} {YP:HU->Heap->Prop} {d:DefRec} {K:Params->Hf} {F:FN} {x:Str}
  (hn:l.most=some n) (hn2:n<=Ht) (Xk:d.params.defaults=[]) (hr:JW k callerA)
  (hY:∀(w:HU) (h:Heap),YP w h->(K w.params).In h)
  (FF:∀(w:HU) (mg:Str->Option Hg) (fa:Hj) (h:Heap),(K w.params).In h->h.Ns Hw mg->mg d.name=some (.ref fa)->
   ∃fd:IB,(∀(s:Hi) (u:Hg),MD s fd ⟨[u],[]⟩ [(x,u)])/\∀base:Heap,(K w.params).In base->base.Ns Hw mg->FnOk l.prog w (K w.params) mg base ez k fa fd [x] (ic (K w.params) 1 F))
  (hF:∀ns:List Int,ns.length<=n->F [.list (ns.map .int)]= .ok (.fz (.bool true))):
  PySem.W.WalkO q loose XP YP l.row.toRowW d [] (fun f vs=>TK f vs):=by
 refine Att.attach_call hn Xk fun w s₀ s₁ mg mb fa o pm cd doc a vs ns G Y ho hd Pm UR Sx hints hlen hg=> ?_;have KX:=hY w _ Y;obtain⟨fd,hb,hFF⟩:=FF w mg fa _ KX G.T.g UR;exact wf KX G.T.g G.T.b G.T.builtins G.T.nolimit hg Sx hints (Il hlen hn2) hr hFF hb (hF ns hlen)
theorem G3 {P:Hy} {w:HU} {K:Hf} {mg:Str->Option Hg} {base:Heap} {x qual:Str} {st:Js} {f:Hj} {fd:IB} {N ps:List Str} {k n m:Nat} {g:FS} {FF:FN} (F:Lc K x qual st f fd) (S:JJ N ps (aq st)) (hn:ps.length=n) (hm:N.length=m) (hF:FF=dD m g)
  (KN:∀(Jr:Hg) (A:HM) (outer:List Env) (s:Hi) (H:Hp) (E:XK),JW k (A.deeper (Ii qual (aq st) s.heap.objs.size f Jr))->
   ∃t,MS (dH ez P w K mg base N qual (aq st) f Jr A outer s H E).Q6 (bQ st) t/\SO K E t g):FnOk P w K mg base ez (k+1) f fd ps (ic K n FF):=by
 subst hF hm;exact G9 F S hn KN
noncomputable abbrev cU (P:Hy) (w:HU) (K:Hf) (mg:Str->Option Hg) (base:Heap) (k:Nat) (x:Str) (ps:List Str) (n:Nat) (F:FN):Prop:=mE P w K mg base k x ps (ic K n F)
end L3
namespace L3
open PySem L2
noncomputable abbrev nd (n:Nat):D:= .int (n:Int)
noncomputable def jP (ns:List Nat):List D:=ns.map nd
theorem dj (ns:List Nat):(jP ns).length=ns.length:=by unfold jP;rw[Hk]
theorem cZ {ns:List Nat} {i:Nat} {d:D} (h:(jP ns)[i]? =some d):∃n,ns[i]? =some n/\d=nd n:=by
 unfold jP at h;rw[Hv] at h;cases e:ns[i]? with
 |none=>rw[e] at h;cases h
 |some n=>rw[e] at h;exact⟨n,rfl,(HJ h).symm⟩
theorem aF {α:Type} (a:α):Res.IJ (some a)= .ok a:=rfl
theorem qm {α:Type} (a:α):ik (Res.ok a)= .ok a:=rfl
theorem tG (i:Nat) (ρ:aw):aa i ρ=tY ρ i ρ[i]? :=rfl
theorem yF (ρ:aw) (i:Nat) (d:D):tY ρ i (some (some (.fz d)))= .ok (.fz d,ρ):=rfl
theorem xP (ρ:aw) (i:Nat) (ds:List D):tY ρ i (some (some (.ow ds)))= .ok (.pl i,ρ):=rfl
theorem jn (ds:List D):pY (some (some (.ow ds)))=some ds:=rfl
theorem ul (i:Int):F6 (.int i)=some i:=rfl
theorem qw (b:Bool):Gf (.bool b)=some b:=rfl
theorem xK (i j:Int):El (.int i) (.int j)=some (.fz (.bool (decide (i<j)))):=rfl
theorem zD (i j:Int):CN (.int i) (.int j)=some (.fz (.bool (decide (j<i)))):=rfl
theorem Cc (i j:Int):EE (.int i) (.int j)=some (.fz (.bool (decide (j<=i)))):=rfl
theorem oZ (i j:Int):bE (.int i) (.int j)=some (.fz (.int (i+j))):=rfl
theorem zo (i j:Int):lf (.int i) (.int j)=some (.fz (.int (i - j))):=rfl
theorem a4 {i j:Int} (h:0<j):aM (.int i) (.int j)=some (.fz (.int (i % j))):=by show(if CG i j=true then _ else _)=_;rw[if_pos (show CG i j=true from decide_eq_true h)]
theorem bW {i j:Int} (h:0<j/\j<2^128):bN (.int i) (.int j)=some (.fz (.int (i/j))):=by show(if CC i j=true then _ else _)=_;rw[if_pos (show CC i j=true from decide_eq_true h)]
theorem zJ {i j:Int} (h: -(2^64)<i/\i<2^64):vH (.int i) (.int j)=some (.fz (.int (i*j))):=by show(if(dS i||dS j)=true then _ else _)=_;rw[if_pos (by rw[show dS i=true from decide_eq_true h,Lo])]
theorem Bl {i j:Int} (h: -(2^64)<j/\j<2^64):vH (.int i) (.int j)=some (.fz (.int (i*j))):=by show(if(dS i||dS j)=true then _ else _)=_;rw[if_pos (by rw[show dS j=true from decide_eq_true h,KP])]
theorem uo {j:Int} (h:cI j):cK [.int j]=some (dz 0 j.toNat):=by show(if cI j then _ else _)=_;rw[if_pos h]
theorem pA (n:Nat):dz 0 n=jP (HF n):=by unfold dz jP;apply List.map_congr_left;intro k _;rw[Int.zero_add]
theorem kf {n:Nat} (h:n<=1000000):cK [nd n]=some (jP (HF n)):=by rw[uo (by unfold cI;omega),pA,IV]
theorem xl {f g:FS} {ρ ρ1:aw} (h:f ρ= .ok (.nx ρ1)):ak f g ρ=g ρ1:=by unfold ak;rw[h];rfl
theorem CM {f g:FS} {ρ:aw} {rv:RV} (h:f ρ= .ok (.rt rv)):ak f g ρ= .ok (.rt rv):=by unfold ak;rw[h];rfl
theorem DB {fi:FI} {gt:FG} {b:FS} {ρ ρ1:aw} {ds:List D} (h:fi ρ= .ok (ds,ρ1)):dY fi gt b ρ=qY gt b ds ρ1:=by unfold dY;rw[h];rfl
theorem Da {N:Nat} {g:FS} {ds:List D} {rv:RV} {ρ:aw} (hρ:ds.map (fun d=>some (.fz d))++Hl (N - ds.length) none=ρ) (h:g ρ= .ok (.rt rv)):dD N g ds= .ok rv:=by unfold dD;rw[hρ,h];rfl
theorem rV {i:Int} {j:Nat} (h:j<=1000000/\i.natAbs<2^64):jR (.int i) (nd j)=some (.fz (.int (i^j))):=by show(if xa i (j:Int)=true then some (RV.fz (.int (i^((j:Nat):Int).toNat))) else none)=_;rw[if_pos (by unfold xa;exact decide_eq_true ⟨by omega,by omega,h.2⟩),IV]
theorem yX:jR (.int 10) (.int 18)=some (.fz (.int (10^18))):=rV (j:=18) ⟨by decide,by decide⟩
noncomputable def jL (gt:FG) (ft:FT) (fe:FE) (d:D) (ρ:aw):Res (Option D×aw):=(gt (.fz d) ρ).bind fun ρ1=>(ft ρ1).bind fun b=>if b.1=true then(fe b.2).bind fun a=>(Res.IJ (oV a.2 a.1)).bind fun x=> .ok (some x.1,cv x.2) else .ok (none,cv b.2)
theorem sH {gt:FG} {ft:FT} {fe:FE} {d:D} {r:List D} {ρ ρ':aw} {acc:List D} {o:Option D} (h:jL gt ft fe d ρ= .ok (o,ρ')) (hl:acc.length<1000000):cD gt ft fe (d::r) ρ acc=cD gt ft fe r ρ' (acc++o.toList):=by
 unfold jL at h;show(gt (.fz d) ρ).bind _=_;cases q1:gt (.fz d) ρ with
 |er x=>rw[q1] at h;cases h
 |bad=>rw[q1] at h;cases h
 |ok ρ1=>
  rw[q1,Res.bind_ok] at h;rw[Res.bind_ok];cases q2:ft ρ1 with
  |er x=>rw[q2] at h;cases h
  |bad=>rw[q2] at h;cases h
  |ok b=>
   obtain⟨b,ρ2⟩:=b;rw[q2,Res.bind_ok] at h;rw[Res.bind_ok];cases b with
   |false=>rw[if_neg Hu] at h⊢;cases h;rw[Option.toList_none,Iv]
   |true=>
    rw[if_pos rfl] at h⊢;cases q3:fe ρ2 with
    |er x=>rw[q3] at h;cases h
    |bad=>rw[q3] at h;cases h
    |ok a=>
     rw[q3,Res.bind_ok] at h;rw[Res.bind_ok];cases q4:oV a.2 a.1 with
     |none=>rw[q4] at h;cases h
     |some x=>rw[q4] at h;cases h;show(if acc.length<1000000 then _ else _)=_;rw[if_pos hl];rfl
theorem fY (a b:Int):j7 (.int a) (.int b)=some (.fz (.bool (decide (a=b)))):=by rfl
theorem yh {α:Type} {xs:List α} {i:Nat} {v:α} (h:xs[i]? =some v):lX xs (i:Int)=some v:=uh h
theorem G7 {ds:List D} {i:Nat} {d:D} (h:ds[i]? =some d):cN (.tuple ds) (nd i)=some (.fz d):=by show(lX ds (i:Int)).map RV.fz=_;rw[yh h];rfl
theorem zH {ds:List D} {i:Nat} {d:D} (h:ds[i]? =some d):cN (.list ds) (nd i)=some (.fz d):=by show(lX ds (i:Int)).map RV.fz=_;rw[yh h];rfl
section
variable {ρ ρ1 ρ2 ρ3:aw} {fa fb fc fe:FE} {pa pb pv:PV} {dx dy d:D} {rv:RV} {ps:List PV} {ds:List D}
theorem ai {i:Nat} (h:ρ[i]? =some (some (.fz d))):aa i ρ= .ok (.fz d,ρ):=by rw[tG,h,yF]
theorem cu {i:Nat} (h:ρ[i]? =some (some (.ow ds))):aa i ρ= .ok (.pl i,ρ):=by rw[tG,h,xP]
theorem cj:pC d ρ= .ok (.fz d,ρ):=rfl
theorem a5 {f:D->D->Option RV} (ha:fa ρ= .ok (pa,ρ1)) (hb:fb ρ1= .ok (pb,ρ2)) (hx:kq ρ2 (fX pa)=some dx) (hy:kq ρ2 pb=some dy) (hf:f dx dy=some rv):am f fa fb ρ= .ok (rv.pv,ρ2):=by unfold am;rw[ha,Res.bind_ok,hb,Res.bind_ok,hx,aF,Res.bind_ok,hy,aF,Res.bind_ok,hf,aF,Res.bind_ok]
theorem tS {f:D->Option RV} (ha:fa ρ= .ok (pa,ρ1)) (hx:kq ρ1 pa=some dx) (hf:f dx=some rv):o9 f fa ρ= .ok (rv.pv,ρ1):=by unfold o9;rw[ha,Res.bind_ok,hx,aF,Res.bind_ok,hf,aF,Res.bind_ok]
theorem a9 {b:Bool} (ha:fa ρ= .ok (pa,ρ1)) (hx:kq ρ1 pa=some (.bool b)):aC fa ρ= .ok (b,ρ1):=by unfold aC;rw[ha,Res.bind_ok,hx,aF,Res.bind_ok,qw,aF,Res.bind_ok]
theorem A9 {f g:FT} {a b:Bool} (ha:f ρ= .ok (a,ρ1)) (hb:a=true->g ρ1= .ok (b,ρ1)):we f g ρ= .ok (a&&b,ρ1):=by
 unfold we;rw[ha,Res.bind_ok];cases a with
 |true=>rw[if_pos rfl,hb rfl,N6]
 |false=>rw[if_neg Hu,LM]
theorem sx {f g:FT} {a b:Bool} (ha:f ρ= .ok (a,ρ1)) (hb:a=false->g ρ1= .ok (b,ρ1)):l7 f g ρ= .ok (a||b,ρ1):=by
 unfold l7;rw[ha,Res.bind_ok];cases a with
 |true=>rw[if_pos rfl,Lo]
 |false=>rw[if_neg Hu,hb rfl,N7]
theorem dl {f:FT} {a:Bool} (ha:f ρ= .ok (a,ρ1)):gh f ρ= .ok (!a,ρ1):=by unfold gh;rw[ha,Res.bind_ok]
theorem kj {a b:Bool} (ha:aC fa ρ= .ok (a,ρ1)) (hb:a=true->fb ρ1= .ok (.fz (.bool b),ρ1)):p0 fa fb ρ= .ok (.fz (.bool (a&&b)),ρ1):=by
 unfold p0;rw[ha,Res.bind_ok];cases a with
 |true=>rw[if_pos rfl,hb rfl,N6]
 |false=>rw[if_neg Hu,LM]
theorem tW {a:Bool} (ha:aC fa ρ= .ok (a,ρ1)):ww fa ρ= .ok (.fz (.bool (!a)),ρ1):=by unfold ww;rw[ha,Res.bind_ok]
theorem aB:ah ρ= .ok ([],ρ):=rfl
theorem ag {fr:FA} (ha:fa ρ= .ok (pa,ρ1)) (hr:fr ρ1= .ok (ps,ρ2)):ac fa fr ρ= .ok (fX pa::ps,ρ2):=by unfold ac;rw[ha,Res.bind_ok,hr,Res.bind_ok]
theorem eN {f:List D->Option RV} {fr:FA} (ha:fr ρ= .ok (ps,ρ1)) (hd:iW ρ1 ps=some ds) (hf:f ds=some rv):fR f fr ρ= .ok (rv.pv,ρ1):=by unfold fR;rw[ha,Res.bind_ok,hd,aF,Res.bind_ok,hf,aF,Res.bind_ok]
theorem a8 {F:FN} {n:Nat} {fr:FA} (ha:fr ρ= .ok (ps,ρ1)) (hd:lm ρ1 ps=some (ds,ρ2)) (hn:ds.length=n) (hF:F ds= .ok rv):aZ F n fr ρ= .ok (rv.pv,ρ2):=by unfold aZ;rw[ha,Res.bind_ok,hd,aF,Res.bind_ok];dsimp only;rw[if_pos hn,hF,qm,Res.bind_ok]
theorem om {fr:FA} (ha:fr ρ= .ok (ps,ρ1)) (hd:lm ρ1 ps=some (ds,ρ2)) (hn:ds.length<=1000):ck fr ρ= .ok (.fz (.tuple ds),ρ2):=by unfold ck;rw[ha,Res.bind_ok,hd,aF,Res.bind_ok];dsimp only;rw[if_pos hn]
theorem nU {fr:FA} (ha:fr ρ= .ok (ps,ρ1)) (hd:lm ρ1 ps=some (ds,ρ2)) (hn:ds.length<=1000):cH fr ρ= .ok (.ow ds,ρ2):=by unfold cH;rw[ha,Res.bind_ok,hd,aF,Res.bind_ok];dsimp only;rw[if_pos hn]
theorem kN {n t:String} (ha:fa ρ= .ok (pa,ρ1)) (hx:kq ρ1 pa=some dx) (ht:wS dx=some t):iB n fa ρ= .ok (.fz (.bool (AZ n t)),ρ1):=by unfold iB;rw[ha,Res.bind_ok,hx,aF,Res.bind_ok,ht,aF,Res.bind_ok]
theorem gn:cn ρ= .ok (none,ρ):=rfl
theorem d7 {i:Int} (ha:fa ρ= .ok (pa,ρ1)) (hx:kq ρ1 pa=some (.int i)):bh fa ρ= .ok (some i,ρ1):=by unfold bh;rw[ha,Res.bind_ok,hx,aF,Res.bind_ok,ul,aF,Res.bind_ok]
theorem mq {f:D->Option Int->Option Int->Option RV} {fl fh:FO} {lo hi:Option Int} (ha:fa ρ= .ok (pa,ρ1)) (hl:fl ρ1= .ok (lo,ρ2)) (hh:fh ρ2= .ok (hi,ρ3)) (hx:kq ρ3 (fX pa)=some dx) (hf:f dx lo hi=some rv):iJ f fa fl fh ρ= .ok (rv.pv,ρ3):=by unfold iJ;rw[ha,Res.bind_ok,hl,Res.bind_ok,hh,Res.bind_ok,hx,aF,Res.bind_ok,hf,aF,Res.bind_ok]
theorem iq {i:Nat} {es:List D} {x:aw} (h0:ρ[i]? =some (some (.ow es))) (ha:fe ρ= .ok (pa,ρ1)) (ht:oV ρ1 pa=some (d,ρ2)) (h1:ρ2[i]? =some (some (.ow ds))) (hl:ds.length<1000000) (hx:ρ2.set i (some (.ow (ds++[d])))=x):gH i fe ρ= .ok (.fz .none,x):=by unfold gH;rw[h0,jn,aF,Res.bind_ok,ha,Res.bind_ok,ht,aF,Res.bind_ok];dsimp only;rw[h1,jn,aF,Res.bind_ok,if_pos hl,hx]
theorem gX {n:Nat} {fv:List Nat} {fi:FI} {gt:FG} {ft:FT} {cs xs:List D} (hi:fi ρ= .ok (ds,ρ1)) (hc:me ρ1 fv=some (cs,ρ2)) (hp:ik (cD gt ft fe ds (Hl n none++cs.map fun d=>some (.fz d)) [])= .ok xs):eC n fv fi gt ft fe ρ= .ok (.ow xs,ρ2):=by unfold eC;rw[hi,Res.bind_ok];dsimp only;rw[hc,aF,Res.bind_ok];dsimp only;rw[hp,Res.bind_ok]
theorem xy {a:D} {r:List D}:cN (.tuple (a::r)) (.int 0)=some (.fz a):=G7 (i:=0) rfl
theorem yW {a:D} {r:List D}:cN (.list (a::r)) (.int 0)=some (.fz a):=zH (i:=0) rfl
theorem ka {f:List D->Option (List D)} {fr:FA} {es:List D} (ha:fr ρ= .ok (ps,ρ1)) (hd:iW ρ1 ps=some ds) (hf:f ds=some es):dM f fr ρ= .ok (es,ρ1):=by unfold dM;rw[ha,Res.bind_ok,hd,aF,Res.bind_ok,hf,aF,Res.bind_ok]
theorem nY {g:FG} (he:fe ρ= .ok (pv,ρ1)) (hg:g pv ρ1= .ok ρ2) (hn:ρ2=ρ3):aJ fe g ρ= .ok (.nx ρ3):=by unfold aJ;rw[he,Res.bind_ok];dsimp only;rw[hg,Res.bind_ok,hn]
theorem oy (he:fe ρ= .ok (pv,ρ1)):cC fe ρ= .ok (.nx ρ1):=by unfold cC;rw[he,Res.bind_ok]
theorem sA (he:fe ρ= .ok (pv,ρ1)) (hr:vY ρ1 pv=some rv):bU fe ρ= .ok (.rt rv):=by unfold bU;rw[he,Res.bind_ok];dsimp only;rw[hr,aF,Res.bind_ok]
theorem Cq {gt:FG} {ft:FT} {x:D} (hg:gt (.fz d) ρ= .ok ρ1) (ht:ft ρ1= .ok (true,ρ2)) (he:fe ρ2= .ok (pv,ρ3)) {ρ4 ρ5:aw} (hx:oV ρ3 pv=some (x,ρ4)) (hf:cv ρ4=ρ5):jL gt ft fe d ρ= .ok (some x,ρ5):=by unfold jL;rw[hg,Res.bind_ok,ht,Res.bind_ok,if_pos rfl,he,Res.bind_ok,hx,aF,Res.bind_ok,hf]
end
end L3
namespace PySem
open Sem (wp)
open Builtin
open AutoSeq1 (wpAny_loadPart')
theorem jp:fillsNumberSlot (.type "tuple") "mul"=pure false:=
 fillsNumberSlot_seq (id:= "tuple.__mul__") (r:=some (.builtin "tuple.__rmul__")) F.slot_tuple_mul.lookup (by decide+kernel) F.slot_tuple_rmul.lookup (by decide+kernel)
theorem nZ:seqRepeat? (.type "tuple")=pure (some (.builtin "tuple.__mul__")):=by unfold seqRepeat?;rw[seqSlot_of (T:= "tuple") (name:= "__mul__") (id:= "tuple.__mul__") F.slot_tuple_mul.lookup (by decide+kernel),seqSlot_of (T:= "tuple") (name:= "__rmul__") (id:= "tuple.__rmul__") F.slot_tuple_rmul.lookup (by decide+kernel)];rfl
theorem lF (a:Int) (t:Tok) (l:Hj) (items:Array Hg) (n:Nat) (Jh:Option Hj) (sl:Array (Option Hg)):
  Meets (Builtin.«int.__rmul__» ⟨[.int a t,.ref l],[]⟩) (fun _ R s=>s.heap.get? l=some {cls:= .type "tuple",dict:=Jh,data:= .seq items n,slots:=sl}/\R (.ok (.ret Hg.notImplemented)) s):=
 .of_wp fun prog w A R s h=>by obtain⟨hp,g,d,tk,os⟩:=s;obtain⟨hl,h⟩:=h;wp_walk;exact⟨_,rfl,h⟩
theorem qh (l:Hj) (items:Array Hg) (n:Nat) (Jh:Option Hj) (sl:Array (Option Hg)) (u:Tok):
  Meets (Builtin.«tuple.__mul__» ⟨[.ref l,.int 1 u],[]⟩) (fun _ R s=>s.heap.get? l=some {cls:= .type "tuple",dict:=Jh,data:= .seq items n,slots:=sl}/\R (.ok (.ret (Hg.ref l))) s):=
 .of_wp fun prog w A R s h=>by
  obtain⟨hp,g,d,tk,os⟩:=s;obtain⟨hl,h⟩:=h
  wp_walk
  exact⟨_,rfl,h⟩
theorem rd (l:Hj) (items:Array Hg) (n:Nat) (Jh:Option Hj) (sl:Array (Option Hg)) (x:Int) (u:Tok) (h1:2<=x) (h2:x<=1000) (LS:items.isEmpty=false) (hz:items.size<=1000):
  Meets (Builtin.«tuple.__mul__» ⟨[.ref l,.int x u],[]⟩) (fun _ R s=>s.heap.get? l=some {cls:= .type "tuple",dict:=Jh,data:= .seq items n,slots:=sl}/\R (.ok (.ret (Hg.ref s.heap.objs.size))) {s with heap:=s.heap.push {cls:=Hg.type "tuple",data:=Tt.seq (KR (fun x1 x2=>x1++x2) #[] (Hl x.toNat items))},toks:=s.toks}):=
 .of_wp fun prog w A R s h=>by
  obtain⟨hp,g,d,tk,os⟩:=s;obtain⟨hl,h⟩:=h;have c1:¬(decide (x< -(2^63))||decide (x≥2^63))=true:=by simp;omega
  have c2:(x==1)=false:=by simp;omega
  have c3:decide (x<=0)=false:=by simp;omega
  have c0:(items.isEmpty||x==1)=false:=by rw[LS,c2];rfl
  have c4:(decide (x<=0)||items.isEmpty)=false:=by rw[LS,c3];rfl
  have hmul:(items.size:Int)*x<=1000000:=by have:(items.size:Int)*x<=1000*1000:=Int.mul_le_mul (by omega) h2 (by omega) (by omega);omega
  have c5:¬(items.size:Int)*x>(2^63 - 1)/8:=by omega
  have c6:¬Tuple.tupleTooMany ((items.size:Int)*x)=true:=by
   unfold Tuple.tupleTooMany;simp;have:(Ht:Nat)=16777216:=by decide
   omega
  wp_walk
  rw[if_neg c1]
  wp_walk using wpAny_loadPart' hl
  rw[if_neg c5];dsimp only;rw[if_neg c6];have X3:(KR (fun x1 x2=>x1++x2) #[] (Hl x.toNat items)).size<=Ht:=by
   have f0:∀(m:Nat) (b:Array Hg),(KR (fun x1 x2=>x1++x2) b (Hl m items)).size=b.size+m*items.size:=by
    intro m
    induction m with
    |zero=>intro b;simp
    |succ m ih=>intro b;rw[Im,Nk,ih,Array.size_append,TJ];omega
   rw[f0];have h3:x.toNat*items.size<=1000*1000:=NP (by omega) hz;have:(Ht:Nat)=16777216:=by decide
   simp;omega
  wp_walk
  exact⟨_,rfl,h⟩
end PySem
namespace L3
open PySem PySem.Spec PyProof.Rows L2
def B1 (K:Hf):R2:=fun x y H Q=>∃(a:Hj) (k:Nat) (xs:List V),x= .ref a/\y= .int (k:Int)/\Lh K H a xs/\xs≠[]/\1<=k/\k<=1000/\xs.length<=1000/\
 (k=1->Q (.ref a) H)/\(2<=k->∀p,H p=none->Q (.ref p) (aY H p (.tup (Hl k xs).flatten)))
theorem Bp {X:Cx}:OpR X (Jj .Mult) (B1 X.K):=by
 intro pins s σ H x y v u Q I rx ry h;obtain⟨a,k,xs,rfl,rfl,hx,LS,h1,h2,hl,q1,q2⟩:=h;cases rx;obtain⟨t,rfl⟩:=ry;obtain⟨HW,r,ht,hz⟩:=I.tuple hx;obtain⟨⟨cls,dd,data,sl⟩,ho,hc,n,hd⟩:=id ht;simp only at hc hd;subst hc hd;have hlen:=r.length;refine Pe (T:= "tuple") (U:= "int") (by decide) ⟨_,ho,rfl⟩ (fun s'=>MX s' k t) jp F.fills_int_mul F.slot_int_rmul nZ F.slot_int_index.lookup
  (JB F.slot_int_rmul (MX s k t) F.entry_int_rmul (F.args_int_rmul_2 _ _) (lF k t a HW.toArray n dd sl) ⟨ho,rfl,⟨_,ho,rfl⟩,?_⟩)
 by_cases hk:k=1
 ·subst hk;exact JB F.slot_tuple_mul ⟨_,ho,rfl⟩ F.entry_tuple_mul (F.args_tuple_mul_2 _ _) (qh a HW.toArray n dd sl t) ⟨ho,⟨.ref a,H,I,rfl,q1 rfl⟩⟩
 ·refine JB F.slot_tuple_mul ⟨_,ho,rfl⟩ F.entry_tuple_mul (F.args_tuple_mul_2 _ _) (rd a HW.toArray n dd sl k t (by omega) (by omega) ?_ (by rw[Hs];omega)) ⟨ho,?_⟩
  ·cases HW with
   |nil=>cases r;exact absurd rfl LS
   |cons y ys=>rfl
  ·have f0:KR (fun x1 x2=>x1++x2) #[] (Hl ((k:Nat):Int).toNat HW.toArray)=(Hl k HW).flatten.toArray:=by
    have:=jw HW k [];rw[Nl] at this;rw[IV];exact this
   rw[f0];refine⟨.ref s.heap.objs.size,_,I.laid (t':=s.toks) (o:= .tup (Hl k xs).flatten) (fun b ob q=>Heap.get?_push_of_some _ q) (Ho _) ?_,rfl,q2 (by omega) _ (I.IW.fresh (Ho _))⟩;refine⟨?_,_,r.rep k,Mq.new _ _⟩;rw[uE];exact Il (NP h2 hl) (by decide)
def BI (K:Hf):R2:=fun x y H Q=>xA K x y H Q\/B1 K x y H Q
theorem Ax {X:Cx}:OpR X (Jj .Mult) (BI X.K):=OpR.or Ba Bp
noncomputable def dC:D->D->Option RV
 | .tuple xs,.int k=>if xs≠[]/\1<=k/\k<=1000/\xs.length<=1000 then some (.fz (.tuple (Hl k.toNat xs).flatten)) else none
 |d,e=>vH d e
theorem zj {K:Hf}:jg K (BI K) dC:=by
 intro O H x y dx dy rv Q n hx hy e q;unfold dC at e;split at e
 ·rename_i ds k
  split at e
  ·rename_i hc
   cases e;cases hy;obtain⟨a,xs,rfl,h1,h2⟩:=ri hx;obtain⟨m,rfl⟩:∃m:Nat,k=(m:Int):=⟨k.toNat,by omega⟩;rw[IV] at q;refine .inr ⟨a,m,xs,rfl,rfl,h1.1,fun z=>hc.1 (h2.ne.mp z),by omega,by omega,by rw[h2.length];exact hc.2.2.2,fun e=> ?_,fun _=>Fin.Pa (h2.flat m) n q⟩;subst e;have e1:(Hl 1 ds).flatten=ds:=by simp
   rw[e1] at q;exact q.at (.tup h1 h2)
  ·cases e
 ·exact .inl (Af O H x y dx dy rv Q n hx hy e q)
theorem pS (i j:Int):dC (.int i) (.int j)=vH (.int i) (.int j):=rfl
theorem dZ {i j:Int} (h: -(2^64)<i/\i<2^64):dC (.int i) (.int j)=some (.fz (.int (i*j))):=(pS i j).trans (zJ h)
theorem pf {i j:Int} (h: -(2^64)<j/\j<2^64):dC (.int i) (.int j)=some (.fz (.int (i*j))):=(pS i j).trans (Bl h)
end L3
namespace PySem
open Sem (wp)
open Builtin Builtin.Str
end PySem
namespace L3
open PySem PySem.Spec PyProof.Rows L2
noncomputable def wm:HI->Bool
 | .Starred _ _=>true
 |_=>false
theorem vT (e:HI) (es:List HI) (env:Env) (h:wm e=false):HL (e::es) env=(false,eval e env)::HL es env:=by cases e<;>first|rfl|cases h
theorem F0 {X:Cx} {e:HI} {es:List HI} {te:TE} {t:TA} (ha:PE X e te) (hr:PA X es t) (hs:wm e=false:=by rfl):PA X (e::es) (fy te t):=af ha hr (vT e es X.env hs)
section
variable {K:Hf} {E:XK} {B O O':aX} {H0 H H':Hp} {σ:L2.St} {ρ ρ':aw} {v:V}
noncomputable def Ej (d e:D):Option RV:=match d,e with
 | .str z,.int i=>if z.length<=1000000 then(lX z.cps.toList i).map fun c=> .fz (.str ⟨#[c]⟩) else none
 |_,_=>none
theorem u8:jg K (Gs K) Ej:=by
 intro O H x y dx dy rv Q n hx hy e q;unfold Ej at e;split at e
 ·split at e
  ·rename_i z i hl
   cases qa:lX z.cps.toList i with
   |none=>rw[qa] at e;cases e
   |some c=>rw[qa] at e;cases e;cases hx;cases hy;exact .inr (.inr ⟨z,i,c,rfl,rfl,ld hl,qa,q.at (.str _)⟩)
  ·cases e
 ·cases e
end
end L3
namespace L3
open PySem L2
def GZ (N C:aw->Prop) (T:RV->Prop):Res Fl->Prop
 | .ok (.nx ρ)=>N ρ
 | .ok (.ct ρ)=>C ρ
 | .ok (.rt v)=>T v
 |_=>False
structure Go (r:Res Fl) (N C:aw->Prop) (T:RV->Prop):Prop where
 out:GZ N C T r
section
variable {ρ ρ1 ρ2 ρ3:aw} {f g:FS} {fe:FE} {pv:PV} {d:D} {rv:RV} {ds:List D} {N C:aw->Prop} {T:RV->Prop}
theorem Go.eq {r r':Res Fl} (e:r=r') (h:Go r' N C T):Go r N C T:=by rw[e];exact h
theorem Go.imp {r:Res Fl} {N' C':aw->Prop} {T':RV->Prop} (h:Go r N C T) (hN:∀ρ,N ρ->N' ρ) (hC:∀ρ,C ρ->C' ρ) (hT:∀v,T v->T' v):Go r N' C' T':=by
 refine⟨?_⟩;have h:=h.out;cases r with
 |bad=>exact h
 |er x=>exact h
 |ok fl=>
  cases fl with
  |nx r=>exact hN _ h
  |ct r=>exact hC _ h
  |rt v=>exact hT _ h
  |bk r=>exact h
theorem oa (h:Go (f ρ) (fun r=>Go (g r) N C T) C T):Go (ak f g ρ) N C T:=by
 refine⟨?_⟩;have h:=h.out;unfold ak;cases q:f ρ with
 |bad=>rw[q] at h;exact h.elim
 |er x=>rw[q] at h;exact h.elim
 |ok fl=>
  rw[q] at h;cases fl with
  |nx r=>exact(show Go (g r) N C T from h).out
  |ct r=>exact h
  |rt v=>exact h
  |bk r=>exact h.elim
theorem pO {c:FT} {b:Bool} (hc:c ρ= .ok (b,ρ1)) (ht:b=true->Go (f ρ1) N C T) (hf:b=false->Go (g ρ1) N C T):Go (ig c f g ρ) N C T:=by
 unfold ig;rw[hc,Res.bind_ok];cases b with
 |true=>exact ht rfl
 |false=>exact hf rfl
theorem yQ {gt:FG} (he:fe ρ= .ok (pv,ρ1)) (hg:gt pv ρ1= .ok ρ2) (h:N ρ2):Go (aJ fe gt ρ) N C T:= .eq (nY he hg rfl) ⟨h⟩
theorem fV (he:fe ρ= .ok (pv,ρ1)) (h:N ρ1):Go (cC fe ρ) N C T:= .eq (oy he) ⟨h⟩
theorem ce (he:fe ρ= .ok (pv,ρ1)) (hr:vY ρ1 pv=some rv) (h:T rv):Go (bU fe ρ) N C T:= .eq (sA he hr) ⟨h⟩
theorem iK (h:N ρ):Go (bO ρ) N C T:=⟨h⟩
theorem uV {gt:FG} {b:FS} (I:Nat->aw->Prop):∀(ds:List D) (k:Nat) (ρ:aw),I k ρ->(∀i d ρ,ds[i]? =some d->I (k+i) ρ->∃ρ1,gt (.fz d) ρ= .ok ρ1/\Go (b ρ1) (I (k+i+1)) (I (k+i+1)) T)->Go (qY gt b ds ρ) (I (k+ds.length)) C T
 |[],k,ρ,h0,_=>⟨h0⟩
 |d::r,k,ρ,h0,hs=>by
  obtain⟨ρ1,h1,h2⟩:=hs 0 d ρ rfl h0;have h2:=h2.out;have rest:∀ρ',I (k+1) ρ'->Go (qY gt b r ρ') (I (k+(r.length+1))) C T:=fun ρ' h=>by
   have e:k+(r.length+1)=k+1+r.length:=by omega
   rw[e];refine uV I r (k+1) ρ' h fun i d' Uc hi hI=> ?_;have e:k+1+i=k+(i+1):=by omega
   rw[e] at hI⊢;exact hs (i+1) d' Uc (by simpa using hi) hI
  refine⟨?_⟩;show GZ _ _ _ ((gt (.fz d) ρ).bind _);rw[h1,Res.bind_ok];cases q:b ρ1 with
  |bad=>rw[q] at h2;exact h2.elim
  |er x=>rw[q] at h2;exact h2.elim
  |ok fl=>
   rw[q] at h2;cases fl with
   |nx r=>exact(rest _ h2).out
   |ct r=>exact(rest _ h2).out
   |rt v=>exact h2
   |bk r=>exact h2.elim
theorem xU {fi:FI} {gt:FG} {b:FS} (I:Nat->aw->Prop) (hi:fi ρ= .ok (ds,ρ1)) (h0:I 0 ρ1) (hs:∀i d ρ,ds[i]? =some d->I i ρ->∃ρ1,gt (.fz d) ρ= .ok ρ1/\Go (b ρ1) (I (i+1)) (I (i+1)) T) (hN:∀ρ',I ds.length ρ'->N ρ'):Go (dY fi gt b ρ) N C T:=by have:=uV (C:=C) (T:=T) I ds 0 ρ1 h0 (by simpa using hs);rw[OE] at this;exact .eq (DB hi) (this.imp hN (fun _ h=>h) fun _ h=>h)
theorem fT {n:Nat} {g:FS} {T:RV->Prop} (hρ:ds.map (fun d=>some (.fz d))++Hl (n - ds.length) none=ρ) (h:Go (g ρ) (fun _=>T (.fz .none)) (fun _=>False) T):∃rv,dD n g ds= .ok rv/\T rv:=by
 have h:=h.out;unfold dD;rw[hρ];cases q:g ρ with
 |bad=>rw[q] at h;exact h.elim
 |er x=>rw[q] at h;exact h.elim
 |ok fl=>
  rw[q] at h;cases fl with
  |nx r=>exact⟨_,rfl,h⟩
  |ct r=>exact h.elim
  |rt v=>exact⟨_,rfl,h⟩
  |bk r=>exact h.elim
theorem gv {n:Nat} {g:FS} {v:RV} (hρ:ds.map (fun d=>some (.fz d))++Hl (n - ds.length) none=ρ) (h:Go (g ρ) (fun _=>RV.fz .none=v) (fun _=>False) (fun r=>r=v)):dD n g ds= .ok v:=by obtain⟨rv,h1,h2⟩:=fT (T:=fun r=>r=v) hρ h;rw[h1,h2]
theorem aH {gt:FG} (he:fe ρ= .ok (pv,ρ1)) (hg:gt pv ρ1= .ok ρ2) (hn:ρ2=ρ3) (h:Go (g ρ3) N C T):Go (ak (aJ fe gt) g ρ) N C T:= .eq (xl (nY he hg hn)) h
theorem rz {gt:FG} (he:fe ρ= .ok (pv,ρ1)) (hg:gt pv ρ1= .ok ρ2) (hn:ρ2=ρ3) (h:N ρ3):Go (aJ fe gt ρ) N C T:= .eq (nY he hg hn) ⟨h⟩
theorem oX (he:fe ρ= .ok (pv,ρ1)) (h:Go (g ρ1) N C T):Go (ak (cC fe) g ρ) N C T:= .eq (xl (oy he)) h
theorem lO (he:fe ρ= .ok (pv,ρ1)) (hr:vY ρ1 pv=some rv) (h:T rv):Go (ak (bU fe) g ρ) N C T:= .eq (CM (sA he hr)) ⟨h⟩
theorem bL (h:Go (g ρ) N C T):Go (ak bO g ρ) N C T:= .eq rfl h
theorem vL {f1 f2:FS}:ak (ak f1 f2) g ρ=ak f1 (ak f2 g) ρ:=by
 unfold ak;cases f1 ρ with
 |bad=>rfl
 |er x=>rfl
 |ok fl=>cases fl<;>rfl
theorem yx {f1 f2:FS} (h:Go (ak f1 (ak f2 g) ρ) N C T):Go (ak (ak f1 f2) g ρ) N C T:= .eq vL h
theorem dW {c:FT} {f1 f2:FS} {b:Bool} (hc:c ρ= .ok (b,ρ1)) (ht:b=true->Go (ak f1 g ρ1) N C T) (hf:b=false->Go (ak f2 g ρ1) N C T):Go (ak (ig c f1 f2) g ρ) N C T:=by
 have e:ak (ig c f1 f2) g ρ=if b=true then ak f1 g ρ1 else ak f2 g ρ1:=by unfold ak ig;rw[hc,Res.bind_ok];cases b<;>rfl
 refine .eq e ?_;cases b with
 |true=>exact ht rfl
 |false=>exact hf rfl
theorem cX {fi:FI} {gt:FG} {b:FS} (I:Nat->aw->Prop) (hi:fi ρ= .ok (ds,ρ1)) (h0:I 0 ρ1) (hs:∀i d ρ,ds[i]? =some d->I i ρ->∃ρ1,gt (.fz d) ρ= .ok ρ1/\Go (b ρ1) (I (i+1)) (I (i+1)) T) (hN:∀ρ',I ds.length ρ'->Go (g ρ') N C T):Go (ak (dY fi gt b) g ρ) N C T:=
 oa (xU I hi h0 hs hN)
theorem mG {gt:FG} {ft:FT} {fe:FE} (I:aw->Prop) (P:Nat->D->Prop):∀(ds:List D) (k:Nat) (ρ:aw) (acc:List D),I ρ->acc.length+ds.length<=1000000->(∀i d,ds[i]? =some d->∀ρ,I ρ->∃x ρ',jL gt ft fe d ρ= .ok (some x,ρ')/\I ρ'/\P (k+i) x)->
  ∃xs,cD gt ft fe ds ρ acc= .ok (acc++xs)/\xs.length=ds.length/\∀i x,xs[i]? =some x->P (k+i) x
 |[],k,ρ,acc,_,_,_=>⟨[],by show Res.ok acc=_;simp,rfl,fun i x h=>by simp at h⟩
 |d::r,k,ρ,acc,h0,hl,hs=>by
  obtain⟨x,ρ',h1,h2,h3⟩:=hs 0 d rfl ρ h0;rw[HP] at hl;obtain⟨xs,g1,g2,g3⟩:=mG I P r (k+1) ρ' (acc++[x]) h2 (by rw[Hn];simp;omega) fun i d' hi Uc hI=>by
   have e:k+1+i=k+(i+1):=by omega
   rw[e];exact hs (i+1) d' (by simpa using hi) Uc hI
  refine⟨x::xs,?_,by rw[HP,g2,HP],fun i y hy=> ?_⟩
  ·rw[sH h1 (by omega)];show cD gt ft fe r ρ' (acc++[x])=_;rw[g1,K5];rfl
  ·cases i with
   |zero=>cases(show some x=some y from hy);exact h3
   |succ i=>
    have e:k+(i+1)=k+1+i:=by omega
    rw[e];exact g3 i y (by simpa using hy)
theorem wO {gt:FG} {ft:FT} {fe:FE} (I:aw->Prop) (P:Nat->D->Prop) (h0:I ρ) (hl:ds.length<=1000000) (hs:∀i d,ds[i]? =some d->∀ρ,I ρ->∃x ρ',jL gt ft fe d ρ= .ok (some x,ρ')/\I ρ'/\P i x):
  ∃xs,ik (cD gt ft fe ds ρ [])= .ok xs/\xs.length=ds.length/\∀i x,xs[i]? =some x->P i x:=by
 obtain⟨xs,g1,g2,g3⟩:=mG I P ds 0 ρ [] h0 (by simpa using hl) (by simpa using hs);exact⟨xs,by rw[g1];rfl,g2,by simpa using g3⟩
theorem oA {α:Type} {xs:List α} {i:Int} {v:α} (h0:0<=i) (h:xs[i.toNat]? =some v):lX xs i=some v:=Cv h0 h
theorem Gg {i:Int} (h0:0<=i) (h:ds[i.toNat]? =some d):cN (.tuple ds) (.int i)=some (.fz d):=by show(lX ds i).map RV.fz=_;rw[oA h0 h];rfl
theorem yw {i:Int} (h0:0<=i) (h:ds[i.toNat]? =some d):cN (.list ds) (.int i)=some (.fz d):=by show(lX ds i).map RV.fz=_;rw[oA h0 h];rfl
theorem gp {n:Int} (h0:0<=n) (h:n<=1000000):cK [.int n]=some (jP (HF n.toNat)):=by rw[uo (by unfold cI;omega),pA]
theorem Gh:jR (.int 10) (.int 8)=some (.fz (.int (10^8))):=rV (j:=8) ⟨by decide,by decide⟩
theorem Fk:jR (.int 10) (.int 24)=some (.fz (.int (10^24))):=rV (j:=24) ⟨by decide,by decide⟩
theorem df {f:D->D->Option RV} {fa fb:FE} {pa pb:PV} {dx dy:D} {b:Bool} (ha:fa ρ= .ok (pa,ρ1)) (hb:fb ρ1= .ok (pb,ρ2)) (hx:kq ρ2 (fX pa)=some dx) (hy:kq ρ2 pb=some dy) (hf:f dx dy=some (.fz (.bool b))):am f fa fb ρ= .ok (.fz (.bool b),ρ2):=a5 (rv:= .fz (.bool b)) ha hb hx hy hf
theorem sf {f:List D->Option RV} {fr:FA} {ps:List PV} {b:Bool} (ha:fr ρ= .ok (ps,ρ1)) (hd:iW ρ1 ps=some ds) (hf:f ds=some (.fz (.bool b))):fR f fr ρ= .ok (.fz (.bool b),ρ1):=eN (rv:= .fz (.bool b)) ha hd hf
theorem fJ {F:FN} {n:Nat} {fr:FA} {ps:List PV} {b:Bool} (ha:fr ρ= .ok (ps,ρ1)) (hd:lm ρ1 ps=some (ds,ρ2)) (hn:ds.length=n) (hF:F ds= .ok (.fz (.bool b))):aZ F n fr ρ= .ok (.fz (.bool b),ρ2):=a8 (rv:= .fz (.bool b)) ha hd hn hF
end
end L3
namespace L3
open PySem PySem.Spec PyProof.Rows L2 PySem.Builtin PySem.Builtin.Str
section
variable {X:Cx}
theorem Fm {z:Str} {u:Hg} (h:RelV (.str z) u):∃t,u= .str z t:=h
def Ew:V->Option Int->Option Int->Hp->VK->Prop:=fun x lo hi H Q=>∃z,x= .str z/\z.length<=Ht/\Q (.str (Txt.slice z lo hi)) H
theorem Ds:C9 X Ew:=by
 rintro pins s σ H x v vl vu lo hi sl Q I rx hs pl pu ⟨z,rfl,hz,q⟩;obtain⟨t,rfl⟩:=Fm rx;refine⟨"str",_,F.slot_str_getitem.lookup,R8 _ _ _,?_⟩;have fin:(Txt.slice z lo hi).length<=Ht/\∀t' k,EP X pins σ Q (.str (Txt.slice z lo hi) t') {s with toks:=k}:=⟨Il (Txt.slice_le z _ _) hz,fun t' k=>⟨.str _,H,I.tok k,⟨_,rfl⟩,q⟩⟩;cases pl with
 |none=>cases pu with
  |none=>exact Kp (l:=none) (u:=none) (st:=none) hs rfl (Mb fin)
  |int j u=>exact Kp (l:=none) (u:=some (j,u)) (st:=none) hs rfl (Mb fin)
 |int i u=>cases pu with
  |none=>exact Kp (l:=some (i,u)) (u:=none) (st:=none) hs rfl (Mb fin)
  |int j u'=>exact Kp (l:=some (i,u)) (u:=some (j,u')) (st:=none) hs rfl (Mb fin)
end
section
variable {K:Hf} {E:XK} {B O O':aX} {H0 H H':Hp} {σ:L2.St} {ρ ρ':aw} {v:V}
noncomputable def ip:D->Option Int->Option Int->Option RV
 | .str z,lo,hi=>if z.length<=1000000 then some (.fz (.str (Txt.slice z lo hi))) else none
 |_,_,_=>none
theorem AG:F7 K Ew ip:=by
 intro O H x lo hi dx rv Q n hx e q;unfold ip at e;split at e
 ·split at e
  ·rename_i hl;cases e;cases hx;exact⟨_,rfl,ld hl,q.at (.str _)⟩
  ·cases e
 ·cases e
noncomputable def g8:D->D->Option RV
 | .str i,.str j=>if i.length+j.length<=1000000 then some (.fz (.str (i++j))) else none
 |_,_=>none
theorem xu:jg K (fun x y H Q=>∃i j,x= .str i/\y= .str j/\i.length+j.length<=Ht/\Q (.str (i++j)) H) g8:=by
 intro O H x y dx dy rv Q n hx hy e q;unfold g8 at e;split at e
 ·split at e
  ·rename_i hl;cases e;cases hx;cases hy;exact⟨_,_,rfl,rfl,ld hl,q.at (.str _)⟩
  ·cases e
 ·cases e
end
end L3
namespace PySem
open Sem (wp)
open AutoSeq1 (wpAny_loadPart')
open Builtin Builtin.Str
end PySem
namespace PySem
open Sem (wp)
open Builtin Builtin.Str
end PySem
namespace L3
open PySem PySem.Spec PyProof.Rows L2 PySem.Builtin
end L3
namespace L3
open PySem L2
end L3
namespace L2
open PySem PySem.Spec PyProof.Rows
section
variable {X:Cx}
def tP:V->List V->Hp->VK->Prop:=fun x vs H Q=>∃(l:Hj) (xs:List V) (i:Int) (y:V),x= .ref l/\vs=[.int i,y]/\H l=some (.lst xs)/\0<=i/\i.toNat<=xs.length/\xs.length<1000000/\Q .JD (aY H l (.lst (xs.take i.toNat++y::xs.drop i.toNat)))
theorem vR:GU X "list.insert" tP:=by
 intro pins s σ H x vs v us Q I rx rv h;obtain⟨l,xs,i,y,rfl,rfl,hH,ZE,hi,hz,q⟩:=h;cases rx;obtain⟨u1,u2,rfl,r1,r2⟩:=mz rv;obtain⟨t,rfl⟩:=r1;obtain⟨z,HW,n,r,hl,e⟩:=I.SD hH;have lt:HW.length<1000000:=by rw[<-hl];exact hz
 have sl:HW.length<Ht:=L3.mJ lt;have f1: -(2^63)<=i:=Int.le_trans (by decide) ZE;have f2:i<2^63:=Int.lt_of_lt_of_le (show i<1000000 by omega) (by decide);have f3:¬(!Builtin.List.listFitsIndex i)=true:=by rw[V5 f1 f2];simp
 have sz:HW.toArray.size<=Ht:=Eq.subst (motive:=fun k=>k<=Ht) (Hs (as:=HW)).symm (JV sl);have M:=S0 l HW.toArray n i t u2 f3 sz;refine JB Nt ⟨_,e,rfl⟩ PySem.F.entry_list_insert (PySem.F.args_list_insert_3 _ _ _) M ⟨e,?_⟩;refine⟨.JD,_,I.Um (its':=HW.take i.toNat++u2::HW.drop i.toNat) hH e ?_ ((r.take i.toNat).append (.cons r2 (r.drop i.toNat))) ?_,rfl,q⟩
 ·have k0:¬(i<0):=by omega
  have k1:min i.toNat HW.toArray.size=i.toNat:=by rw[Hs];omega
  simp only[k0,if_false,k1];apply Qp.mp;simp;exact JG (by rw[HY];exact Ho _)
 ·have:=L3.mJ hz;rw[Hn,HP,Ig,HY];omega
end
end L2
namespace L3
open PySem PySem.Spec L2
section
variable {K:Hf} {E:XK}
noncomputable def wK (i:Nat) (f1 f2:FE):FE:=fun ρ=>(Res.IJ (pY ρ[i]?)).bind fun _=>(f1 ρ).bind fun a=>(Res.IJ (kq a.2 a.1)).bind fun d=>(Res.IJ (F6 d)).bind fun n=>(f2 a.2).bind fun b=>(Res.IJ (oV b.2 b.1)).bind fun c=>(Res.IJ (pY c.2[i]?)).bind fun ds=>
 if 0<=n/\n.toNat<=ds.length/\ds.length<1000000 then .ok (.fz .none,c.2.set i (some (.ow (ds.take n.toNat++c.1::ds.drop n.toNat)))) else .bad
theorem Dy {i:Nat} {t1 t2:TE} {f1 f2:FE} (h1:EO K E t1 f1) (h2:EO K E t2 f2):EO K E (E9 K "list" tP (mY i) (fy t1 (fy t2 l6))) (wK i f1 f2):=by
 intro B H0 O σ H ρ Q R w;obtain⟨ds0,q0,w⟩:=w.IJ;obtain⟨v,g1,a,vs,rfl,g2,g3,g4,g5⟩:=R.slot i _ (ke q0);refine⟨_,g1,.inl ⟨rfl,_,Lk.of g4⟩,?_⟩;refine h1 B H0 O σ H ρ _ R (w.bind.imp fun b w1 O1 y H1 e1 R1 p1=> ?_);obtain⟨d,qd,w1⟩:=w1.IJ;obtain⟨n,qn,w1⟩:=w1.IJ;have ey:=yY (gc R1 p1 qd) qn;subst ey;refine h2 B H0 O1 σ H1 b.2 _ R1 (w1.bind.imp fun c w2 O2 y2 H2 e2 R2 p2=> ?_);obtain⟨⟨d2,ρ3⟩,q3,w2⟩:=w2.IJ;obtain⟨O3,e3,R3,dv⟩:=lM R2 p2 q3;obtain⟨ds,qo,w2⟩:=w2.IJ;have qo:=ke qo;obtain⟨v',k1,a',RJ,e',k2,k3,k4,k5⟩:=R3.slot i _ qo;subst e';rw[g1] at k1;cases k1;dsimp only at w2;by_cases hn:0<=n/\n.toNat<=ds.length/\ds.length<1000000
 ·rw[if_pos hn] at w2;obtain⟨n0,n1,n2⟩:=hn;refine⟨a,RJ,n,y2,rfl,rfl,k4,n0,by rw[k5.length];exact n1,by rw[k5.length];exact n2,?_⟩;exact w2 O3 .JD _ (e1.trans (e2.trans (e3.trans (Ev.mut k2 _)))) (R3.mut qo g1 k2 k3 ((k5.take n.toNat).append (.cons dv (k5.drop n.toNat)))) .JD
 ·rw[if_neg hn] at w2;exact w2.elim
theorem Eb {i:Nat} {f1 f2:FE} {ρ ρ1 ρ2 ρ3:aw} {WD W0:PV} {n:Nat} {d2:D} {ds0 ds:List D} (h0:ρ[i]? =some (some (.ow ds0))) (h1:f1 ρ= .ok (WD,ρ1)) (h2:kq ρ1 WD=some (.int (n:Int))) (h3:f2 ρ1= .ok (W0,ρ2)) (h4:oV ρ2 W0=some (d2,ρ3)) (h5:ρ3[i]? =some (some (.ow ds))) (hn:n<=ds.length) (hl:ds.length<1000000):
  wK i f1 f2 ρ= .ok (.fz .none,ρ3.set i (some (.ow (ds.take n++d2::ds.drop n)))):=by
 unfold wK;rw[h0,h1];show(Res.IJ (kq ρ1 WD)).bind _=_;rw[h2];show(f2 ρ1).bind _=_;rw[h3];show(Res.IJ (oV ρ2 W0)).bind _=_;rw[h4];show(Res.IJ (pY ρ3[i]?)).bind _=_;rw[h5];show(if 0<=(n:Int)/\(n:Int).toNat<=ds.length/\ds.length<1000000 then _ else _)=_;rw[if_pos ⟨by omega,by rw[IV];exact hn,hl⟩,IV]
end
end L3
namespace L2
open PySem PySem.Spec PyProof.Rows
section
variable {κ:Type} [DecidableEq κ]
noncomputable def gq (kvs:List (κ×V)) (k:κ):Option V:=(kvs.find? fun kv=>decide (kv.1=k)).map (·.2)
noncomputable def eY (kvs:List (κ×V)) (k:κ) (v:V):List (κ×V):=
 if(kvs.any fun kv=>decide (kv.1=k))=true then kvs.map (fun kv=>if kv.1=k then(kv.1,v) else kv) else kvs++[(k,v)]
theorem kQ {p:κ×V} {r:List (κ×V)} {k:κ} (e:p.1=k):gq (p::r) k=some p.2:=by simp[gq,Iw,e]
theorem kG {p:κ×V} {r:List (κ×V)} {k:κ} (e:¬p.1=k):gq (p::r) k=gq r k:=by simp[gq,Iw,e]
theorem pK (k:κ):∀kvs:List (κ×V),(kvs.any fun kv=>decide (kv.1=k))=(gq kvs k).isSome
 |[]=>rfl
 |p::r=>by
  rw[Kz];by_cases e:p.1=k
  ·simp only[kQ e,decide_eq_true e,Lo,Pd]
  ·rw[kG e,decide_eq_false e,N7];exact pK k r
theorem gB (kvs:List (κ×V)) (k:κ) (v:V):(eY kvs k v).length<=kvs.length+1:=by
 unfold eY;split
 ·rw[Hk];omega
 ·rw[Hn,HP,Jw];omega
theorem ML.K8 {o:Option V} {u:Option Hg} (r:ML o u):o.isSome=u.isSome:=by
 cases o with
 |none=>cases u with
  |none=>rfl
  |some _=>exact(show False from r).elim
 |some _=>cases u with
  |none=>exact(show False from r).elim
  |some _=>rfl
theorem KV.val {kvs:List (κ×V)} {vs:List (κ×Hg)} (r:KV kvs vs) (k:κ):ML (gq kvs k) (valueAt vs k):=by
 unfold KV at r
 induction r with
 |nil=>exact True.intro
 | @cons p q ps qs h t ih=>
  obtain⟨h1,h2⟩:=h;by_cases e:p.1=k
  ·have e':q.1=k:=h1.symm.trans e
   have b:valueAt (q::qs) k=some q.2:=by simp[valueAt,Iw,e']
   rw[kQ e,b];exact h2
  ·have e':¬q.1=k:=fun z=>e (h1.trans z)
   have b:valueAt (q::qs) k=valueAt qs k:=by simp[valueAt,Iw,e']
   rw[kG e,b];exact ih
theorem KV.any {kvs:List (κ×V)} {vs:List (κ×Hg)} (r:KV kvs vs) (k:κ):(kvs.any fun kv=>decide (kv.1=k))=vs.any fun kv=>decide (kv.1=k):=by
 unfold KV at r
 induction r with
 |nil=>rfl
 |cons h t ih=>rw[Kz,Kz,ih,h.1]
theorem KV.Sq {kvs:List (κ×V)} {vs:List (κ×Hg)} (r:KV kvs vs) (k:κ) {y:V} {u:Hg} (ry:RelV y u):
  KV (kvs.map fun kv=>if kv.1=k then(kv.1,y) else kv) (vs.map fun kv=>if kv.1=k then(kv.1,u) else kv):=by
 unfold KV at r⊢
 induction r with
 |nil=>exact .nil
 | @cons p q ps qs h t ih=>
  rw[HH,HH];refine .cons ?_ ih;obtain⟨h1,h2⟩:=h;by_cases e:p.1=k
  ·rw[if_pos e,if_pos (h1.symm.trans e)];exact⟨h1,ry⟩
  ·rw[if_neg e,if_neg (fun z=>e (h1.trans z))];exact⟨h1,h2⟩
theorem KV.put {kvs:List (κ×V)} {vs:List (κ×Hg)} (r:KV kvs vs) (k:κ) {y:V} {u:Hg} (ry:RelV y u):KV (eY kvs k y) (stored vs k u):=by
 unfold eY stored;rw[r.any k];by_cases e:(vs.any fun kv=>decide (kv.1=k))=true
 ·rw[if_pos e,if_pos e];exact r.Sq k ry
 ·rw[if_neg e,if_neg e];exact Paired.snoc r ⟨rfl,ry⟩
theorem KV.length {kvs:List (κ×V)} {vs:List (κ×Hg)} (r:KV kvs vs):kvs.length=vs.length:=Paired.length r
end
theorem ky {P:Hy} {w:HU} {k:aK} {u:Hg} (r:RelV (kV k) u):(bK P w).is k u=true:=by
 cases k with
 |inl i=>obtain⟨t,e⟩:=(show∃t,u=Hg.int i t from r);subst e;exact ph P w i t
 |inr x=>obtain⟨t,e⟩:=(show∃t,u=Hg.str x t from r);subst e;exact pD P w x t
theorem mf {P:Hy} {w:HU}:∀{ks:List aK} {us:List Hg},Vals (ks.map kV) us->ItemsAre (bK P w) ks us
 |[],_,r=>by rw[ME] at r;cases r;exact .nil
 |k::ks,_,r=>by
  rw[HH] at r;cases r with
  |cons h t=>exact .cons (ky h) (mf t)
noncomputable abbrev KT (H:Hp):List (List aK×V)->List (List aK×Hj×Hg)->Prop:=Paired fun p q=>p.1=q.1/\H q.2.1=some (.tup (p.1.map kV))/\RelV p.2 q.2.2
theorem KT.val {H:Hp} {kvs:List (List aK×V)} {xs:List (List aK×Hj×Hg)} (r:KT H kvs xs) (k:List aK):ML (gq kvs k) ((atKey xs k).map (·.2)):=by
 induction r with
 |nil=>exact True.intro
 | @cons p q ps qs h t ih=>
  obtain⟨h1,_,h2⟩:=h;by_cases e:p.1=k
  ·have e':q.1=k:=h1.symm.trans e
   have b:atKey (q::qs) k=some q.2:=by simp[atKey,Iw,e']
   rw[kQ e,b];exact h2
  ·have e':¬q.1=k:=fun z=>e (h1.trans z)
   have b:atKey (q::qs) k=atKey qs k:=by simp[atKey,Iw,e']
   rw[kG e,b];exact ih
theorem KT.Sq {H:Hp} {kvs:List (List aK×V)} {xs:List (List aK×Hj×Hg)} (r:KT H kvs xs) (k:List aK) {y:V} {u:Hg} (ry:RelV y u):
  KT H (kvs.map fun kv=>if kv.1=k then(kv.1,y) else kv) (xs.map (putAt k u)):=by
 induction r with
 |nil=>exact .nil
 | @cons p q ps qs h t ih=>
  rw[HH,HH];refine .cons ?_ ih;obtain⟨h1,h2,h3⟩:=h;unfold putAt;by_cases e:p.1=k
  ·rw[if_pos e,if_pos (h1.symm.trans e)];exact⟨h1,h2,ry⟩
  ·rw[if_neg e,if_neg (fun z=>e (h1.trans z))];exact⟨h1,h2,h3⟩
theorem KT.put {H:Hp} {kvs:List (List aK×V)} {xs:List (List aK×Hj×Hg)} (r:KT H kvs xs) (k:List aK) {b:Hj} {y:V} {u:Hg} (hb:H b=some (.tup (k.map kV))) (ry:RelV y u):
  KT H (eY kvs k y) (storedH xs k b u):=by
 have e:(kvs.any fun kv=>decide (kv.1=k))=(atKey xs k).isSome:=by rw[pK,(r.val k).K8,Mo]
 unfold eY storedH;rw[e];by_cases q:(atKey xs k).isSome=true
 ·rw[if_pos q,if_pos q];exact r.Sq k ry
 ·rw[if_neg q,if_neg q];exact Paired.snoc r ⟨rfl,hb,ry⟩
theorem KT.keeps {H H':Hp} {kvs:List (List aK×V)} {xs:List (List aK×Hj×Hg)} (r:KT H kvs xs) (ht:∀b ys,H b=some (.tup ys)->H' b=some (.tup ys)):KT H' kvs xs:=
 Paired.Mi r fun _ _ z=>⟨z.1,ht _ _ z.2.1,z.2.2⟩
section
variable {P:Hy} {w:HU} {H:Hp} {h:Heap} {a:Hj}
theorem BS {u:HO} (ok:LK P w H h) (e:Rd H a u):ObjOk P w H h a u:=e.ok ok
theorem qz {kvs:List (aK×V)} (ok:LK P w H h) (e:Rd H a (.dK kvs)):kvs.length<=Ht/\(a==Km)=false/\∃vs,KV kvs vs/\h.DictOf (bK P w) a vs:=
 show ObjOk P w H h a (.dK kvs) from BS ok e
theorem BH {kvs:List (aK×V)} (ok:LK P w H h) (e:H a=some (.dK kvs)):kvs.length<=Ht/\(a==Km)=false/\∃vs,KV kvs vs/\h.DictOf (bK P w) a vs:=qz ok (.inl e)
theorem lc {ks:List aK} (ok:LK P w H h) (e:H a=some (.tup (ks.map kV))):(tupleKind (bK P w)).is h ks a:=by obtain⟨_,HW,r,o,h1,⟨h2,n,h3⟩,_⟩:=(show ObjOk P w H h a (.tup (ks.map kV)) from ok a _ e);exact⟨o,HW.toArray,n,h1,h2,h3,by simpa using mf r⟩
theorem pV {kvs:List (List aK×V)} (ok:LK P w H h) (e:Rd H a (.dT kvs)):kvs.length<=Ht/\(a==Km)=false/\
  ∃xs,KT H kvs xs/\h.DictOfH (tupleKind (bK P w)) a xs:=by
 obtain⟨z,y,xs,r,o,es,ep,h1,h2,h3,h4,h5⟩:=(show ObjOk P w H h a (.dT kvs) from BS ok e);refine⟨z,y,xs,r,o,es,ep,h1,h2,h3,h4,fun x hx=> ?_,h5⟩;have all:∀{l:List (List aK×V)} {m:List (List aK×Hj×Hg)},KT H l m->∀x∈m,(tupleKind (bK P w)).is h x.1 x.2.1:=by
  intro l m q
  induction q with
  |nil=>intro x hx;exact nomatch hx
  | @cons p q ps qs hq t ih=>
   intro x hx;rcases Ie.mp hx with e|hx
   ·subst e;exact lc ok (by rw[<-hq.1];exact hq.2.1)
   ·exact ih x hx
 exact all r x hx
theorem E7 {kvs:List (List aK×V)} (ok:LK P w H h) (e:H a=some (.dT kvs)):kvs.length<=Ht/\(a==Km)=false/\
  ∃xs,KT H kvs xs/\h.DictOfH (tupleKind (bK P w)) a xs:=pV ok (.inl e)
end
def MM (H:Hp) (a:Hj) (y:V) (r:Option V):Prop:=
 (∃kvs k,Rd H a (.dK kvs)/\y=kV k/\r=gq kvs k)\/∃kvs k b,Rd H a (.dT kvs)/\y= .ref b/\H b=some (.tup (k.map kV))/\r=gq kvs k
def QS (H:Hp) (a:Hj) (y v:V) (H':Hp):Prop:=
 (∃kvs k,H a=some (.dK kvs)/\y=kV k/\kvs.length<Ht/\H'=aY H a (.dK (eY kvs k v)))\/
 ∃kvs k b,H a=some (.dT kvs)/\y= .ref b/\H b=some (.tup (k.map kV))/\kvs.length<Ht/\H'=aY H a (.dT (eY kvs k v))
theorem MM.k {H:Hp} {a:Hj} {kvs:List (aK×V)} {k:aK} (e:H a=some (.dK kvs)):MM H a (kV k) (gq kvs k):= .inl ⟨kvs,k,.inl e,rfl,rfl⟩
theorem QS.k {H:Hp} {a:Hj} {kvs:List (aK×V)} {k:aK} {v:V} (e:H a=some (.dK kvs)) (hl:kvs.length<Ht):QS H a (kV k) v (aY H a (.dK (eY kvs k v))):= .inl ⟨kvs,k,e,rfl,hl,rfl⟩
section
variable {X:Cx} {pins:List (Hj×Obj)} {σ:St} {H:Hp} {s:Hi} {a:Hj} {y v:V} {u r:Hg} {o:Option V} {A:HM} {E:Hg->Hi->Prop}
theorem Inv.big (I:Inv X pins σ H s):Km<s.heap.objs.size:=by have h:Hw<s.heap.objs.size:=(I.mod.glob.keeps I.bk).lt;exact Kn (by decide) h
theorem wz {Q:Hg->Hi->Prop} (hu:A.units+1<cLine) (I:Inv X pins σ H s) (g:MM H a y (some v)) (ry:RelV y u) (h:∀w' s',Inv X pins σ H s'->RelV v w'->Q w' s'):
  wpAny (model X.prog X.w) A (getItem (.ref a) u) Q E s:=by
 rcases g with⟨kvs,k,e,ey,l⟩|⟨kvs,k,b,e,ey,eb,l⟩
 ·subst ey;obtain⟨z,hd,vs,rel,dd⟩:=qz I.IW e;obtain⟨w',hw,Ro⟩:=ML.some_of (v:=v) (o:=valueAt vs k) (by rw[l];exact rel.val k);exact wpAny_getItem_of (ky ry) dd.mapOf hw (h w' _ (I.tok _) Ro)
 ·subst ey;cases(show u=Hg.ref b from ry);obtain⟨z,hd,xs,rel,dd⟩:=pV I.IW e;obtain⟨w',hw,Ro⟩:=ML.some_of (v:=v) (o:=(atKey xs k).map (·.2)) (by rw[l];exact rel.val k);obtain⟨p,hp,T3⟩:=Option.map_eq_some_iff.mp hw;refine wpAny_getItem_heap (Ld hu) (lc I.IW eb) dd hp ?_;rw[T3];exact h w' _ (I.tok _) Ro
theorem GK {Q:Hg->Hi->Prop} (hu:A.units+1<cLine) (I:Inv X pins σ H s) (g:MM H a y o) (ry:RelV y u) (h:∀s',Inv X pins σ H s'->Q (.bool o.isSome) s'):
  wpAny (model X.prog X.w) A (Jn .In u (.ref a)) Q E s:=by
 rcases g with⟨kvs,k,e,ey,l⟩|⟨kvs,k,b,e,ey,eb,l⟩
 ·subst ey;obtain⟨z,hd,vs,rel,dd⟩:=qz I.IW e;refine wpAny_in_of (ky ry) hd dd.mapOf ?_;rw[<-(rel.val k).K8,<-l];exact h _ (I.tok _)
 ·subst ey;cases(show u=Hg.ref b from ry);obtain⟨z,hd,xs,rel,dd⟩:=pV I.IW e;refine wpAny_in_heap (Ld hu) (lc I.IW eb) hd dd ?_;have q:=(rel.val k).K8;rw[Mo] at q;rw[<-q,<-l];exact h _ (I.tok _)
theorem Av {Q:Hg->Hi->Prop} (hu:A.units+1<cLine) (I:Inv X pins σ H s) (g:MM H a y o) (ry:RelV y u) (h:∀s',Inv X pins σ H s'->Q (.bool (!o.isSome)) s'):
  wpAny (model X.prog X.w) A (Jn .NotIn u (.ref a)) Q E s:=by
 rcases g with⟨kvs,k,e,ey,l⟩|⟨kvs,k,b,e,ey,eb,l⟩
 ·subst ey;obtain⟨z,hd,vs,rel,dd⟩:=qz I.IW e;refine wpAny_notIn_of (ky ry) hd dd.mapOf ?_;rw[<-(rel.val k).K8,<-l];exact h _ (I.tok _)
 ·subst ey;cases(show u=Hg.ref b from ry);obtain⟨z,hd,xs,rel,dd⟩:=pV I.IW e;refine wpAny_notIn_heap (Ld hu) (lc I.IW eb) hd dd ?_;have q:=(rel.val k).K8;rw[Mo] at q;rw[<-q,<-l];exact h _ (I.tok _)
theorem og {h':Heap} {t':Nat} {ob:HO} (I:Inv X pins σ H s) (mu:Fi (H a)) (hs:Heap.SameBut a s.heap h') (he:∃q,h'.get? a=some q) (new:ObjOk X.prog X.w (aY H a ob) h' a ob):
  Inv X pins σ (aY H a ob) {s with heap:=h',toks:=t'}:=
 I.write (x:=a) (e:=a) mu (.inl rfl) (fun b q hb z=>(hs.2 b hb).trans z) he new
theorem sO {P:Hy} {w:HU} {H':Hp} {h':Heap} {kvs:List (aK×V)} {vs:List (aK×Hg)} (z:kvs.length<=Ht) (hd:(a==Km)=false) (rel:KV kvs vs) (dd:h'.DictOf (bK P w) a vs):
  ObjOk P w H' h' a (.dK kvs):=⟨z,hd,vs,rel,dd⟩
theorem wa {H':Hp} {Q:Unit->Hi->Prop} (hu:A.units+1<cLine) (I:Inv X pins σ H s) (g:QS H a y v H') (ry:RelV y u) (rv:RelV v r) (h:∀s',Inv X pins σ H' s'->Q () s'):
  wpAny (model X.prog X.w) A (setItem (.ref a) u r) Q E s:=by
 rcases g with⟨kvs,k,e,ey,l,eH⟩|⟨kvs,k,b,e,ey,eb,l,eH⟩
 ·subst ey eH
  obtain⟨z,hd,vs,rel,dd⟩:=BH I.IW e;have hz:vs.length<=Ht:=by rw[<-rel.length];exact z
  have hl:(eY kvs k v).length<=Ht:=by have:=gB kvs k v;omega
  refine wpAny_setItem_pairs (hsz:=hz) (ky ry) dd fun h' Sg hs=>h _ ?_;have he:∃q,h'.get? a=some q:=let⟨q,_,_,hq,_⟩:=Sg;⟨q,hq⟩
  exact og I (by rw[e];exact True.intro) hs he (sO hl hd (rel.put k rv) Sg)
 ·subst ey eH
  cases(show u=Hg.ref b from ry);obtain⟨z,hd,xs,rel,dd⟩:=E7 I.IW e;have hz:xs.length<=Ht:=by rw[<-Paired.length rel];exact z
  have hl:(eY kvs k v).length<=Ht:=by have:=gB kvs k v;omega
  refine wpAny_setItem_heap (hsz:=hz) (Ld hu) (lc I.IW eb) dd fun h' Sg hs=>h _ ?_;obtain⟨q,es,ep,hq,h2,h3,h4,_,h5⟩:=Sg;refine og I (by rw[e];exact True.intro) hs ⟨q,hq⟩ ⟨hl,hd,_,(rel.put k eb rv).keeps fun c ys ec=> ?_,q,es,ep,hq,h2,h3,h4,h5⟩;rw[aj (Fy ec e (fun z=>nomatch z))];exact ec
end
def Fj (i:HI):Prop:=∀ov iv,subscripted i false ov iv=operate [ov,iv] (getItem ov iv)
theorem Ak {prog:Hy} {w:HU} {A:HM} {E:Hg->Hi->Prop} {s:Hi} {env:Env} {value slice:HI} {pos:Pos} {T id:String} {Q:Hg->Hi->Prop}
  (hl:typeLookup (.type T) "__getitem__"=pure (some (.builtin id))) (hs:Fj slice)
  (h:wpAny (model prog w) A (eval value env) (fun o s₁=>wpAny (model prog w) A (eval slice env) (fun i s₂=>s₂.TypeIs o T/\wpAny (model prog w) A (getItem o i) Q E s₂) E s₁) E s):
  wpAny (model prog w) A (eval (.Subscript value slice pos) env) Q E s:=by
 refine Subscript_ (wpAny_mono h (fun o s₁ h₁=>wpAny_mono h₁ (fun i s₂ h₂=> ?_) fun _ _ x=>x) fun _ _ x=>x);obtain⟨hT,h₂⟩:=h₂;unfold subscriptTail;refine Hh ?_;rw[getitemInPython_of_ne hT.not_modules];refine Hh (N9 hT hl ?_);have fin:wpAny (model prog w) A (subscripted slice false o i) (fun r s₃=>wpAny (model prog w) A (letTemporaryGo value o r>>=fun _=>pure r) Q E s₃) E s₂:=by rw[hs o i];exact wpAny_operating (wpAny_mono h₂ (fun r s₃ h₃=>Hh (wpAny_letTemporaryGo (Hq h₃))) fun _ _ x=>x)
 first
  |exact Hq (Hh fin)
  |exact Hh (Hq (Hh fin))
  |exact Hh fin
theorem pI {X:Cx} {pins:List (Hj×Obj)} {σ:St} {H:Hp} {s:Hi} {a:Hj} {y:V} {o:Option V} (I:Inv X pins σ H s) (g:MM H a y o):s.TypeIs (.ref a) "dict":=by
 rcases g with⟨kvs,k,e,_,_⟩|⟨kvs,k,b,e,_,_,_⟩
 ·obtain⟨_,_,vs,_,dd⟩:=qz I.IW e;exact dd.typeIs
 ·obtain⟨_,_,xs,_,dd⟩:=pV I.IW e;exact dd.typeIs
def BV (td ty:TE):TE:=fun σ H Q=>td σ H fun x H1=>ty σ H1 fun y H2=>∃a v,x= .ref a/\MM H2 a y (some v)/\Q v H2
def FJ (ty td:TE):TE:=fun σ H Q=>ty σ H fun y H1=>td σ H1 fun x H2=>∃a o,x= .ref a/\MM H2 a y o/\Q (.bl o.isSome) H2
def uI (ty td:TE):TE:=fun σ H Q=>ty σ H fun y H1=>td σ H1 fun x H2=>∃a o,x= .ref a/\MM H2 a y o/\Q (.bl (!o.isSome)) H2
def BO (td ty tv:TE):TS:=fun D σ H=>tv σ H fun v H1=>td σ H1 fun x H2=>ty σ H2 fun y H3=>∃a H4,x= .ref a/\QS H3 a y v H4/\D.nx σ H4
section
variable {X:Cx} {o i e value:HI} {pos pos' abu:Pos} {td ty tv:TE}
theorem j9 (hu:X.A.units+1<cLine) (ho:PE X o td) (hi:PE X i ty) (hs:Fj i):PE X (.Subscript o i pos) (BV td ty):=by intro pins s σ H Q I h;refine Ak PySem.F.slot_dict_getitem.lookup hs (bF (ho pins s σ H _ I h) fun u s1 ⟨x,H1,I1,rx,q1⟩=>bF (hi pins s1 σ H1 _ I1 q1) fun iv s2 ⟨y,H2,I2,ry,a,v,ex,g,q2⟩=> ?_);subst ex;obtain rfl:u=Hg.ref a:=rx;exact⟨pI I2 g,wz hu I2 g ry fun w' s3 I3 Ro=>⟨v,H2,I3,Ro,q2⟩⟩
theorem CZ (hu:X.A.units+1<cLine) (hi:PE X i ty) (ho:PE X o td):PC X .In i o (FJ ty td):=by intro pins s σ H Q I h;refine bF (hi pins s σ H _ I h) fun iv s1 ⟨y,H1,I1,ry,q1⟩=>bF (ho pins s1 σ H1 _ I1 q1) fun u s2 ⟨x,H2,I2,rx,a,ov,ex,g,q2⟩=> ?_;subst ex;obtain rfl:u=Hg.ref a:=rx;exact GK hu I2 g ry fun s3 I3=>⟨.bl ov.isSome,H2,I3,rfl,q2⟩
theorem jv (hu:X.A.units+1<cLine) (hi:PE X i ty) (ho:PE X o td):PC X .NotIn i o (uI ty td):=by intro pins s σ H Q I h;refine bF (hi pins s σ H _ I h) fun iv s1 ⟨y,H1,I1,ry,q1⟩=>bF (ho pins s1 σ H1 _ I1 q1) fun u s2 ⟨x,H2,I2,rx,a,ov,ex,g,q2⟩=> ?_;subst ex;obtain rfl:u=Hg.ref a:=rx;exact Av hu I2 g ry fun s3 I3=>⟨.bl (!ov.isSome),H2,I3,rfl,q2⟩
theorem Bd (hu:X.A.units+1<cLine) (ho:PE X o td) (hi:PE X i ty) (hv:PE X value tv) (hs:Ja value (some (.Subscript o i pos')) pos.line X.env=pure false):
  PS X (.Assign [.Subscript o i pos'] value pos) (BO td ty tv):=by
 intro pins s σ H D I h;refine wpAny_Assign_Subscript (bF (hv pins s σ H _ I h) fun r s1 ⟨v,H1,I1,rv,q1⟩=>bF (ho pins s1 σ H1 _ I1 q1) fun u s2 ⟨x,H2,I2,rx,q2⟩=>bF (hi pins s2 σ H2 _ I2 q2) fun iv s3 ⟨y,H3,I3,ry,a,H4,ex,g,q3⟩=> ?_) hs;subst ex;obtain rfl:u=Hg.ref a:=rx;exact wa hu I3 g ry rv fun s4 I4=>⟨σ,H4,I4,q3⟩
end
theorem zy {P:Hy} {w:HU} {H:Hp} (h:Heap) (hb:Km<h.objs.size):ObjOk P w H (h.push {cls:= .type "dict",data:= .dict #[]}) h.objs.size (.dK []):=
 ⟨Jq _,beq_eq_false_iff_ne.mpr (Ne.symm (HK hb)),[],.nil,Heap.DictOf.new h⟩
def nj:List (TE×TE)->St->Hp->(List (V×V)->Hp->Prop)->Prop
 |[],_,H,Q=>Q [] H
 |(tk,tv)::r,σ,H,Q=>tk σ H fun x H1=>tv σ H1 fun y H2=>nj r σ H2 fun ps H3=>Q ((x,y)::ps) H3
noncomputable abbrev VV:List (V×V)->List (Hg×Hg)->Prop:=Paired fun p q=>RelV p.1 q.1/\RelV p.2 q.2
def FU (X:Cx) (pos:Pos) (keys:List (Option HI)) (values:List HI) (Oe:List (TE×TE)):Prop:=
 ∀(pins:List (Hj×Obj)) (s:Hi) (σ:St) (H:Hp) (Q:List (V×V)->Hp->Prop),Inv X pins σ H s->nj Oe σ H Q->
  wpAny (model X.prog X.w) X.A (evalPairs (pairTrees keys values X.env pos)) (fun vs s'=>∃ps H',Inv X pins σ H' s'/\VV ps vs/\Q ps H') X.xe s
theorem u4 {X:Cx} {pos:Pos}:FU X pos [] [] []:=fun pins s σ H Q I h=>pairTrees_nil_walk ⟨[],H,I,.nil,h⟩
theorem qk {X:Cx} {pos:Pos} {k v:HI} {ks:List (Option HI)} {vs:List HI} {tk tv:TE} {Oe:List (TE×TE)} (hk:PE X k tk) (hv:PE X v tv) (hr:FU X pos ks vs Oe):
  FU X pos (some k::ks) (v::vs) ((tk,tv)::Oe):=fun pins s σ H Q I h=>
 pairTrees_cons_walk (bF (hk pins s σ H _ I h) fun u s1 ⟨x,H1,I1,rx,q1⟩=>bF (hv pins s1 σ H1 _ I1 q1) fun w2 s2 ⟨y,H2,I2,ry,q2⟩=>
  bF (hr pins s2 σ H2 _ I2 q2) fun ws s3 ⟨ps,H3,I3,rel,q3⟩=>⟨(x,y)::ps,H3,I3,.cons ⟨rx,ry⟩ rel,q3⟩)
noncomputable def cP (kvs more:List (aK×V)):List (aK×V):=more.foldl (fun acc kv=>eY acc kv.1 kv.2) kvs
theorem KV.merge:∀{more:List (aK×V)} {rs:List (aK×Hg)} {kvs:List (aK×V)} {vs:List (aK×Hg)},KV more rs->KV kvs vs->KV (cP kvs more) (merged vs rs):=by
 intro more rs kvs vs r;unfold KV at r
 induction r generalizing kvs vs with
 |nil=>intro q;exact q
 | @cons p q ps qs h t ih=>
  intro r0;have e:KV (eY kvs p.1 p.2) (stored vs q.1 q.2):=by have:=r0.put p.1 h.2;rw[<-h.1];exact this
  exact ih e
theorem eV:∀(more kvs:List (aK×V)),(cP kvs more).length<=kvs.length+more.length
 |[],kvs=>by show kvs.length<=kvs.length+0;omega
 |p::r,kvs=>by have h1:=eV r (eY kvs p.1 p.2);have h2:=gB kvs p.1 p.2;show(cP (eY kvs p.1 p.2) r).length<=_;rw[HP];omega
theorem k9 {P:Hy} {w:HU}:∀{kvs:List (aK×V)} {ws:List (Hg×Hg)},VV (kvs.map fun kv=>(kV kv.1,kv.2)) ws->∃rs,Carries (bK P w) ws rs/\KV kvs rs
 |[],_,r=>by rw[ME] at r;cases r;exact⟨[],True.intro,.nil⟩
 |p::kvs,_,r=>by
  rw[HH] at r;cases r with
  | @cons a b as bs h t=>obtain⟨rs,c,q⟩:=k9 (P:=P) (w:=w) t;obtain⟨b1,b2⟩:=b;exact⟨(p.1,b2)::rs,⟨ky h.1,rfl,c⟩,.cons ⟨rfl,h.2⟩ q⟩
def BE (Oe:List (TE×TE)):TE:=fun σ H Q=>∀p,H p=none->nj Oe σ (aY H p (.dK [])) fun ps H2=>H2 p=some (.dK [])/\∃kvs:List (aK×V),ps=kvs.map (fun kv=>(kV kv.1,kv.2))/\kvs.length<=15/\Q (.ref p) (aY H2 p (.dK (cP [] kvs)))
theorem uP {X:Cx} {pos:Pos} {keys:List (Option HI)} {values:List HI} {Oe:List (TE×TE)} (h:FU X pos keys values Oe) (So:keys.all (·.isSome)=true) (hl:keys.length=values.length) (h0:keys≠[])
  (WM:keys.length<=15):PE X (.Dict keys values pos) (BE Oe):=by
 intro pins s σ H Q I q;have hn:=I.IW.fresh (Ho s.heap.objs.size);have I1:=I.laid (a:=s.heap.objs.size) (o:= .dK []) (h':=s.heap.push {cls:= .type "dict",data:= .dict #[]}) (t':=s.toks) (fun _ _ q=>Heap.get?_push_of_some _ q) (Ho _) (zy s.heap I.big);refine wpAny_Dict_walk (knd:=bK X.prog X.w) So hl h0 WM (bF (h pins _ σ _ _ I1 (q _ hn)) fun ws s2 ⟨ps,H2,I2,rel,e,kvs,ep,lk,q2⟩=> ?_);subst ep;obtain⟨rs,c,rk⟩:=k9 (P:=X.prog) (w:=X.w) rel;obtain⟨z,hd,Ys,r0,dd⟩:=BH I2.IW e;cases r0;refine⟨rs,c,dd,fun h' Sg hs=>⟨.ref s.heap.objs.size,_,?_,rfl,q2⟩⟩;have hz:(cP [] kvs).length<=Ht:=by have h1:=eV kvs [];rw[Jw] at h1;rw[JL];omega
 have he:∃q,h'.get? s.heap.objs.size=some q:=let⟨q,_,_,hq,_⟩:=Sg;⟨q,hq⟩
 exact og I2 (by rw[e];exact True.intro) hs he (sO hz hd (rk.merge .nil) Sg)
structure M1 (X:Cx) (o:HI) (m:Str) (apos:Pos) (e:HI) (KD:Pos):Prop where
 base:attributeBase o m X.env (eval o X.env)=eval o X.env
 ZN:((backTo KD (HL [e] X.env)).all (fun x=> !x.1)&&(backToKw KD (keywordEach [] X.env)).all (fun x=>x.1.isSome)
  &&decide (([e]:List HI).length+([]:List Nq).length+(if([]:List Nq).isEmpty then 0 else 1)<30))=true
 line:(apos.endLine==KD.line)=true
 trees:backTo KD (HL [e] X.env)=[(false,eval e X.env)]
structure M2 (X:Cx) (o:HI) (m:Str) (apos:Pos) (e f:HI) (KD:Pos):Prop where
 base:attributeBase o m X.env (eval o X.env)=eval o X.env
 ZN:((backTo KD (HL [e,f] X.env)).all (fun x=> !x.1)&&(backToKw KD (keywordEach [] X.env)).all (fun x=>x.1.isSome)
  &&decide (([e,f]:List HI).length+([]:List Nq).length+(if([]:List Nq).isEmpty then 0 else 1)<30))=true
 line:(apos.endLine==KD.line)=true
 trees:backTo KD (HL [e,f] X.env)=[(false,eval e X.env),(false,eval f X.env)]
end L2
namespace HT
open PySem PySem.Spec PyProof.Rows PySem.Calls
theorem rN (n:Nat):Builtin.Slice.sliceAdjust none none (-1) (n:Int)=((n:Int) - 1,-1):=by
 unfold Builtin.Slice.sliceAdjust;have h1:(-1:Int)<0:=by decide
 simp only[h1,if_true]
theorem sI (n:Nat):Builtin.Slice.slicePlaces ((n:Int) - 1) (-1) (-1)=n:=by
 unfold Builtin.Slice.slicePlaces;have h1:¬((-1:Int)>0):=by decide
 simp only[h1,if_false];by_cases h:(n:Int) - 1> -1
 ·rw[if_pos h,show(- -1:Int)=1 by decide,OD];omega
 ·rw[if_neg h];omega
theorem xN (xs:Array Hg):((HF xs.size).filterMap fun(m:Nat)=>xs[((xs.size:Int) - 1+(m:Int)*(-1)).toNat]?).toArray=xs.toList.reverse.toArray:=by
 have e:(HF xs.size).filterMap (fun(m:Nat)=>xs[((xs.size:Int) - 1+(m:Int)*(-1)).toNat]?)=((HF xs.size).map fun k=>xs.size - 1 - k).filterMap (xs[·]?):=by
  rw[Qa];have key:∀l:List Nat,(∀m∈l,m<xs.size)->l.filterMap (fun(m:Nat)=>xs[((xs.size:Int) - 1+(m:Int)*(-1)).toNat]?)=l.filterMap ((xs[·]?)∘fun k=>xs.size - 1 - k):=by
   intro l
   induction l with
   |nil=>intro _;rfl
   |cons m r ih=>
    intro h;have hm:=h m (.head _);have e1:((xs.size:Int) - 1+(m:Int)*(-1)).toNat=xs.size - 1 - m:=by omega
    rw[JX,JX,ih fun k hk=>h k (.tail _ hk),e1];rfl
  exact key _ fun m hm=>Jd.mp hm
 rw[e,PySem.W.krv_range,List.filterMap_reverse,PySem.W.krv_all]
section
variable {prog:Hy} {w:HU} {A:HM} {E:Hg->Hi->Prop} {s:Hi}
theorem jk {sl:Hj} {vk:Hg} {n:Nat} {Q:Int×Int×Nat->Hi->Prop} (hs:s.heap.IsSliceOf sl .none .none vk) (pk:Lq vk (some (-1)))
  (h:Q ((n:Int) - 1,-1,n) s):wpAny (model prog w) A (Builtin.Slice.sliceApplied (.ref sl) (pure (n:Int))) Q E s:=by
 obtain⟨os,PZ,P1,Q9⟩:=id hs;unfold Builtin.Slice.sliceApplied Builtin.Slice.sliceFields;refine Hh (Hh (IS PZ Q9 (x:= .none) rfl (Hh (IS PZ Q9 (x:= .none) rfl (Hh (IS PZ Q9 (x:=vk) rfl (Hq ?_)))))));refine Hh (d5 pk ?_);show wpAny _ _ (if((-1:Int)==0)=true then _ else _) _ _ s;rw[if_neg (by decide)];refine Hh (d5 .none (Hh (d5 .none (Hh (Hq ?_)))));show wpAny _ _ (match Builtin.Slice.sliceAdjust none none (-1) (n:Int) with|(lo,hi)=>pure (lo,(-1:Int),Builtin.Slice.slicePlaces lo hi (-1))) _ _ s;rw[rN n];show wpAny _ _ (pure ((n:Int) - 1,(-1:Int),Builtin.Slice.slicePlaces ((n:Int) - 1) (-1) (-1))) _ _ s;rw[sI];exact Hq h
theorem getItem_tuple_rev {t sl:Hj} {items:Array Hg} {vk:Hg} {Q:Hg->Hi->Prop} (ht:IsTup s.heap t items) (hs:s.heap.IsSliceOf sl .none .none vk) (pk:Lq vk (some (-1)))
  (h:Q (.ref s.heap.objs.size) {s with heap:=s.heap.push {cls:= .type "tuple",data:= .seq items.toList.reverse.toArray}})
  (hsz:items.size<=Ht):wpAny (model prog w) A (getItem (.ref t) (.ref sl)) Q E s:=by
 have Mm:sizeOk (.seq items.toList.reverse.toArray):=by show items.toList.reverse.toArray.size<=Ht;rw[Hs,IC,IM];exact hsz
 obtain⟨os,PZ,P1,Q9⟩:=id hs;have UA:s.TypeIs (.ref sl) "slice":=⟨os,PZ,P1⟩;unfold getItem
 try with_reducible refine JA ?_
 first|refine Hh (Hq ?_)|skip
 refine Hh (Nr ht.typeIs (by decide) ?_);refine Hh (LJ (name:=Str.ofString "__getitem__") ht.typeIs HS
  (NO HS ht.typeIs entry_tuple_getitem ?_ (args_tuple_getitem _ _)))
 show wpAny _ _ (Builtin.Tuple.tupleItemsOf (.ref t)>>=_) _ _ s;refine Hh (tupleItemsOf_ ht ?_);refine Hh (J6 UA ?_);rw[if_pos (by decide)];refine Hh (jk hs pk ?_);show wpAny _ _ (if(((items.size:Int) - 1)==0&&(-1:Int)==1&&items.size==items.size)=true then _ else _) _ _ s;rw[if_neg (by rw[show((-1:Int)==1)=false from by decide,Ru,LM];exact Hu),xN]
 first
  |exact Hh (m:=Builtin.Tuple.tupleExact _) (II (Hq ⟨_,rfl,Hq h⟩) Mm)
  |exact Hh (m:=Builtin.Tuple.tupleExact _) (II (Hh (Hq (Hq ⟨_,rfl,Hq h⟩))) Mm)
  |exact Hh (Hh (m:=Builtin.Tuple.tupleExact _) (II (Hq (Hq ⟨_,rfl,Hq h⟩)) Mm))
  |exact Hh (Hh (m:=Builtin.Tuple.tupleExact _) (II (Hq ⟨_,rfl,Hq h⟩) Mm))
end
end HT
namespace L2
open PySem PySem.Spec PyProof.Rows
theorem qW {xs:List V} {HW:List Hg} (h:Vals xs HW):Vals xs.reverse HW.reverse:=by
 induction h with
 |nil=>exact .nil
 |cons h t ih=>rw[Ji,Ji];exact ih.append (.cons h .nil)
def E6 (K:Hf) (te:TE) (tk:TO):TE:=fun σ H Q=>te σ H fun x H1=>tk σ H1 fun o H2=>o=some (-1)/\∃a xs,x= .ref a/\Lh K H2 a xs/\∀p,H2 p=none->Q (.ref p) (aY H2 p (.tup xs.reverse))
theorem Cj {X:Cx} {e st:HI} {p2 pos:Pos} {te:TE} {tk:TO} (he:PE X e te) (hk:PO X (some st) tk):PE X (.Subscript e (.Slice none none (some st) p2) pos) (E6 X.K te tk):=by
 intro pins s σ H Q I h;refine Subscript_ (bF (he pins s σ H _ I h) fun v s1 ⟨x,H1,I1,r1,q1⟩=> ?_);refine Rg ?_;rw[MN];refine Hq ?_;refine Hq (bF (hk pins s1 σ H1 _ I1 q1) fun vk s3 ⟨o,H3,I3,pk,e3,a,xs,ea,hx,q3⟩=> ?_);subst e3 ea;cases r1;have I4:Inv X pins σ H3 {s3 with heap:=s3.heap.push {cls:= .type "slice",data:= .fields #[.none,.none,vk]}}:=I3.kept (t':=s3.toks) fun b ob q=>Heap.get?_push_of_some _ q;obtain⟨HW,r,ht,hz⟩:=I4.tuple hx;have hlen:HW.toArray.size=xs.length:=by rw[Hs];exact r.length.symm
 show wpAny (model X.prog X.w) X.A (subscriptTail e (.Slice none none (some st) p2) (.ref a) (.ref s3.heap.objs.size)) (EP X pins σ Q) X.xe {s3 with heap:=s3.heap.push {cls:= .type "slice",data:= .fields #[.none,.none,vk]}};refine tail_any (ops:=[.ref a,.ref s3.heap.objs.size]) ht.typeIs HS.lookup ?_ (by with_unfolding_all rfl);refine HT.getItem_tuple_rev ht (Heap.IsSliceOf.new ..) pk ?_ (by rw[hlen];exact hz);refine⟨.ref _,_,I4.laid (t':=s3.toks) (o:= .tup xs.reverse) (fun b ob q=>Heap.get?_push_of_some _ q) (Ho _) ?_,rfl,q3 _ (I4.IW.fresh (Ho _))⟩;exact⟨by rw[IC];exact hz,_,qW r,Mq.new _ _⟩
end L2
namespace PySem
open Sem (wp)
open Builtin
open AutoSeq1 (wpAny_loadPart')
end PySem
namespace L3
open PySem PySem.Spec PyProof.Rows L2
def BC (K:Hf):R2:=fun x y H Q=>∃(a b:Hj) (ys:List V),x= .ref a/\y= .ref b/\Lh K H a []/\Lh K H b ys/\Q (.ref b) H
theorem Am {X:Cx}:OpR X (Jj .Add) (BC X.K):=by
 intro pins s σ H x y v u Q I rx ry h;obtain⟨a,b,ys,rfl,rfl,ha,hb,q⟩:=h;cases rx;cases ry;obtain⟨HW,r1,p1,_⟩:=I.tuple ha;obtain⟨L6,r2,p2,_⟩:=I.tuple hb;cases r1;obtain⟨⟨cls,dd,data,sl⟩,ho,hc,n,hd⟩:=id p1;obtain⟨⟨TZ,RK,data2,Ob⟩,Pl,OJ,n2,hd2⟩:=id p2;simp only at hc hd OJ hd2;subst hc hd OJ hd2;exact Qn ⟨_,ho,rfl⟩ ⟨_,Pl,rfl⟩ J5 KO Jl Jf (Jb _ _)
  (tuple_addW0 a b _ L6.toArray n n2 dd RK sl Ob rfl) ⟨ho,Pl,⟨.ref b,H,I,rfl,q⟩⟩
def B6 (K:Hf):R2:=fun x y H Q=>yV K x y H Q\/BC K x y H Q
theorem zK {X:Cx}:OpR X (Jj .Add) (B6 X.K):=OpR.or gP Am
noncomputable def c8:D->D->Option RV
 | .tuple [],.tuple ys=>some (.fz (.tuple ys))
 |d,e=>bE d e
theorem yr {K:Hf}:jg K (B6 K) c8:=by
 intro O H x y dx dy rv Q n hx hy e q;unfold c8 at e;split at e
 ·cases e;obtain⟨a,xs,rfl,h1,h2⟩:=ri hx;obtain⟨b,ys,rfl,g1,g2⟩:=ri hy;cases h2;exact .inr ⟨a,b,ys,rfl,rfl,h1.1,g1.1,q.at (.tup g1 g2)⟩
 ·exact .inl (gW O H x y dx dy rv Q n hx hy e q)
end L3
namespace L4
open PySem PySem.Spec PyProof.Rows L2 L3
def zG (h:Heap) (e:Hj) (c:Hg) (dx:Option Hj) (a0:Hg) (hd:Option Hj):Prop:=
 ∃ob fs,h.get? e=some ob/\ob.cls=c/\ob.dict=dx/\ob.data= .fields fs/\fs[0]? =some a0/\
  match hd with
  |none=>fs[1]? =some .none
  |some T=>fs[1]? =some (.ref T)/\T≠e/\∃oT ts,h.get? T=some oT/\oT.data= .fields ts/\ts[3]? =some .none
structure Ur (l:List Env) (e:Hj) (hd:Option Hj) (h h':Heap):Prop where
 keep:∀b o,h.get? b=some o->b≠e->hd≠some b->b∉pd l->h'.get? b=some o
 slot:∀b o,h.get? b=some o->b≠e->hd≠some b->∃sl,h'.get? b=some {o with slots:=sl}
 here:∀b o,h.get? b=some o->∃o',h'.get? b=some o'
section
variable {M:Np} {A:HM} {E:Hg->Hi->Prop} {s:Hi}
theorem fO {base:Heap} {env:Env} {outer:List Env} {L e:Hj} {ob:Obj} {fs:Array Hg} {hv a0:Hg} {nx:Bool} {Q:Unit->Hi->Prop}
  (hA:A.frames=some (env::outer)) (hF:s.heap.FunFrames base (env::outer)) (hL:env.frame=some L) (hE:s.heap.get? e=some ob) (hD:ob.data= .fields fs) (hZ:1<fs.size) (h0:fs[0]? =some a0)
  (k:∀h' T,s.heap.objs.size<=T->zG h' e ob.cls ob.dict a0 (some T)->Ur (env::outer) e none s.heap h'->Q () {s with heap:=h'}):
  wpAny M A (frameOf env>>=fun fr=>entryPlaceOf L nx>>=fun pl=>EntryCells.newEntry hv fr .none (rawInt L) .none pl>>=fun b=>setField (.ref e) 1 b) (fun _ s'=>wpAny M A (setFlight (.ref e) none) Q E s') E s:=by
 have nfr:e∉(env::outer).filterMap (·.frame):=fun z=>by obtain⟨_,o,q,n⟩:=hF.mem z;rw[hE] at q;cases q;exact n fs hD
 refine Hh (wpAny_frameOf_fun hA hF hL fun h1 S=> ?_);refine Hh (wpAny_entryPlaceOf fun pl P=> ?_);unfold EntryCells.newEntry newFields;refine Hh (II ?_ (P.sizeOk5 _ _ _ _ _));have q1:h1.get? e=some ob:=(S.2.1 e nfr).trans hE;generalize hN:({cls:= .type "traceback",dict:=none,data:= .fields ([hv,.ref L,.none,rawInt L,.none]++(if pl.isEmpty then Hl 6 Hg.none else pl)).toArray}:Obj)=N;have dN:N.data= .fields ([hv,.ref L,.none,rawInt L,.none]++(if pl.isEmpty then Hl 6 Hg.none else pl)).toArray:=by rw[<-hN]
 have fN:N.isFreed=false:=Obj.isFreed_of_fields dN;have q2:(h1.push N).get? e=some ob:=Heap.get?_push_of_some N q1;refine KA q2 hD hZ ?_;have nT:h1.objs.size≠e:=Jp (Heap.lt_size q1);have d3:=Obj.data_mapFields hD (·.setIfInBounds 1 (Hg.ref h1.objs.size));have q3:=Heap.get?_update_self (Obj.mapFields (·.setIfInBounds 1 (Hg.ref h1.objs.size))) q2 (Obj.isFreed_of_fields d3)
 have t3:((h1.push N).update e (Obj.mapFields (·.setIfInBounds 1 (Hg.ref h1.objs.size)))).get? h1.objs.size=some N:=
  (Heap.get?_update_other (h1.push N) (Obj.mapFields (·.setIfInBounds 1 (Hg.ref h1.objs.size))) nT.symm).trans (Heap.get?_push_size h1 fN)
 unfold setFlight;refine Hh (IS q3 d3 (x:= .ref h1.objs.size) (by simp[hZ]) ?_);rw[if_pos (show(Hg.ref h1.objs.size !=Hg.none)=true from by simp)];have tz:3<([hv,.ref L,.none,rawInt L,.none]++(if pl.isEmpty then Hl 6 Hg.none else pl)).toArray.size:=by simp only[Hs,Hn,HP,Jw];omega
 refine KA t3 dN tz ?_;have q4:=Heap.get?_update_other ((h1.push N).update e (Obj.mapFields (·.setIfInBounds 1 (Hg.ref h1.objs.size)))) (Obj.mapFields (·.setIfInBounds 3 ((none:Option Hj).elim Hg.none fun f=>rawInt f))) nT;have t4:=Heap.get?_update_self (Obj.mapFields (·.setIfInBounds 3 ((none:Option Hj).elim Hg.none fun f=>rawInt f))) t3 (Obj.isFreed_of_fields (Obj.data_mapFields dN _));have Lw:∀b o,b≠e->h1.get? b=some o->(((h1.push N).update e (Obj.mapFields (·.setIfInBounds 1 (Hg.ref h1.objs.size)))).update h1.objs.size (Obj.mapFields (·.setIfInBounds 3 ((none:Option Hj).elim Hg.none fun f=>rawInt f)))).get? b=some o:=fun b o ne q=>by rw[Heap.get?_update_other _ _ (Jp (Heap.lt_size q)),Heap.get?_update_other _ _ ne.symm];exact Heap.get?_push_of_some N q
 refine k _ h1.objs.size (by rw[S.1];exact Ho _) ⟨_,_,q4.trans q3,Obj.cls_mapFields _ _,?_,d3,?_,?_,nT,_,_,t4,Obj.data_mapFields dN _,?_⟩ ⟨fun b o q ne _ nf=>Lw b o ne ((S.2.1 b nf).trans q),fun b o q ne _=> ?_,fun b o q=> ?_⟩
 ·cases ob with
  |mk c d dt sl=>cases dt<;>rfl
 ·rw[MF (by decide)];exact h0
 ·simp[hZ]
 ·rw[LC tz];rfl
 ·obtain⟨sl,z⟩:=S.2.2 b o q;exact⟨sl,Lw b _ ne z⟩
 ·by_cases ne:b=e
  ·subst ne;exact⟨_,q4.trans q3⟩
  ·obtain⟨sl,z⟩:=S.2.2 b o q;exact⟨_,Lw b _ ne z⟩
theorem vP {base:Heap} {env:Env} {outer:List Env} {L e:Hj} {c a0:Hg} {dx hd:Option Hj} {Q:Unit->Hi->Prop}
  (hA:A.frames=some (env::outer)) (hF:s.heap.FunFrames base (env::outer)) (hL:env.frame=some L) (F:zG s.heap e c dx a0 hd)
  (k:∀h' T,s.heap.objs.size<=T->zG h' e c dx a0 (some T)->Ur (env::outer) e hd s.heap h'->Q () {s with heap:=h'}):wpAny M A (leaving env (.ref e)) Q E s:=by
 obtain⟨ob,fs,q,hc,hx,d,h0,r⟩:=F;subst hc hx;cases hd with
 |none=>have r:fs[1]? =some .none:=r;unfold leaving noteFrame;simp only[hL];refine Hh (Hh (IS q d r ?_));rw[if_neg (by decide)];exact fO hA hF hL q d (Iy.mp r).1 h0 k
 |some T=>
  obtain⟨r,nT,oT,ts,qT,dT,r3⟩:=r;unfold leaving noteFrame;simp only[hL];refine Hh (Hh (IS q d r ?_));rw[if_pos (show(Hg.ref T !=Hg.none)=true from by simp)];refine Hh (IS qT dT r3 ?_);rw[if_neg (show¬((Hg.none==rawInt L)=true) from by simp[rawInt])];refine Hh (KA qT dT (Iy.mp r3).1 ?_);have Ng:∀b,b≠T->(s.heap.update T (Obj.mapFields (·.setIfInBounds 3 Hg.none))).get? b=s.heap.get? b:=fun b ne=>Heap.get?_update_other _ _ ne.symm;have self:=Heap.get?_update_self (Obj.mapFields (·.setIfInBounds 3 Hg.none)) qT (Obj.isFreed_of_fields (Obj.data_mapFields dT _));have SI:∀b o,s.heap.get? b=some o->(∀vs,o.data≠ .fields vs)->b≠T:=fun b o z n y=>by rw[y,qT] at z;cases z;exact n ts dT
  refine fO hA (hF.of_keeps fun b o z n=>⟨o,(Ng b (SI b o z n)).trans z,rfl⟩) hL ((Ng e nT.symm).trans q) d (Iy.mp r).1 h0 fun h' T' hs F' L'=>k h' T' (by rw[Heap.size_after_update] at hs;exact hs) F' ⟨fun b o z n1 n2 n3=> ?_,fun b o z n1 n2=> ?_,fun b o z=> ?_⟩
  ·exact L'.keep b o ((Ng b fun y=>n2 (by rw[y])).trans z) n1 (by simp) n3
  ·exact L'.slot b o ((Ng b fun y=>n2 (by rw[y])).trans z) n1 (by simp)
  ·by_cases y:b=T
   ·subst y;exact L'.here b _ self
   ·exact L'.here b o ((Ng b y).trans z)
end
theorem Ur.IW {P:Hy} {w:HU} {l:List Env} {e:Hj} {hd:Option Hj} {H:Hp} {h h':Heap} (L:Ur l e hd h h') (hk:LK P w H h) (ne:H e=none) (nh:∀T,hd=some T->H T=none) (nf:∀b∈pd l,H b=none):LK P w H h':=fun b u q=>by
 have free:∀c v,H c=some v->c≠e/\hd≠some c/\c∉pd l:=fun c v z=>⟨(fun y=>by rw[y,ne] at z;cases z),(fun y=>by rw[nh c y] at z;cases z),(fun y=>by rw[nf c y] at z;cases z)⟩;refine(hk b u q).Lw (fun c v hc z=> ?_) (fun _ z=>z) fun _ _ z=>z;rcases hc with y|y
 ·rw[y] at z⊢;obtain⟨n1,n2,n3⟩:=free b u q;exact L.keep b v z n1 n2 n3
 ·obtain⟨n1,n2,n3⟩:=free c _ y;exact L.keep c v z n1 n2 n3
noncomputable def pz (P:Hy) (w:HU):uG:=fun outer H s E x s'=>
 ∃e c dx a0 T H',x= .ref e/\s.heap.get? e=none/\s.heap.get? T=none/\zG s'.heap e c dx a0 (some T)/\H' e=none/\H' T=none/\
  s'.os=s.os/\AllBare s'.gens/\Un (pd outer) [] H H' s.heap s'.heap/\LK P w H' s'.heap/\E c dx H'
theorem EG {P:Hy} {w:HU} {K:Hf} {mg:Str->Option Hg} {base:Heap} {N:List Str} {qual:Str} {scope:JP} {f:Hj} {cd:Hg} {A:HM} {outer:List Env} {s0:Hi} {H0:Hp} {E:XK}
  {pins:List (Hj×Obj)} {σ:L2.St} {H:Hp} {s:Hi} {e:Hj} {c a0:Hg} {dx hd:Option Hj} (I:L2.Inv (dH (pz P w) P w K mg base N qual scope f cd A outer s0 H0 E) pins σ H s)
  (F:zG s.heap e c dx a0 hd) (he:s0.heap.get? e=none) (hh:∀T,hd=some T->s0.heap.get? T=none) (ne:H e=none) (nh:∀T,hd=some T->H T=none) (q:E c dx H):
  (dH (pz P w) P w K mg base N qual scope f cd A outer s0 H0 E).xe (.ref e) s:=by
 have hA:=I.ok.frames;have hF:=I.stack;refine vP (L:=s0.heap.objs.size) hA hF rfl F fun h' T hs F' L=> ?_;have hk:=L.IW I.IW ne nh I.MR;have hT:H T=none:=I.IW.fresh hs;have lt0:∀b o,s0.heap.get? b=some o->b<s0.heap.objs.size:=fun b o z=>Heap.lt_size z;have Vg:∀b o,s0.heap.get? b=some o->b≠e/\hd≠some b:=fun b o z=>⟨(fun y=>by rw[y,he] at z;cases z),(fun y=>by rw[hh b y] at z;cases z)⟩;have sz:=I.sz;refine⟨e,c,dx,a0,T,H,rfl,he,Heap.get?_none_of_le (Il sz hs),F',ne,hT,I.os,I.bare,?_,hk,q⟩;have B:=I.base;refine⟨fun b o z n nf _=> ?_,fun b o z n hf _=> ?_,fun b o z n _=> ?_,fun b o z _=> ?_,B.MA,B.Ml,B.Mr⟩
 ·have z1:=B.keep b o z n nf (fun y=>nomatch y)
  refine L.keep b o z1 (Vg b o z).1 (Vg b o z).2 fun y=> ?_;rcases Ie.mp (I.Mz b y) with y|y
  ·have y:b=s0.heap.objs.size:=y;exact absurd (lt0 b o z) (by rw[y];exact IT _)
  ·exact nf y
 ·obtain⟨sl,z1⟩:=B.slot b o z n hf (fun y=>nomatch y);obtain⟨S5,z2⟩:=L.slot b _ z1 (Vg b o z).1 (Vg b o z).2;exact⟨S5,z2⟩
 ·exact B.free b o z n (fun y=>nomatch y)
 ·obtain⟨o',z1⟩:=B.there b o z (fun y=>nomatch y);exact L.here b o' z1
theorem ym {P:Hy} {w:HU} {H:Hp} {h:Heap} {a:Hj} {o:HO} (x:ObjOk P w H h a o):∃ob,h.get? a=some ob:=by
 cases o with
 |lst xs=>obtain⟨_,_,_,_,e⟩:=x;exact⟨_,e⟩
 |tup xs=>obtain⟨_,_,_,ob,e,_⟩:=x;exact⟨ob,e⟩
 |dK kvs=>obtain⟨_,_,_,_,o,_,_,e,_⟩:=x;exact⟨o,e⟩
 |dT kvs=>obtain⟨_,_,_,_,o,_,_,e,_⟩:=x;exact⟨o,e⟩
 |set S n=>obtain⟨o,_,_,_,e,_⟩:=x;exact⟨o,e⟩
 |ins C dx fs=>obtain⟨_,_,_,e,_⟩:=x;exact⟨_,e⟩
 |own y=>exact x
 |xd fs=>obtain⟨_,⟨o,_,_,e,_⟩,_⟩:=x;exact⟨o,e⟩
 |Vv lo hi=>obtain⟨_,_,_,e⟩:=x;exact⟨_,e⟩
 |frz ob u=>exact⟨ob,x.1⟩
 |RM ps=>exact⟨_,x⟩
 |met f y=>exact⟨_,x⟩
 |ext φ=>exact x.2.1
theorem qV {P:Hy} {w:HU} {H:Hp} {h:Heap} (k:LK P w H h) {a:Hj} (n:h.get? a=none):H a=none:=by
 cases q:H a with
 |none=>rfl
 |some o=>obtain⟨ob,z⟩:=ym (k a o q);rw[n] at z;cases z
section
variable {M:Np} {A:HM} {E:Hg->Hi->Prop} {s:Hi}
theorem Bm {base:Heap} {env:Env} {outer:List Env} {L e:Hj} {c a0:Hg} {dx hd:Option Hj} {Q:Unit->Hi->Prop}
  (hA:A.frames=some (env::outer)) (hF:s.heap.FunFrames base (env::outer)) (hL:env.frame=some L) (F:zG s.heap e c dx a0 hd)
  (k:∀h' T,s.heap.objs.size<=T->zG h' e c dx a0 (some T)->Ur (env::outer) e hd s.heap h'->Q () {s with heap:=h'}):
  wpAny M A (noteFrame (.ref e) env) (fun _ s2=>wpAny M A (setFlight (.ref e) none) Q E s2) E s:=by
 obtain⟨ob,fs,q,hc,hx,d,h0,r⟩:=F;subst hc hx;cases hd with
 |none=>have r:fs[1]? =some .none:=r;unfold noteFrame;simp only[hL];refine Hh (IS q d r ?_);rw[if_neg (by decide)];exact fO hA hF hL q d (Iy.mp r).1 h0 k
 |some T=>
  obtain⟨r,nT,oT,ts,qT,dT,r3⟩:=r;unfold noteFrame;simp only[hL];refine Hh (IS q d r ?_);rw[if_pos (show(Hg.ref T !=Hg.none)=true from by simp)];refine Hh (IS qT dT r3 ?_);rw[if_neg (show¬((Hg.none==rawInt L)=true) from by simp[rawInt])];refine Hh (KA qT dT (Iy.mp r3).1 ?_);have Ng:∀b,b≠T->(s.heap.update T (Obj.mapFields (·.setIfInBounds 3 Hg.none))).get? b=s.heap.get? b:=fun b ne=>Heap.get?_update_other _ _ ne.symm;have self:=Heap.get?_update_self (Obj.mapFields (·.setIfInBounds 3 Hg.none)) qT (Obj.isFreed_of_fields (Obj.data_mapFields dT _));have SI:∀b o,s.heap.get? b=some o->(∀vs,o.data≠ .fields vs)->b≠T:=fun b o z n y=>by rw[y,qT] at z;cases z;exact n ts dT
  refine fO hA (hF.of_keeps fun b o z n=>⟨o,(Ng b (SI b o z n)).trans z,rfl⟩) hL ((Ng e nT.symm).trans q) d (Iy.mp r).1 h0 fun h' T' hs F' L'=>k h' T' (by rw[Heap.size_after_update] at hs;exact hs) F' ⟨fun b o z n1 n2 n3=> ?_,fun b o z n1 n2=> ?_,fun b o z=> ?_⟩
  ·exact L'.keep b o ((Ng b fun y=>n2 (by rw[y])).trans z) n1 (by simp) n3
  ·exact L'.slot b o ((Ng b fun y=>n2 (by rw[y])).trans z) n1 (by simp)
  ·by_cases y:b=T
   ·subst y;exact L'.here b _ self
   ·exact L'.here b o ((Ng b y).trans z)
theorem C5 {e T:Hj} {c a0:Hg} {dx:Option Hj} {Q:Unit->Hi->Prop} (F:zG s.heap e c dx a0 (some T))
  (k:∀h',zG h' e c dx a0 (some T)->(∀b,b≠T->h'.get? b=s.heap.get? b)->(∃o,h'.get? T=some o)->Q () {s with heap:=h'}):wpAny M A (setFlight (.ref e) none) Q E s:=by
 obtain⟨ob,fs,q,hc,hx,d,h0,r,nT,oT,ts,qT,dT,r3⟩:=F;unfold setFlight;refine Hh (IS q d r ?_);rw[if_pos (show(Hg.ref T !=Hg.none)=true from by simp)];have z3:=(Iy.mp r3).1;refine KA qT dT z3 ?_;have Ng:∀b,b≠T->(s.heap.update T (Obj.mapFields (·.setIfInBounds 3 ((none:Option Hj).elim Hg.none fun f=>rawInt f)))).get? b=s.heap.get? b:=fun b ne=>Heap.get?_update_other _ _ ne.symm;have self:=Heap.get?_update_self (Obj.mapFields (·.setIfInBounds 3 ((none:Option Hj).elim Hg.none fun f=>rawInt f))) qT (Obj.isFreed_of_fields (Obj.data_mapFields dT _));refine k _ ⟨ob,fs,(Ng e nT.symm).trans q,hc,hx,d,h0,r,nT,_,_,self,Obj.data_mapFields dT _,?_⟩ Ng ⟨_,self⟩;rw[LC z3];rfl
end
section
variable {P:Hy} {w:HU} {K:Hf} {mg:Str->Option Hg} {base:Heap} {N:List Str} {qual:Str} {scope:JP} {f:Hj} {cd:Hg} {A:HM} {outer:List Env} {s0:Hi} {H0:Hp} {E:XK} {CX:uG}
  {σ:L2.St} {H:Hp} {s:Hi} {h':Heap} {X:Cx}
theorem qp (I:L2.Inv X [] σ H s) (S:Hj->Prop) (hex:X.ex=[]) (S8:∀p∈X.pn,¬S p.1) (keep:∀b o,s.heap.get? b=some o->¬S b->b∉pd X.stack->h'.get? b=some o)
  (slot:∀b o,s.heap.get? b=some o->¬S b->∃sl,h'.get? b=some {o with slots:=sl}) (here:∀b o,s.heap.get? b=some o->∃o',h'.get? b=some o')
  (n0:∀b,S b->X.s₀.heap.get? b=none) (nL:¬S X.env.locals) (nC:∀x c,X.env.cells.lookup x=some c->¬S c) (nH:∀b,S b->H b=none):L2.Inv X [] σ H {s with heap:=h'}:=by
 have nS:∀b o,X.s₀.heap.get? b=some o->¬S b:=fun b o z y=>by rw[n0 b y] at z;cases z
 have X7:∀b,b∉X.ex:=fun b z=>by rw[hex] at z;cases z
 have B:=I.base;have cellK:∀x c,X.env.cells.lookup x=some c->∀v,s.heap.IsCell c v->h'.IsCell c v:=fun x c z v ⟨o,ho,hd⟩=>by obtain⟨sl,q⟩:=slot c o ho (nC x c z);exact⟨_,q,hd⟩
 refine⟨I.ok,I.os,I.bare,⟨fun b o z n nf _=> ?_,fun b o z n hf _=> ?_,fun b o z n x=>B.free b o z n x,fun b o z x=> ?_,B.MA,B.Ml,B.Mr⟩,?_,fun x c z=> ?_,I.free,I.Kl,fun p hp=> ?_,fun b u q=> ?_,I.len⟩
 ·have z1:=B.keep b o z n nf (X7 b)
  refine keep b o z1 (nS b o z) fun y=> ?_;rcases Ie.mp (I.Mz b y) with y|y
  ·rw[y] at z;exact absurd (Heap.lt_size z) (Nat.not_lt_of_le I.ok.above)
  ·exact nf y
 ·obtain⟨sl,z1⟩:=B.slot b o z n hf (X7 b);obtain⟨S5,z2⟩:=slot b _ z1 (nS b o z);exact⟨S5,z2⟩
 ·obtain⟨o',z1⟩:=B.there b o z x;exact here b o' z1
 ·obtain⟨m,hn,hl⟩:=I.loc
  obtain⟨o,es,ep,ho,hd,r⟩:=hn;obtain⟨sl,q⟩:=slot _ o ho nL;refine⟨m,⟨_,es,ep,q,hd,r⟩,fun i x v a1 a2 a3=> ?_⟩;obtain⟨u,rv,l⟩:=hl i x v a1 a2 a3;refine⟨u,rv,?_⟩;rcases l with l|⟨kd,c,z,y⟩
  ·exact .inl l
  ·exact .inr ⟨kd,c,z,cellK x c z _ y⟩
 ·obtain⟨v,y⟩:=I.cell x c z;exact⟨v,cellK x c z v y⟩
 ·obtain⟨z,n,ne,nf,dd⟩:=I.pin p hp
  rw[Iv] at hp;refine⟨keep p.1 p.2 z (S8 p hp) (fun y=> ?_),n,ne,nf,dd⟩;rcases Ie.mp (I.Mz _ y) with y|y
  ·exact ne y
  ·exact nf y
 ·have free:∀c v,H c=some v->¬S c/\c∉pd X.stack:=fun c v z=>⟨(fun y=>by rw[nH c y] at z;cases z),(fun y=>by rw[I.MR c y] at z;cases z)⟩
  refine(I.IW b u q).Lw (fun c v hc z=> ?_) (fun _ z=>z) fun _ _ z=>z;rcases hc with y|y
  ·rw[y] at z⊢;exact keep b v z (free b u q).1 (free b u q).2
  ·exact keep c v z (free c _ y).1 (free c _ y).2
end
section
variable {M:Np} {A:HM} {E:Hg->Hi->Prop} {h:Heap} {g:Array LI} {d:P7} {t:Nat} {os:Oq}
theorem zB {C U e:Hj} {ob:Obj} {n1 q1 n2 q2:Str} {N1 N2:Hj} {b1 m1 b2 m2:List Hg} {d1 d2:Bool} {s1 s2:List Str} {u1 u2:List Hg} {a1 a2:Bool} {c1 c2:Option Bool} {x1 x2:Option Hj} {i0 i1 i2 i3 i5 j0 j1 j2 j3 j5:Option Hg} {Sv Yq:String} {Q:Bool->Hi->Prop}
  (hC:h.get? C=some (excClassObj n1 q1 C N1 b1 m1 d1 s1 u1 a1 c1 x1 i0 i1 i2 i3 i5 Sv)) (hU:h.get? U=some (excClassObj n2 q2 U N2 b2 m2 d2 s2 u2 a2 c2 x2 j0 j1 j2 j3 j5 Yq)) (he:h.get? e=some ob) (hc:ob.cls= .ref C)
  (hb:m2.contains (.type "BaseException")=true) (hm:(Hg.ref C::m1).contains (.ref U)=true) (hq:Q true ⟨h,g,d,t,os⟩):wpAny M A (excMatches (.ref e) (.ref U)) Q E ⟨h,g,d,t,os⟩:=by
 have TQ:(Hg.ref U::m2).contains (.type "BaseException")=true:=by rw[J7,hb,KP]
 have ft:=tc_notTuple;unfold excMatches
 repeat (first|(with_reducible refine Jo he ?_;rw[hc])|with_reducible refine Jo hU ?_|(with_reducible refine Kd hU ?_;rw[TQ])|(with_reducible refine Kd hC ?_;rw[hm])|wp_step)
 exact hq
end
noncomputable abbrev Cx.marked (X:Cx) (e:Hj):Cx:={X with A:=X.A.mark (some (.ref e)),calm:=false,xe:=fun _ _=>False}
section
variable {X:Cx} {σ:L2.St} {H:Hp} {s:Hi} {h':Heap} {e:Hj}
theorem lL (I:L2.Inv X [] σ H s) (e:Hj):L2.Inv (Cx.marked X e) [] σ H s:=
 ⟨⟨I.ok.mod,I.ok.kind,I.ok.glob,I.ok.blt,I.ok.above,I.ok.inj,I.ok.has,I.ok.RG,(fun z=>nomatch z),I.ok.frames,I.ok.SE,I.ok.Sn,I.ok.bs,I.ok.Qi,I.ok.Od,I.ok.Oi,I.ok.LZ,I.ok.Rb⟩,I.os,I.bare,I.base,I.loc,I.cell,I.free,I.Kl,I.pin,I.IW,I.len⟩
theorem sV (ok:X.Ok) (I:L2.Inv (Cx.marked X e) [] σ H s):L2.Inv X [] σ H s:=
 ⟨ok,I.os,I.bare,I.base,I.loc,I.cell,I.free,I.Kl,I.pin,I.IW,I.len⟩
theorem wk (I:L2.Inv X [] σ H s) {ob:Obj} (S8:∀p∈X.pn,p.1≠e) (q:s.heap.get? e=some ob) (ne:H e=none) (n0:X.s₀.heap.get? e=none) (nL:e≠X.env.locals) (nC:∀x c,X.env.cells.lookup x=some c->c≠e):L2.Inv X [] σ (aY H e (.frz ob (.own e))) s:=by
 have nS:∀b o,X.s₀.heap.get? b=some o->b≠e:=fun b o z y=>by rw[y,n0] at z;cases z
 have nT:∀b o,H b=some o->b≠e:=fun b o z y=>by rw[y,ne] at z;cases z
 have B:=I.base;refine⟨I.ok,I.os,I.bare,⟨B.keep,B.slot,fun b o z n x=> ?_,B.there,fun b xs z=> ?_,fun b o u z=> ?_,fun b ps z=> ?_⟩,I.loc,I.cell,?_,fun x c z=> ?_,fun p hp=> ?_,fun b u z=> ?_,I.len⟩
 ·rw[aj (nS b o z)];exact B.free b o z n x
 ·have:=B.MA b xs z;rw[aj (nT b _ this)];exact this
 ·have:=B.Ml b o u z;rw[aj (nT b _ this)];exact this
 ·obtain⟨more,y⟩:=B.Mr b ps z;exact⟨more,by rw[aj (nT b _ y)];exact y⟩
 ·rw[aj nL.symm];exact I.free
 ·rw[aj (nC x c z)];exact I.Kl x c z
 ·obtain⟨z,n,r⟩:=I.pin p hp;rw[Iv] at hp;exact⟨z,by rw[aj (S8 p hp)];exact n,r⟩
 ·by_cases y:b=e
  ·subst y;rw[ar] at z;cases z;exact⟨q,ob,q⟩
  ·rw[aj y] at z;exact(I.IW b u z).Lw (fun _ _ _ y=>y) (fun c y=>by rw[aj (nT c _ y)];exact y) fun c xs y=>by rw[aj (nT c _ y)];exact y
theorem wn {M:Np} {A:HM} {E:Hg->Hi->Prop} (I:L2.Inv X [] σ H s) {n:Str} {i:Nat} {pos:Pos} {Q:Unit->Hi->Prop} (hN:X.N.Nodup) (hi:X.N[i]? =some n) (S4:X.env.kindOf n=some .local)
  (k:∀s',L2.Inv X [] (σ.set i none) H s'->Q () s'):wpAny M A (do bindName X.env n .none;unbindBehindTheSuite X.env n pos) Q E s:=by
 obtain⟨m,hn,hl⟩:=id I.loc;have SH:(X.env.scope.kind== .class||(X.env.scope.kind== .module&&X.env.locals !=X.env.globals))=false:=by rw[I.ok.kind];rfl
 refine wpAny_nameGoes_keeps S4 hn SH fun h2 v hm S=>k _ ?_;have B:=I.base;have Qw:=I.Qw;have old:∀b o,X.s₀.heap.get? b=some o->h2.get? b=s.heap.get? b:=fun b o z=>S.2 b (HK (Hx (Heap.lt_size z) I.ok.above));have iσ:i<σ.length:=by rw[I.len];exact(Hm.mp hi).1
 refine⟨I.ok,I.os,I.bare,⟨fun b o z n nf x=>(old b o z).trans (B.keep b o z n nf x),fun b o z n hf x=> ?_,B.free,fun b o z x=> ?_,B.MA,B.Ml,B.Mr⟩,⟨_,hm,fun j y v' a1 a2 a3=> ?_⟩,fun y c z=> ?_,I.free,I.Kl,fun p hp=> ?_,fun b u z=> ?_,by rw[IZ];exact I.len⟩
 ·obtain⟨sl,y⟩:=B.slot b o z n hf x;exact⟨sl,(old b o z).trans y⟩
 ·obtain⟨o',y⟩:=B.there b o z x;exact⟨o',(old b o z).trans y⟩
 ·by_cases hj:j=i
  ·subst hj;rw[JE iσ] at a2;cases a2
  ·rw[JR (Ne.symm hj)] at a2
   obtain⟨u',r',q⟩:=hl j y v' a1 a2 a3;refine⟨u',r',?_⟩;rcases q with⟨kd,z⟩|⟨kd,c,z,w⟩
   ·refine .inl ⟨kd,?_⟩;have:y≠n:=fun z=>hj (lS hN a1 (z▸hi));simp[this,z]
   ·exact .inr ⟨kd,c,z,w.sameBut S (Qw y c z)⟩
 ·obtain⟨w,y'⟩:=I.cell y c z;exact⟨w,y'.sameBut S (Qw y c z)⟩
 ·obtain⟨z,n,ne,r⟩:=I.pin p hp;exact⟨(S.2 p.1 ne).trans z,n,ne,r⟩
 ·have free:∀c u,H c=some u->c≠X.env.locals:=fun c u z y=>by rw[y,I.free] at z;cases z
  refine(I.IW b u z).Lw (fun c w hc y=>(S.2 c ?_).trans y) (fun _ y=>y) fun _ _ y=>y;rcases hc with y'|y'
  ·rw[y'];exact free b u z
  ·exact free c _ y'
end
def lA (K:Hf) (C:Hj) (m:List Hg):Prop:=∃nm q N bs hd sn sub ab col dd k0 k1 k2 k3 k5 id,K.lookup C=some (excClassObj nm q C N bs m hd sn sub ab col dd k0 k1 k2 k3 k5 id)
structure Apart (X:Cx) (a:Hj):Prop where
 n0:X.s₀.heap.get? a=none
 nL:a≠X.env.locals
 nC:∀y c,X.env.cells.lookup y=some c->c≠a
 nP:∀p∈X.pn,p.1≠a
theorem lW {X:Cx} {pins:List (Hj×Obj)} {σ:L2.St} {H:Hp} {s:Hi} {a:Hj} (I:L2.Inv X pins σ H s) (hex:X.ex=[]) (n:s.heap.get? a=none):Apart X a:=by
 have ne:∀b o,s.heap.get? b=some o->b≠a:=fun b o z y=>by rw[y,n] at z;cases z
 refine⟨?_,?_,fun y c z=> ?_,fun p hp=> ?_⟩
 ·cases z:X.s₀.heap.get? a with
  |none=>rfl
  |some o=>obtain⟨o',y⟩:=I.base.there a o z (by rw[hex];simp);exact absurd rfl (ne a o' y)
 ·obtain⟨m,⟨o,_,_,z,_⟩,_⟩:=I.loc;exact(ne _ o z).symm
 ·obtain⟨v,o,y',_⟩:=I.cell y c z;exact ne c o y'
 ·exact ne _ _ (I.pin p (LL _ hp)).1
noncomputable abbrev Cx.pinned (X:Cx) (l:List (Hj×Obj)):Cx:={X with pn:=l}
theorem zS {X:Cx} {pins:List (Hj×Obj)} {σ:L2.St} {H:Hp} {s:Hi} (I:L2.Inv X pins σ H s):L2.Inv (Cx.pinned X (X.pn++pins)) [] σ H s:=
 ⟨⟨I.ok.mod,I.ok.kind,I.ok.glob,I.ok.blt,I.ok.above,I.ok.inj,I.ok.has,I.ok.RG,I.ok.hd,I.ok.frames,I.ok.SE,I.ok.Sn,I.ok.bs,I.ok.Qi,I.ok.Od,I.ok.Oi,I.ok.LZ,I.ok.Rb⟩,I.os,I.bare,I.base,I.loc,I.cell,I.free,I.Kl,(fun p hp=>I.pin p (by rw[Iv] at hp;exact hp)),I.IW,I.len⟩
theorem fx {X:Cx} {pins:List (Hj×Obj)} {σ:L2.St} {H:Hp} {s:Hi} (ok:X.Ok) (I:L2.Inv (Cx.pinned X (X.pn++pins)) [] σ H s):L2.Inv X pins σ H s:=
 ⟨ok,I.os,I.bare,I.base,I.loc,I.cell,I.free,I.Kl,(fun p hp=>I.pin p (by rw[Iv];exact hp)),I.IW,I.len⟩
end L4
namespace L4
open PySem PySem.Spec L2 L3
def Bs (P:Hy) (w:HU) (K:Hf) (mg:Str->Option Hg) (base:Heap) (k:Nat) (x:Str) (ps:List Str) (n:Nat) (F:FN):Prop:=
 ∃f fd,FnOk P w K mg base (pz P w) k f fd ps (ic K n F)/\Binds K fd ps []/\Jx K (.ref f)=true/\mg x=some (.ref f)
end L4
namespace L4
open PySem PySem.Spec PySem.W PyProof.Rows L2 L3
section
variable {prog:Hy} {w:HU} {A:HM} {E:Hg->Hi->Prop} {h:Heap} {g:Array LI} {d:P7} {t:Nat} {os:Oq} {a C:Hj} {o:Obj} {K:Hf}
  {n1 q1:Str} {N1:Hj} {b1 m1:List Hg} {d1:Bool} {s1:List Str} {u1:List Hg} {a1:Bool} {c1:Option Bool} {x1:Option Hj} {i0 i1 i2 i3 i5:Option Hg} {Sv:String}
theorem lG {M:Np} {nv:Hg} {Q:Unit->Hi->Prop} (hC:h.get? C=some (excClassObj n1 q1 C N1 b1 m1 d1 s1 u1 a1 c1 x1 i0 i1 i2 i3 i5 Sv)) (hb:m1.contains (.type "BaseException")=true)
  (hx:h.get? a=some o) (hc:o.cls= .ref C) (k:Q () ⟨h,g,d,t,os⟩):wpAny M A (checkBuiltinCall "BaseException.__getattribute__" ⟨[.ref a,nv],[]⟩) Q E ⟨h,g,d,t,os⟩:=by
 have e1:builtinKind "BaseException.__getattribute__"=some .slot:=by decide+kernel
 have e2:splitId "BaseException.__getattribute__"=some ("BaseException","__getattribute__"):=by decide+kernel
 have e3:(Hg.ref C::m1).contains (.type "BaseException")=true:=by rw[J7,hb,KP]
 have e4:=F.args_bexc_ga (.ref a) nv;simp only[checkBuiltinCall,e1,e2];refine Hh ?_;unfold isInstance
 repeat (first|(with_reducible refine Jo hx ?_;rw[hc])|(with_reducible refine Kd hC ?_;rw[e3])|wp_step)
 exact k
theorem sE {tk:Tok} {Q:Fin->Hi->Prop} {od:Option Obj} (X:K.In h) (I:Ke h a o C od) (l3:findIn K (.ref C) "__class__"=some (some (.builtin "object.__class__"))) (hm:mroIn K C (.type "object")=some true)
  (k:Q (.done (.ret (.ref C))) ⟨h,g,d,t,os⟩):wpAny (model prog w) A (Builtin.«object.__getattribute__» ⟨[.ref a,.str "__class__" tk],[]⟩) Q E ⟨h,g,d,t,os⟩:=by
 have e5:(⟨h,g,d,t,os⟩:Hi).TypeIs (.builtin "object.__class__") "getset_descriptor":=F.typeOf_object_class;have f5:=F.typeOf_object_class;have f6:=F.slot_gs_get.lookup;have f7:=F.slot_gs_set.lookup;have L0:=I.type (M:=model prog w);have L1:=looks_findIn (M:=model prog w) X l3
 repeat (any_goals (first|assumption|with_reducible refine L0.at ?_|with_reducible refine L1.at ?_|wp_step))
 refine class_get (s:=⟨h,g,d,t,os⟩) X I hm ?_
 repeat (any_goals (first|assumption|wp_step))
theorem wg {Q:Option Hg->Hi->Prop} {od:Option Obj} (X:K.In h) (I:Ke h a o C od) (hC:h.get? C=some (excClassObj n1 q1 C N1 b1 m1 d1 s1 u1 a1 c1 x1 i0 i1 i2 i3 i5 Sv)) (hb:m1.contains (.type "BaseException")=true)
  (l1:findIn K (.ref C) "__getattribute__"=some (some (.builtin "BaseException.__getattribute__"))) (l2:findIn K (.ref C) "__getattr__"=some none) (l3:findIn K (.ref C) "__class__"=some (some (.builtin "object.__class__"))) (hm:mroIn K C (.type "object")=some true)
  (k:Q (some (.ref C)) ⟨h,g,d,t+1,os⟩):wpAny (model prog w) A (getAttr? (.ref a) "__class__") Q E ⟨h,g,d,t,os⟩:=by
 have f3:=JI.ga.bind (.ref a);have z2:(Hg.builtin "BaseException.__getattribute__"==Hg.builtin "object.__getattribute__")=false:=by decide+kernel
 have z1:(onTheHeap (Hg.ref C)&&Hg.builtin "BaseException.__getattribute__"==Hg.builtin "object.__getattribute__")=false:=by rw[z2];rfl
 have L0:=I.type (M:=model prog w);have L1:=looks_findIn (M:=model prog w) X l1;have L2:=looks_findIn (M:=model prog w) X l2;unfold getAttr? getAttrBy? getAttrBy
 repeat (any_goals (first|assumption|with_reducible refine L0.at ?_|with_reducible refine L1.at ?_|with_reducible refine L2.at ?_|wp_step))
 refine J0 JI.ga.plain F.entry_bexc_ga (lG hC hb I.at_ I.cls (sE X I l3 hm ?_))
 repeat (any_goals (first|assumption|wp_step))
structure Lz (K:Hf) (C:Hj) (m:List Hg):Prop where
 cl:lA K C m
 be:m.contains (.type "BaseException")=true
 ga:findIn K (.ref C) "__getattribute__"=some (some (.builtin "BaseException.__getattribute__"))
 gt:findIn K (.ref C) "__getattr__"=some none
 cs:findIn K (.ref C) "__class__"=some (some (.builtin "object.__class__"))
 ob:mroIn K C (.type "object")=some true
theorem pJ {m:List Hg} {od:Option Obj} (L:Lz K C m):KitX K (.ref a) (.ref C) (fun h=>Ke h a o C od) where
 ty:=fun _ _ _ I=>I.type
 it:=fun _ _ X _=>by obtain⟨_,_,_,_,_,_,_,_,_,_,_,_,_,_,_,_,kC⟩:=L.cl;intro A' Q' E' s' k q;unfold isType loadHead;exact Hh (Wa (k _ _ (X _ _ kC)) (Hq q))
 ne:=fun h tp dd HW n sl X htp=>by obtain⟨_,_,_,_,_,_,_,_,_,_,_,_,_,_,_,_,kC⟩:=L.cl;refine Bool.eq_false_iff.mpr fun q=> ?_;obtain rfl:C=tp:=Hg.ref.inj (beq_iff_eq.mp q);have z:=congrArg Obj.cls (HJ ((X _ _ kC).symm.trans htp));exact absurd (Hg.type.inj z) (by decide)
 ca:=fun{_ _ _ _ _ s} X I k=>by obtain⟨_,_,_,_,_,_,_,_,_,_,_,_,_,_,_,_,kC⟩:=L.cl;obtain⟨hh,gg,dd,tt,oo⟩:=s;exact wg X I (X _ _ kC) L.be L.ga L.gt L.cs L.ob k
end
def Cn (K:Hf) (c:Hg):V->Hp->VK->Prop:=fun x H Q=>∃e ob C m b,x= .ref e/\H e=some (.frz ob (.own e))/\ob.cls= .ref C/\(∀p,ob.dict=some p->∃fs,H p=some (.xd fs))/\notCls ob=true/\Lz K C m/\kitOne K (.ref C) c=some b/\Q (.bl b) H
theorem yt {X:Cx} {pins:List (Hj×Obj)} {σ:L2.St} {H:Hp} {s:Hi} {A:HM} {E:Hg->Hi->Prop} {x:V} {u c:Hg} {Q:VK} (I:L2.Inv X pins σ H s) (rx:RelV x u) (h:Cn X.K c x H Q):
  wpAny (model X.prog X.w) A (call (.builtin "isinstance") [u,c]) (EP X pins σ Q) E s:=by
 obtain⟨e,ob,C,m,b,rfl,he,hc,hd,hn,L,hk,q⟩:=h;obtain rfl:u=Hg.ref e:=rx;have z:s.heap.get? e=some ob:=(I.IW e _ he).1;cases e1:ob.dict with
 |none=>exact kia_one (pJ (o:=ob) (od:=none) L) I.Mj ⟨z,hc,hn,by rw[e1];trivial⟩ hk (fun y=>nomatch y) fun tk=>⟨.bl b,H,I.tok tk,rfl,q⟩
 |some p=>obtain⟨fs,hp⟩:=hd p e1;obtain⟨op,zp⟩:=ym (I.IW p _ hp);exact kia_one (pJ (o:=ob) (od:=some op) L) I.Mj ⟨z,hc,hn,by rw[e1];exact zp⟩ hk (fun y=>nomatch y) fun tk=>⟨.bl b,H,I.tok tk,rfl,q⟩
end L4
namespace L4
open PySem PySem.SeqAt PySem.Spec PySem.W PyProof.Rows L2 L3
theorem jf:∀{bs:List Bool} {HW:List Hg},Vals (bs.map V.bl) HW->HW=bs.map Hg.bool
 |[],_,.nil=>rfl
 |b::r,_,.cons h t=>by have h:_=Hg.bool b:=h;rw[h,jf t];rfl
theorem Cb (k:Bool) {bs:List Bool} {y:Hg} (h:y∈bs.map Hg.bool) (A:HM) (s:Hi):EqAt A s y (.bool k) (isBoolOf k y):=by obtain⟨b,_,rfl⟩:=IL.mp h;exact EqAt.bool_bool b k
theorem xE (k:Bool) (bs:List Bool):(bs.map Hg.bool).countP (isBoolOf k)=bs.count k:=by rw[List.countP_map];rfl
section
variable {X:Cx}
def Fz:V->List V->Hp->VK->Prop:=fun x xs H Q=>∃(l:Hj) (bs:List Bool) (k:Bool),x= .ref l/\H l=some (.lst (bs.map V.bl))/\xs=[.bl k]/\Q (.int (bs.count k:Nat)) H
theorem vh:Gy X "list.count" Fz:=by rintro pins s σ H x xs v us Q I rx XS ⟨l,bs,k,rfl,hl,rfl,q⟩;obtain rfl:v= .ref l:=rx;obtain rfl:us=[.bool k]:=jf (bs:=[k]) XS;obtain⟨z,HW,n,r,ho⟩:=(show ObjOk X.prog X.w H s.heap l (.lst (bs.map V.bl)) from I.IW l _ hl);obtain rfl:=jf r;refine JB NF ⟨_,ho,rfl⟩ PySem.F.entry_list_count (PySem.F.args_list_count_2 _ _) (list_countAt l (bs.map Hg.bool).toArray n none #[] (.bool k) (isBoolOf k)) ⟨ho,fun y hy=>Cb k (by simpa using hy) _ _,?_⟩;rw[show(bs.map Hg.bool).toArray.toList=bs.map Hg.bool from rfl,xE];exact⟨.int (bs.count k:Nat),H,I.tok _,⟨_,rfl⟩,q⟩
def EK:V->List V->Hp->VK->Prop:=fun x xs H Q=>∃(l:Hj) (bs:List Bool) (k:Bool) (j:Nat),x= .ref l/\H l=some (.lst (bs.map V.bl))/\xs=[.bl k]/\bs[j]? =some k/\(∀m,m<j->bs[m]?≠some k)/\j<1000/\Q (.int (j:Nat)) H
theorem vv:Gy X "list.index" EK:=by
 rintro pins s σ H x xs v us Q I rx XS ⟨l,bs,k,j,rfl,hl,rfl,hj,XA,hs,q⟩;obtain rfl:v= .ref l:=rx;obtain rfl:us=[.bool k]:=jf (bs:=[k]) XS;obtain⟨z,HW,n,r,ho⟩:=(show ObjOk X.prog X.w H s.heap l (.lst (bs.map V.bl)) from I.IW l _ hl);obtain rfl:=jf r;obtain⟨jl,je⟩:=Hm.mp hj;refine JB NG ⟨_,ho,rfl⟩ PySem.F.entry_list_index (PySem.F.args_list_index_2 _ _) (list_indexAt l (bs.map Hg.bool).toArray n none #[] (.bool k) (isBoolOf k) j (by simpa using jl) (by omega) ?_ fun m hm lt=> ?_) ⟨ho,fun y hy=>Cb k (by simpa using hy) _ _,?_⟩
 ·simp[isBoolOf,je]
 ·have Te:m<bs.length:=by simpa using hm
  have:=XA m lt;rw[HD Te] at this;simp only[List.getElem_toArray,MO,isBoolOf];exact beq_eq_false_iff_ne.mpr fun z=>this (by rw[z])
 ·exact⟨.int (j:Nat),H,I.tok _,⟨_,rfl⟩,q⟩
end
end L4
namespace L4
open PySem PySem.Spec PySem.W PyProof.Rows L2 L3
def wV (K:Hf):List V->Hp->VK->Prop:=fun xs H Q=>∃x,(∃U:Hj,xs=[x,.ref U]/\Cn K (.ref U) x H Q)\/∃n,xs=[x,.ty n]/\Cn K (.type n) x H Q
theorem cr {X:Cx}:hJ X (.builtin "isinstance") (wV X.K):=by
 rintro pins s σ H xs us Q I r ⟨x,h⟩;rcases h with⟨U,rfl,h⟩|⟨n,rfl,h⟩
 ·obtain⟨u,w',rfl,rx,rn⟩:=mz r;obtain rfl:w'=Hg.ref U:=rn;exact yt I rx h
 ·obtain⟨u,w',rfl,rx,rn⟩:=mz r;obtain rfl:w'=Hg.type n:=rn;exact yt I rx h
end L4
namespace PySem
open Sem (wp)
open PyProof.Rows
end PySem
namespace L3
open PySem PySem.Spec PyProof.Rows L2
end L3
namespace HT
open PySem PySem.Spec PyProof.Rows
section
variable {prog:Hy} {w:HU} {A:HM} {E:Hg->Hi->Prop} {s:Hi}
theorem getItem_tuple_all {t sl:Hj} {items:Array Hg} {vl vu:Hg} {lo hi:Option Int} {Q:Hg->Hi->Prop} (ht:IsTup s.heap t items) (hs:s.heap.IsSliceOf sl vl vu .none) (pl:Lq vl lo) (pu:Lq vu hi)
  (hw:sIx items.size 0 lo=0/\sIx items.size items.size hi=items.size) (h:Q (.ref t) s):wpAny (model prog w) A (getItem (.ref t) (.ref sl)) Q E s:=by
 obtain⟨os,PZ,P1,Q9⟩:=id hs;have UA:s.TypeIs (.ref sl) "slice":=⟨os,PZ,P1⟩;unfold getItem
 try with_reducible refine JA ?_
 first|refine Hh (Hq ?_)|skip
 refine Hh (Nr ht.typeIs (by decide) ?_);refine Hh (LJ (name:=Str.ofString "__getitem__") ht.typeIs HS
  (NO HS ht.typeIs entry_tuple_getitem ?_ (args_tuple_getitem _ _)))
 show wpAny _ _ (Builtin.Tuple.tupleItemsOf (.ref t)>>=_) _ _ s;refine Hh (tupleItemsOf_ ht ?_);refine Hh (J6 UA ?_);rw[if_pos (by decide)];refine Hh (e8 hs pl pu ?_);have Xl:((((sIx items.size 0 lo:Nat):Int)==0&&(1:Int)==1&&(sIx items.size items.size hi - sIx items.size 0 lo)==items.size)=true):=by rw[hw.1,hw.2];simp
 show wpAny _ _ (if(((sIx items.size 0 lo:Nat):Int)==0&&(1:Int)==1&&(sIx items.size items.size hi - sIx items.size 0 lo)==items.size)=true then _ else _) _ _ s;rw[if_pos Xl];refine Hh (m:=Builtin.Tuple.tupleIsExact _) ?_;unfold Builtin.Tuple.tupleIsExact;refine Hh (J6 ht.typeIs (Hq ?_));rw[if_pos (by decide)];refine Hh (wpAny_rule ?_);exact Hq ⟨_,rfl,Hq h⟩
end
end HT
namespace L3
open PySem PySem.Spec PyProof.Rows L2
def Fb (K:Hf):V->Option Int->Option Int->Hp->VK->Prop:=fun x lo hi H Q=>∃(a:Hj) (xs:List V),x= .ref a/\Lh K H a xs/\(HT.sIx xs.length 0 lo=0/\HT.sIx xs.length xs.length hi=xs.length)/\Q (.ref a) H
theorem yA {X:Cx}:C9 X (Fb X.K):=by
 intro pins s σ H x v vl vu lo hi sl Q I rx hs pl pu h;obtain⟨a,xs,rfl,hx,hw,q⟩:=h;cases rx;obtain⟨HW,r,ht,hz⟩:=I.tuple hx;have hlen:HW.toArray.size=xs.length:=by rw[Hs];exact r.length.symm
 refine⟨"tuple",_,HS.lookup,ht.typeIs,?_⟩;exact HT.getItem_tuple_all ht hs pl pu (by rw[hlen];exact hw) ⟨.ref a,H,I,rfl,q⟩
def EN (K:Hf):V->Option Int->Option Int->Hp->VK->Prop:=fun x lo hi H Q=>Cz K x lo hi H Q\/Fb K x lo hi H Q
theorem ue {X:Cx}:C9 X (EN X.K):=by
 intro pins s σ H x v vl vu lo hi sl Q I rx hs pl pu q;rcases q with q|q
 ·exact r9 pins s σ H x v vl vu lo hi sl Q I rx hs pl pu q
 ·exact yA pins s σ H x v vl vu lo hi sl Q I rx hs pl pu q
noncomputable def i6:D->Option Int->Option Int->Option RV
 | .list ds,lo,hi=>some (.ow (eX ds lo hi))
 | .tuple ds,lo,hi=>some (.fz (.tuple (eX ds lo hi)))
 |_,_,_=>none
theorem Aa {ds:List D} {lo hi:Option Int} (h:HT.sIx ds.length 0 lo=0/\HT.sIx ds.length ds.length hi=ds.length):eX ds lo hi=ds:=by unfold eX;rw[h.1,h.2,Rv,TL,Jy]
theorem BQ {K:Hf}:F7 K (EN K) i6:=by
 intro O H x lo hi dx rv Q n hx e q;cases dx with
 |list ds=>exact .inl (kr O H x lo hi _ rv Q n hx e q)
 |tuple ds=>
  cases e;by_cases hw:HT.sIx ds.length 0 lo=0/\HT.sIx ds.length ds.length hi=ds.length
  ·obtain⟨a,xs,rfl,h1,h2⟩:=ri hx;rw[Aa hw] at q;refine .inr ⟨a,xs,rfl,h1.1,by rw[h2.length];exact hw,q.at (.tup h1 h2)⟩
  ·refine .inl (kr O H x lo hi (.tuple ds) _ Q n hx ?_ q)
   show(if gC ds.length lo hi=true then none else some (RV.fz (.tuple (eX ds lo hi))))=_;have z:gC ds.length lo hi=false:=by unfold gC;exact decide_eq_false hw
   rw[z,if_neg Hu]
 |_=>cases e
section
variable {K:Hf} {E:XK}
open Classical in
end
end L3
namespace L9
open PySem PySem.Spec PyProof.Rows
section
variable {M:Np} {A:HM} {E:Hg->Hi->Prop} {env:Env}
variable {nm q:Str} {C N:Hj} {bs bm:List Hg} {hdct:Bool} {sn:List Str} {sub:List Hg} {ab:Bool} {col:Option Bool} {dd:Option Hj} {k0 k1 k2 k3 k5:Option Hg} {newId:String}
theorem eT {s:Hi} {x:Sem Hg} {Q:Flow->Hi->Prop} (M9:bm.contains (.type "BaseException")=true) (hh:A.handled=none)
  (h:wpAny M A x (fun v s₁=>∃e ob,v= .ref e/\s₁.heap.get? C=some (excClassObj nm q C N bs bm hdct sn sub ab col dd k0 k1 k2 k3 k5 newId)/\s₁.heap.get? e=some ob/\ob.cls= .ref C/\(∃fs,ob.data= .fields fs/\fs[1]? =some Hg.none)/\E (.ref e) s₁) E s):
  wpAny M A (raiseStmt env (some x) none) Q E s:=by
 have hcB:(Hg.ref C::bm).contains (.type "BaseException")=true:=by rw[J7,M9,KP]
 unfold raiseStmt;refine Hh (wpAny_mono h (fun v s₁ h₁=> ?_) fun _ _ x=>x);obtain⟨e,ob,rfl,hC,he,hc,⟨fs,hd,hf1⟩,hE⟩:=h₁;obtain⟨oc,od,odd⟩:=ob;dsimp only at hc hd;subst hc hd;obtain⟨hp,g,d,tk,os⟩:=s₁
 repeat (first|with_reducible refine Jo he ?_|with_reducible refine Jo hC ?_|(with_reducible refine Kd hC ?_;rw[hcB])|wp_step)
 rw[hf1]
 repeat wp_step
 exact Rx hh hE
end
section
variable {prog:Hy} {w:HU} {A:HM} {E:Hg->Hi->Prop} {h:Heap} {g:Array LI} {d:P7} {t:Nat} {os:Oq}
variable {nm q:Str} {C N:Hj} {bs bm PH:List Hg} {hdct:Bool} {sn:List Str} {sub:List Hg} {ab:Bool} {col:Option Bool} {dd:Option Hj} {k0 k1 k2 k3 k5:Option Hg} {B Bn newId Tf L7 S9:String} {VI:List Hg}
theorem jV (Fn:KC Bn newId S9 VI) (Oh:PH.contains (.type Bn)=true) (F:KC B Tf L7 PH) (T:S1 h PH bm) {mN:Str->Option Hg} {rest:List Hg} {fI:Hj} {oI:Obj} {Q:Fin->Hi->Prop}
  (hC:h.get? C=some (excClassObj nm q C N bs bm hdct sn sub ab col dd k0 k1 k2 k3 k5 newId)) (hn:h.Ns N mN) (hi:mN "__init__"=some (.ref fI)) (Xd:h.get? fI=some oI) (SW:oI.cls= .type "function")
  (hq:∀h' e,Heap.MadeExcOf h h' e (.ref C) rest->wpAny (model prog w) A (call (.ref fI) (.ref e::rest)) (fun r s'=>r= .none/\Q (.done (.ret (.ref e))) s') E ⟨h',g,d,t,os⟩) (hrest:rest.length<=Ht):
  wpAny (model prog w) A (Builtin.«type.__call__» ⟨.ref C::rest,[]⟩) Q E ⟨h,g,d,t,os⟩:=by
 repeat (first|with_reducible refine Jo hC ?_|with_reducible refine wpAny_madeBy_exc hC ?_|wp_step)
 refine codeAny_call_builtin_code (OB.quiet_builtin _ Fn.quiet) (wpAny_check_new_subU Fn Oh T hC ?_);refine codeAny_exc_new_subU Fn Oh F T hC ?_ hrest;show wpAny _ _ _ _ _ _
 have YN:=Heap.get?_push_of_some {cls:= .ref C,data:= .fields #[.ref h.objs.size,.none,.none,.none,.bool false,.none]}
  (Heap.get?_push_of_some {cls:= .type "tuple",data:= .seq rest.toArray} hC)
 have W8:=Heap.get?_push_of_some {cls:= .ref C,data:= .fields #[.ref h.objs.size,.none,.none,.none,.bool false,.none]}
  (Heap.get?_push_of_some {cls:= .type "tuple",data:= .seq rest.toArray} Xd)
 have Zw:((h.push {cls:= .type "tuple",data:= .seq rest.toArray}).push {cls:= .ref C,data:= .fields #[.ref h.objs.size,.none,.none,.none,.bool false,.none]}).Ns N mN:=
  let⟨o,es,ep,e,r⟩:=hn;⟨o,es,ep,Heap.get?_push_of_some _ (Heap.get?_push_of_some _ e),r⟩
 have UI:((h.push {cls:= .type "tuple",data:= .seq rest.toArray}).push
   {cls:= .ref C,data:= .fields #[.ref h.objs.size,.none,.none,.none,.bool false,.none]}).get? (h.objs.size+1)=some
   {cls:= .ref C,data:= .fields #[.ref h.objs.size,.none,.none,.none,.bool false,.none]}:=by heap_get
 have WL:(Hg.ref C::bm).contains (.ref C)=true:=by simp
 have T₁:=T.keeps (h':=(h.push {cls:= .type "tuple",data:= .seq rest.toArray}).push {cls:= .ref C,data:= .fields #[.ref h.objs.size,.none,.none,.none,.bool false,.none]})
  fun b o e=>Heap.get?_push_of_some _ (Heap.get?_push_of_some _ e)
 unfold isInstance
 repeat (first|with_reducible refine Jo UI ?_|(with_reducible refine Kd YN ?_;rw[WL])|wp_step)
 show wpAny _ _ (typeLookup (.ref C) _) _ _ _;refine wpAny_typeLookup_tail YN Zw T₁ F.mroIs F.init.lookup ?_;rw[hi];refine JA (Hh ?_);unfold bindSpecial;refine Hh (J6 (T:= "function") ⟨_,W8,SW⟩ ?_);rw[if_pos (by decide)];refine Hq (Hh (wpAny_mono (hq _ (h.objs.size+1) ⟨fun b o hb=>Heap.get?_push_of_some _ (Heap.get?_push_of_some _ hb),Heap.get?_none_of_le (Nat.le_succ _),h.objs.size,UI,Heap.get?_none_of_le (Ho _),?_⟩) (fun r s' hr=> ?_) fun _ _ x=>x))
 ·exact Heap.get?_push_of_some _ (Heap.get?_push_at rfl rfl)
 ·obtain⟨rfl,hQ⟩:=hr
  wp_walk
  exact hQ
theorem tE (Fn:KC Bn newId S9 VI) (Oh:PH.contains (.type Bn)=true) (F:KC B Tf L7 PH) (T:S1 h PH bm) {mN:Str->Option Hg} {rest:List Hg} {fI:Hj} {oI:Obj} {Q:Hg->Hi->Prop}
  (hC:h.get? C=some (excClassObj nm q C N bs bm hdct sn sub ab col dd k0 k1 k2 k3 k5 newId)) (hn:h.Ns N mN) (hi:mN "__init__"=some (.ref fI)) (Xd:h.get? fI=some oI) (SW:oI.cls= .type "function")
  (hq:∀h' e,Heap.MadeExcOf h h' e (.ref C) rest->wpAny (model prog w) (A.under (.builtin "type.__call__" ⟨.ref C::rest,[]⟩)) (call (.ref fI) (.ref e::rest)) (fun r s'=>r= .none/\Q (.ref e) s') E ⟨h',g,d,t,os⟩) (hrest:rest.length<=Ht):
  wpAny (model prog w) A (call (.ref C) rest) Q E ⟨h,g,d,t,os⟩:=by
 have f1:=tc_lookup;have f2:=tc_bind (.ref C);have hT:(⟨h,g,d,t,os⟩:Hi).TypeIs (.ref C) "type":=⟨_,hC,rfl⟩;refine MU (codeAny_of_tree ?_);show wpAny _ _ (callAny (.ref C) _) _ _ _
 repeat (any_goals (first|assumption|with_reducible refine Jo hC ?_|wp_step))
 refine⟨rfl,?_⟩;refine codeAny_call_builtin_at (OB.quiet_builtin _ (by decide+kernel)) entry_typeCall (wpAny_check_type_call_sub hC (jV (hrest:=hrest) Fn Oh F T hC hn hi Xd SW fun h' e hm=> ?_));exact hq h' e hm
end
section
variable {prog:Hy} {w:HU} {A:HM} {E:Hg->Hi->Prop} {s:Hi} {env:Env}
variable {nm q:Str} {C N:Hj} {bs bm PH:List Hg} {hdct:Bool} {sn:List Str} {sub:List Hg} {ab:Bool} {col:Option Bool} {dd:Option Hj} {k0 k1 k2 k3 k5:Option Hg} {B Bn newId Tf L7 S9:String} {VI:List Hg}
theorem rc (Fn:KC Bn newId S9 VI) (Oh:PH.contains (.type Bn)=true) (F:KC B Tf L7 PH) {mN:Str->Option Hg} {fI:Hj} {oI:Obj} {x:Str} {np KD pos:Pos} {args:List HI} {Q:Flow->Hi->Prop}
  (M9:bm.contains (.type "BaseException")=true) (hh:A.handled=none) (OZ:(backTo KD (HL args env)).any (·.1)=false) (hi:mN "__init__"=some (.ref fI)) (SW:oI.cls= .type "function")
  (h:wpAny (model prog w) A (eval (.Name x np) env) (fun f s₁=>f= .ref C/\wpAny (model prog w) A (evalArgs (.ref C) true (backTo KD (HL args env)) [])
   (fun a s₂=>a.kw=[]/\a.pos.length<=Ht/\s₂.heap.get? C=some (excClassObj nm q C N bs bm hdct sn sub ab col dd k0 k1 k2 k3 k5 newId)/\s₂.heap.Ns N mN/\s₂.heap.get? fI=some oI/\S1 s₂.heap PH bm/\
    ∀h' e,Heap.MadeExcOf s₂.heap h' e (.ref C) a.pos->wpAny (model prog w) (A.under (.builtin "type.__call__" ⟨.ref C::a.pos,[]⟩)) (call (.ref fI) (.ref e::a.pos)) (fun r s'=>r= .none/\∃ob,s'.heap.get? C=some (excClassObj nm q C N bs bm hdct sn sub ab col dd k0 k1 k2 k3 k5 newId)/\s'.heap.get? e=some ob/\ob.cls= .ref C/\(∃fs,ob.data= .fields fs/\fs[1]? =some Hg.none)/\E (.ref e) s') E {s₂ with heap:=h'}) E s₁) E s):
  wpAny (model prog w) A (exec (.Raise (some (.Call (.Name x np) args [] KD)) none pos) env) Q E s:=by
 rw[arm_exec_Raise]
 first
  |refine Hh (JC (eT (C:=C) (nm:=nm) (q:=q) (N:=N) (bs:=bs) (bm:=bm) (hdct:=hdct) (sn:=sn) (sub:=sub) (ab:=ab) (col:=col) (dd:=dd) (k0:=k0) (k1:=k1) (k2:=k2) (k3:=k3) (k5:=k5) (newId:=newId) M9 hh (Hh (wpAny_mono (Nu (wpAny_mono h (fun f s₁ h₁=> ?_) fun _ _ x=>x)) (fun v s₃ h₃=>Hh (JC (Hq h₃))) fun _ _ x=>x))))
  |(simp only[evalOpt,Option.map];refine Hh (JC (eT (C:=C) (nm:=nm) (q:=q) (N:=N) (bs:=bs) (bm:=bm) (hdct:=hdct) (sn:=sn) (sub:=sub) (ab:=ab) (col:=col) (dd:=dd) (k0:=k0) (k1:=k1) (k2:=k2) (k3:=k3) (k5:=k5) (newId:=newId) M9 hh (Hh (wpAny_mono (Nu (wpAny_mono h (fun f s₁ h₁=> ?_) fun _ _ x=>x)) (fun v s₃ h₃=>Hh (JC (Hq h₃))) fun _ _ x=>x)))))
  |(refine Hh (JC (eT (C:=C) (nm:=nm) (q:=q) (N:=N) (bs:=bs) (bm:=bm) (hdct:=hdct) (sn:=sn) (sub:=sub) (ab:=ab) (col:=col) (dd:=dd) (k0:=k0) (k1:=k1) (k2:=k2) (k3:=k3) (k5:=k5) (newId:=newId) M9 hh ?_));refine Hh (wpAny_mono (Nu (wpAny_mono h (fun f s₁ h₁=> ?_) fun _ _ x=>x)) (fun v s₃ h₃=>Hh (JC (Hq h₃))) fun _ _ x=>x))
 obtain⟨rfl,h₁⟩:=h₁;unfold callWith;refine Hh (JA (wpAny_mono h₁ (fun a s₂ h₂=>Hh (JC ?_)) fun _ _ x=>x));obtain⟨apos,ZQ⟩:=a;obtain⟨hkw,hlen,hC,hn,hf,T,h₂⟩:=h₂;obtain rfl:ZQ=[]:=hkw;obtain⟨hp,g,d,tk,os⟩:=s₂;simp only[OZ];refine Hh (wpAny_keeperOf_exc hC ?_);refine Hh (tE (hrest:=hlen) Fn Oh F T hC hn hi hf SW fun h' e hm=>wpAny_mono (h₂ h' e hm) (fun r s' ⟨hr,ob,c1,c2,c3,c4,c5⟩=>⟨hr,Hh (JA (wpAny_point (Hq ?_)))⟩) fun _ _ x=>x);exact⟨e,ob,rfl,c1,c2,c3,c4,c5⟩
end
end L9
namespace L9
open PySem PySem.W PyProof.Rows Builtin Builtin.ObjectAttr
noncomputable abbrev wW:List Hg:=[.type "ValueError",.type "Exception",.type "BaseException",.type "object"]
section
variable {prog:Hy} {w:HU} {A:HM} {K:Frag} {B C x:Hj} {s:Hi} {R:NN->Hi->Prop} {cd:ClassData} {name:Str} {tk:Tok} {v:Hg} {fs:Array Hg}
theorem z7 (X:K.In s.heap) (hc:clsIn K C=some cd) (hm:cd.mro= .ref C:: .ref B::wW) (hd:cd.hasDict=true) (hn:findIn K (.ref C) name=some none) (hx:s.heap.get? x=some ⟨.ref C,none,.fields fs,#[]⟩)
  (hq:∀h' Ra,h'.get? x=some ⟨.ref C,some s.heap.objs.size,.fields fs,#[]⟩->h'.Ns1 s.heap.objs.size (fun y=>if y=name then some v else none)->(∀b o,b≠x->s.heap.get? b=some o->h'.get? b=some o)->R (.ok (.ret .none)) {s with heap:=h',toks:=Ra}):
  codeAny (model prog w) A (.call (.builtin "object.__setattr__") ⟨[.ref x,.str name tk,v],[]⟩) R s:=by
 have I:InstAt s.heap x ⟨.ref C,none,.fields fs,#[]⟩ C none:=⟨hx,rfl,rfl,True.intro⟩;have SF:=PySem.F.store_object;have sub:Looks (model prog w) s.heap (isInstance (.ref x) (.type "object")) true:=I.type.andThen (looks_mroIn X (by unfold mroIn;rw[hc,Option.bind_some,hm,if_neg (by simp)];simp));refine J0 SF.slot.plain SF.entry (@check_slot (model prog w) _ _ s "object.__setattr__" "object" "__setattr__" (.ref x) [.str name tk,v] [] _ SF.kind SF.split sub (SF.args (.ref x) (.str name tk) v) ?_);have VX:Looks (model prog w) s.heap (mroOf (.ref C)) cd.mro:=(looks_clsIn X hc).andThen .now;rw[osa_eq,refuse_eq];refine Hh (Hh (I.type.here (Hh (VX.here ?_))));rw[hm,Wb,Wb,PySem.F.store_ValueError.passes];refine Hq (Hh (I.type.here (Hh ((looks_findIn X hn).here (Hh (Hq ?_))))));show wpAny _ _ (storeInOwnDict (.ref x) (.ref C) (.str name tk) name v _) _ _ _;unfold storeInOwnDict;refine Hh (Hq (Hh ?_));unfold ownDictForStores instanceDict;refine Hh (Wa hx (Hh ((looks_clsIn X hc).here ?_)));rw[hd,if_neg (by decide)];show wpAny _ _ (if(!true|| !typeHasDict (.ref C))=true then pure none else(do
        let d<-alloc {cls:=Hg.type "dict",data:=Tt.dict #[]}
        update x fun o=>{cls:=o.cls,dict:=some d,data:=o.data,slots:=o.slots}
        dictMade (.ref C) x d)) _ _ _
 rw[if_neg (by simp[typeHasDict])];obtain⟨h,g,d,t,os⟩:=s;dsimp only at X hx hq I sub VX⊢;have T7:(h.push {cls:= .type "dict",data:= .dict #[]}).get? x=some ⟨.ref C,none,.fields fs,#[]⟩:=Heap.get?_push_of_some _ hx;have Yt:x≠h.objs.size:=HK (Heap.lt_size hx);refine Hh (wpAny_alloc' ?_);refine Hh (wpAny_update' T7 ?_);refine Hq ?_
 have hgd:((h.push {cls:= .type "dict",data:= .dict #[]}).update x fun o=>{cls:=o.cls,dict:=some h.objs.size,data:=o.data,slots:=o.slots}).get? h.objs.size
   =some {cls:= .type "dict",data:= .dict #[]}:=
  (Heap.get?_update_ne _ _ _ _ Yt.symm).trans (Heap.get?_push_at rfl rfl)
 have P4:((h.push {cls:= .type "dict",data:= .dict #[]}).update x fun o=>{cls:=o.cls,dict:=some h.objs.size,data:=o.data,slots:=o.slots}).Ns h.objs.size (fun _=>none):=
  ⟨_,#[],_,hgd,rfl,fun e he=>absurd he (by simp),fun _=>rfl⟩
 show wpAny _ _ (storeInDict h.objs.size (.str name tk) name v) _ _ _;unfold storeInDict newKeyGuard;refine Hh (Hq (Hh (wpAny_nsSet1 (Heap.Ns1.of_empty P4) fun h' Tg hs=> ?_)));obtain⟨oD,esD,epD,hoD,hdD,hcD⟩:=Tg.count (Within.cons name v Within.nil);refine Hh (wpAny_lookBehind hoD (by rw[hdD];exact pastItsLine_dict (Il hcD (by rw[HP,Jw,JL];omega))) ?_);refine Hq (hq h' _ ?_ ?_ fun b ob hbx hb=> ?_)
 ·exact(hs.2 x Yt).trans (Heap.get?_update_self _ T7 rfl)
 ·obtain⟨o',es,ep,e1,e2,e3,eu,e4⟩:=Tg;exact⟨o',es,ep,e1,e2,e3,eu,fun y=>by rw[e4 y]⟩
 ·exact(hs.2 b (HK (Heap.lt_size hb))).trans ((Heap.get?_update_ne _ _ _ _ hbx).trans (Heap.get?_push_of_some _ hb))
theorem zZ {E:Hg->Hi->Prop} {Q:Unit->Hi->Prop} (X:K.In s.heap) (hc:clsIn K C=some cd) (hm:cd.mro= .ref C:: .ref B::wW) (hd:cd.hasDict=true) (hsa:findIn K (.ref C) "__setattr__"=some (some (.builtin "object.__setattr__"))) (hn:findIn K (.ref C) name=some none) (hx:s.heap.get? x=some ⟨.ref C,none,.fields fs,#[]⟩)
  (hq:∀h' Ra,h'.get? x=some ⟨.ref C,some s.heap.objs.size,.fields fs,#[]⟩->h'.Ns1 s.heap.objs.size (fun y=>if y=name then some v else none)->(∀b o,b≠x->s.heap.get? b=some o->h'.get? b=some o)->Q () {s with heap:=h',toks:=Ra}):
  wpAny (model prog w) A (setAttr (.ref x) name v) Q E s:=
 set_plain X (⟨hx,rfl,rfl,True.intro⟩:InstAt s.heap x ⟨.ref C,none,.fields fs,#[]⟩ C none) hsa (z7 (s:={s with toks:=s.toks+1}) X hc hm hd hn hx hq)
end
section
variable {prog:Hy} {w:HU} {A:HM} {E:Hg->Hi->Prop} {h:Heap} {g:Array LI} {d:P7} {t:Nat} {os:Oq}
variable {nm q:Str} {C N:Hj} {bs bm PH:List Hg} {hdct:Bool} {sn:List Str} {sub:List Hg} {ab:Bool} {col:Option Bool} {dd:Option Hj} {k0 k1 k2 k3 k5:Option Hg} {B newId Tf L7:String}
theorem wj (F:KC B Tf L7 PH) (T:S1 h PH bm) {e:Hj} {fs:Array Hg} {t0:Hj} {rest:List Hg} {Q:Hg->Hi->Prop}
  (hC:h.get? C=some (excClassObj nm q C N bs bm hdct sn sub ab col dd k0 k1 k2 k3 k5 newId)) (he:h.get? e=some ⟨.ref C,none,.fields fs,#[]⟩) (h0:fs[0]? =some (.ref t0))
  (hq:∀h' S3,h'.get? e=some ⟨.ref C,none,.fields S3,#[]⟩->S3[0]? =some (.ref h.objs.size)->(∀i,i≠0->S3[i]? =fs[i]?)->(∀b o,b≠e->h.get? b=some o->h'.get? b=some o)->Q .none ⟨h',g,d,t,os⟩) (hrest:rest.length<=Ht):
  wpAny (model prog w) A (call (.builtin L7) (.ref e::rest)) Q E ⟨h,g,d,t,os⟩:=by
 refine MU (J0 F.init.plain F.initEntry (wpAny_check_init_subU F T hC he rfl ?_));unfold Builtin.«BaseException.__init__»;dsimp only;rw[if_neg (by simp)];unfold newTuple Builtin.BaseException.bexcPut;have hsz:0<fs.size:=(Iy.mp h0).1;have Ws:(h.push {cls:= .type "tuple",data:= .seq rest.toArray}).get? e=some ⟨.ref C,none,.fields fs,#[]⟩:=Heap.get?_push_of_some _ he;refine Hh (II (Hh (Hh (IS Ws rfl h0 (Hh (KA Ws rfl hsz ?_))))) (by show rest.toArray.size<=Ht;rw[Hs];exact hrest));refine wpAny_letGo (Hq (hq _ (fs.setIfInBounds 0 (.ref h.objs.size)) ?_ (by simp[hsz]) (fun i hi=>by rw[MF (Ne.symm hi)]) fun b o hb z=> ?_))
 ·exact Heap.get?_update_self (Obj.mapFields (·.setIfInBounds 0 (.ref h.objs.size))) Ws rfl
 ·exact(Heap.get?_update_other _ _ (Ne.symm hb)).trans (Heap.get?_push_of_some _ z)
end
end L9
namespace L9
open PySem PySem.Spec PyProof.Rows L2
def PJ (X:Cx) (es:List HI) (n:Nat) (t:L2.St->Hp->(Hp->Prop)->Prop):Prop:=
 ∀(pins:List (Hj×Obj)) (s:Hi) (σ:L2.St) (H:Hp) (out:Str) (Q:Hp->Prop),Inv X pins σ H s->out.length+n<=1000000->t σ H Q->
  wpAny (model X.prog X.w) X.A (joinParts out (evalEach es X.env)) (fun v s'=>∃(y:Str) (tk:Tok) (H':Hp),v= .str y tk/\Inv X pins σ H' s'/\Q H') X.xe s
section
variable {X:Cx} {e:HI} {es:List HI} {n:Nat} {te:TE} {t:L2.St->Hp->(Hp->Prop)->Prop} {pos:Pos}
theorem Du:PJ X [] 0 (fun _ H Q=>Q H):=by intro pins s σ H out Q I hl h;exact joinParts_nil ⟨_,_,H,rfl,I.tok _,h⟩ (by rw[JL];omega)
theorem Dl {x:Str} {k:Nat} (hx:x.length<=5000) (hr:PJ X es n t):PJ X (.Constant (.str x) k pos::es) (n+5000) t:=by intro pins s σ H out Q I hl h;refine joinParts_consE (joinParts_cons (Calls.Constant_str ?_));have e:=XW out x;exact⟨by rw[JL];omega,hr pins _ σ H (out++x) Q (I.tok _) (by omega) h⟩
theorem AU {e1 e2:HI} {t:L2.St->Hp->(Hp->Prop)->Prop} (h:PJ X (e1::e2::es) n t) (hn:n<=900000):PE X (.JoinedStr (e1::e2::es) pos) (fun σ H Q=>t σ H fun H1=>∀y:Str,Q (.str y) H1):=by intro pins s σ H Q I hw;refine JoinedStr_many (bF (h pins s σ H Str.empty _ I (by show 0+n<=1000000;omega) hw) fun v s1 ⟨y,tk,H1,hv,I1,q⟩=> ?_);subst hv;exact⟨.str y,H1,I1,⟨_,rfl⟩,q y⟩
end
def A0 (C e:Hj):Heap->Prop:=fun h=>∃fs t0,h.get? e=some ⟨.ref C,none,.fields fs,#[]⟩/\fs[0]? =some (.ref t0)/\fs[1]? =some .none
def En (C e p:Hj):Heap->Prop:=fun h=>∃fs a0,h.get? e=some ⟨.ref C,some p,.fields fs,#[]⟩/\fs[0]? =some a0/\fs[1]? =some .none
structure XC (K:Hf) (C B fI:Hj):Prop where
 obj:∃nm q N bs sn sub ab col dd k0 k1 k2 k3 k5,K.lookup C=some (excClassObj nm q C N bs (.ref B::wW) true sn sub ab col dd k0 k1 k2 k3 k5 "ValueError.__new__")/\MZ K N=true/\HA K N "__init__"=some (some (.ref fI))
 base:LN K B wW "ValueError.__new__"=true
 sa:Ia K (.ref C) "__setattr__"=some (some (.builtin "object.__setattr__"))
theorem pT {K:Hf} {B:Hj} {n:String} (q:LN K B wW n=true):Lr K wW (.ref B::wW)=true:=by
 unfold LN at q;split at q
 ·rename_i dd cd sl ho
  split at q
  ·simp only[Ip,beq_iff_eq,Bool.not_eq_true'] at q;obtain⟨⟨⟨⟨⟨_,_⟩,_⟩,_⟩,IW⟩,hni⟩:=q;unfold Lr;dsimp only;rw[ho];dsimp only;rw[IW,hni,show Lr K wW wW=true from by unfold Lr;rw[beq_self_eq_true,Lo],beq_self_eq_true,Sa,Sa,KP]
  ·cases q
 ·cases q
section
variable {X:Cx} {B C fI:Hj} {pos p1 p2:Pos} {a1:HI} {as:List HI} {t:TA} {b:Str}
theorem yn {H:Hp} {a:Hj} {o:HO} (h:H a=some o):aY H a o=H:=by
 funext c;by_cases z:c=a
 ·rw[z,ar,h]
 ·rw[aj z]
def Dn (C:Hj) (t:TA):TE:=fun σ H Q=>t σ H fun vs H1=>∃e y,vs=[.ref e,.str y]/\H1 e=some (.ext (A0 C e))/\Q .JD H1
theorem xh {pl:Sem Bool} (hg:Gl X b) (hm:X.mg b=some (.ref B)) (hr:MJ X.K B (.type "type")=true) (hf:MK X.K (.ref B) (.type "type") "__init__"=some (.val (.builtin "ValueError.__init__")))
  (hs:J8 X.K (.ref B) "__getattribute__"=some (some (.builtin "type.__getattribute__"))) (hC:XC X.K C B fI) (ha:PA X (a1::as) t)
  (OU:HL (a1::as) X.env=(false,eval a1 X.env)::HL as X.env:=by rfl) (Ov:(backTo pos (HL as X.env)).any (·.1)=false:=by rfl) (OI:(b==("__debug__":Str))=false:=by decide)
  (ht:eval (.Call (.Attribute (.Name b p1) "__init__" p2) (a1::as) [] pos) X.env=(do
   let ov<-eval (.Name b p1) X.env
   standAt p2.atName
   let(f,first)<-holding [ov] (getMethod ov "__init__" pl)
   callWith pos f first (backTo pos (HL (a1::as) X.env)) (backToKw pos (keywordEach [] X.env))):=by rfl):
  PE X (.Call (.Attribute (.Name b p1) "__init__" p2) (a1::as) [] pos) (Dn C t):=by
 intro pins s σ H Q I h;refine PySem.W.methodCall_KW (pl:=pl) (gM I hg hm ?_ OI) ht;refine PySem.W.method_cls I.Mj hs (PySem.W.cls_value I.Mj hr hf (by decide) ?_);have hA:=ha pos pins {s with toks:=s.toks+1} σ H _ (I.tok _) h;rw[OU] at hA⊢;refine Calls.callWith_builtin (by show(false||(backTo pos (HL as X.env)).any (·.1))=false;rw[Ov]<;>rfl) (Calls.evalArgs_plain (bF hA fun us s2 ⟨vs,H2,I2,r,e,y,ev,hE,q⟩=> ?_));subst ev;obtain⟨u1,u2,rfl,r1,r2⟩:=mz r;obtain rfl:u1= .ref e:=r1;obtain⟨tk,rfl⟩:=r2;obtain⟨⟨fs,t0,g1,g2,g3⟩,_,gk⟩:=(show ObjOk X.prog X.w H2 s2.heap e (.ext (A0 C e)) from I2.IW e _ hE);obtain⟨nm,q',N,bs,sn,sub,ab,col,dd,k0,k1,k2,k3,k5,lk,IW,SM⟩:=hC.obj;have T:=OG I2.Mj (pT hC.base);obtain⟨h2,g,d,Xn,os⟩:=s2;refine wj JO T (I2.Mj _ _ lk) g1 g2 (fun h' S3 e1 e2 e3 e4=> ?_) (by show 1<=Ht;decide);refine⟨.JD,H2,?_,rfl,q⟩;have w:=I2.write (x:=e) (e:=e) (o:= .ext (A0 C e)) (h':=h') (t':=Xn) (by rw[hE];exact True.intro) (.inl rfl) (fun b u hb z=>e4 b u hb z) ⟨_,e1⟩ ⟨⟨S3,_,e1,e2,by rw[e3 1 (by decide)];exact g3⟩,⟨_,e1⟩,fun h1 h2 ⟨f1,t1,z1,z2,z3⟩ hk=>⟨f1,t1,hk _ z1,z2,z3⟩⟩;rw[yn hE] at w;exact w
def Ft (C:Hj) (f:Str) (ta tv:TE):TS:=fun D σ H=>tv σ H fun v H1=>ta σ H1 fun x H2=>∃e,x= .ref e/\H2 e=some (.ext (A0 C e))/\∀p,H2 p=none->p≠e->D.nx σ (aY (aY H2 e (.ext (En C e p))) p (.xd [(f,v)]))
theorem A5 {o value:HI} {f:Str} {ta tv:TE} {pos':Pos} (hC:XC X.K C B fI) (hn:Ia X.K (.ref C) f=some none) (ha:PE X o ta) (hv:PE X value tv) (hs:Ja value (some (.Attribute o f pos')) pos.line X.env=pure false):PS X (.Assign [.Attribute o f pos'] value pos) (Ft C f ta tv):=by
 intro pins s σ H D I h;refine plainObj_wpAny_Assign_Attribute (bF (hv pins s σ H _ I h) fun u s1 ⟨v,H1,I1,rv,q⟩=>bF (ha pins s1 σ H1 _ I1 q) fun ov s2 ⟨x,H2,I2,rx,e,ex,hE,q2⟩=> ?_) hs;subst ex;obtain rfl:ov=Hg.ref e:=rx;obtain⟨⟨fs,t0,g1,g2,g3⟩,_,gk⟩:=(show ObjOk X.prog X.w H2 s2.heap e (.ext (A0 C e)) from I2.IW e _ hE);obtain⟨nm,q',N,bs,sn,sub,ab,col,dd,k0,k1,k2,k3,k5,lk,IW,SM⟩:=hC.obj;obtain⟨cd,hc,VX,Ux⟩:∃cd,LO X.K C=some cd/\cd.mro= .ref C:: .ref B::wW/\cd.hasDict=true:=by unfold LO;rw[lk];exact⟨_,rfl,rfl,rfl⟩
 refine zZ I2.Mj hc VX Ux hC.sa hn g1 fun h' Ra e1 e2 e3=> ?_;have pe:s2.heap.objs.size≠e:=Jp (Heap.lt_size g1);have pn:H2 s2.heap.objs.size=none:=I2.IW.fresh (Ho _);refine⟨σ,_,?_,q2 s2.heap.objs.size pn pe⟩;have there:∀b o,s2.heap.get? b=some o->b≠s2.heap.objs.size:=fun b o z=>HK (Heap.lt_size z);refine I2.un (h':=h') (t':=Ra) (H':=aY (aY H2 e (.ext (En C e s2.heap.objs.size))) s2.heap.objs.size (.xd [(f,v)])) ⟨fun b o z n _ _=>e3 b o (fun y=>by rw[y,hE] at n;cases n) z,fun b o z n _ _=>⟨o.slots,e3 b o (fun y=>by rw[y,hE] at n;cases n) z⟩,fun b o z n _=> ?_,fun b o z _=> ?_,fun b xs z=> ?_,fun b o u z=> ?_,fun b ps z=>⟨#[],?_⟩⟩ ?_
 ·rw[aj (there b o z),aj (fun y=>by rw[y,hE] at n;cases n)];exact n
 ·by_cases y:b=e
  ·subst y;exact⟨_,e1⟩
  ·exact⟨o,e3 b o y z⟩
 ·rw[aj (fun y=>by rw[y,pn] at z;cases z),aj (fun y=>by rw[y,hE] at z;cases z)];exact z
 ·rw[aj (fun y=>by rw[y,pn] at z;cases z),aj (fun y=>by rw[y,hE] at z;cases z)];exact z
 ·rw[aj (fun y=>by rw[y,pn] at z;cases z),aj (fun y=>by rw[y,hE] at z;cases z),z];simp
 ·intro a o z
  by_cases ya:a=s2.heap.objs.size
  ·subst ya
   rw[ar] at z;cases z;refine⟨_,e2,fun g=> ?_⟩;show ML (match g==f with|true=>some v|false=>Pg g []) (if g=f then some u else none);cases hb:g==f with
   |true=>rw[if_pos (beq_iff_eq.mp hb)];exact rv
   |false=>rw[if_neg (fun w=>by rw[beq_iff_eq.mpr w] at hb;cases hb)];exact True.intro
  ·rw[aj ya] at z
   by_cases yb:a=e
   ·subst yb;rw[ar] at z;cases z;exact⟨⟨fs,_,e1,g2,g3⟩,⟨_,e1⟩,fun h1 h2 ⟨f1,t1,z1,z2,z3⟩ hk=>⟨f1,t1,hk _ z1,z2,z3⟩⟩
   ·rw[aj yb] at z
    have own:∀b,H2 b=some (.own a)->b≠e/\b≠s2.heap.objs.size:=fun b y=>⟨(fun k=>by rw[k,hE] at y;cases y),(fun k=>by rw[k,pn] at y;cases y)⟩;refine(I2.IW a o z).Lw (fun b w hb y=>e3 b w (fun k=> ?_) y) (fun b y=>by rw[aj (own b y).2,aj (own b y).1];exact y) fun b xs y=>by rw[aj (fun k=>by rw[k,pn] at y;cases y),aj (fun k=>by rw[k,hE] at y;cases y)];exact y
    rcases hb with hb|hb
    ·exact yb (hb.symm.trans k)
    ·exact(own b hb).1 k
end
end L9
namespace L9
open PySem PySem.Spec PyProof.Rows L2 L4
noncomputable def Eo (H:Hp) (e:Hj):Hp:=fun a=>if a=e then none else H a
theorem kS {H:Hp} {e:Hj}:Eo H e e=none:=if_pos rfl
theorem fP {H:Hp} {e a:Hj} (h:a≠e):Eo H e a=H a:=if_neg h
theorem rF {K:Hf} {h:Heap} {N:Hj} {mg:Str->Option Hg} {n:Str} {v:Hg} (X:K.In h) (G:h.Ns N mg) (e:HA K N n=some (some v)):mg n=some v:=by
 obtain⟨o,es,ep,ho,hd,_,hf⟩:=G;unfold HA at e;split at e
 ·rename_i Vh VN S5 Rk
  have:=(X _ _ Rk).symm.trans ho;cases this;cases hd;split at e
  ·rename_i en he;cases e;rw[<-hf];unfold nsFind findBy;rw[<-Pp,he];rfl
  ·split at e<;>cases e
 ·cases e
theorem CS {K:Hf} {f:Hj} {o:Obj} (i:J9 K (.ref f)=true) (l:K.lookup f=some o):o.cls= .type "function":=by unfold J9 IP at i;dsimp only at i;rw[l] at i;exact HJ (beq_iff_eq.mp i)
section
variable {X:Cx} {pins:List (Hj×Obj)} {σ:L2.St} {H:Hp} {s:Hi} {h':Heap} {e:Hj} {o:HO}
theorem Ae {t':Nat} (I:L2.Inv X pins σ H s) (k:∀b u,s.heap.get? b=some u->h'.get? b=some u) (n:s.heap.get? e=none) (new:ObjOk X.prog X.w (aY H e o) h' e o):L2.Inv X pins σ (aY H e o) {s with heap:=h',toks:=t'}:=by
 have hn:=qV I.IW n;have ne:∀b u,s.heap.get? b=some u->b≠e:=fun b u z y=>by rw[y,n] at z;cases z
 refine I.un ⟨fun b u z _ _ _=>k b u z,fun b u z _ _ _=>⟨u.slots,k b u z⟩,fun b u z q _=>by rw[aj (ne b u z)];exact q,fun b u z _=>⟨u,k b u z⟩,fun b xs z=> ?_,fun b u v z=> ?_,fun b ps z=>⟨#[],?_⟩⟩ ?_
 ·rw[aj (fun y=>by rw[y,hn] at z;cases z)];exact z
 ·rw[aj (fun y=>by rw[y,hn] at z;cases z)];exact z
 ·rw[aj (fun y=>by rw[y,hn] at z;cases z),z];simp
 ·intro a u z
  by_cases y:a=e
  ·subst y;rw[ar] at z;cases z;exact new
  ·rw[aj y] at z;refine(I.IW a u z).Lw (fun b w _ q=>k b w q) (fun b q=>by rw[aj (fun w=>by rw[w,hn] at q;cases q)];exact q) fun b xs q=>by rw[aj (fun w=>by rw[w,hn] at q;cases q)];exact q
theorem zM {φ:Heap->Prop} (I:L2.Inv X pins σ H s) (hE:H e=some (.ext φ)):L2.Inv X pins σ (Eo H e) s:=by
 have:=I.un (h':=s.heap) (t':=s.toks) (H':=Eo H e) ⟨fun b u z _ _ _=>z,fun b u z _ _ _=>⟨u.slots,z⟩,fun b u z q _=> ?_,fun b u z _=>⟨u,z⟩,fun b xs z=> ?_,fun b u v z=> ?_,fun b ps z=>⟨#[],?_⟩⟩ ?_
 ·exact this
 ·by_cases y:b=e
  ·rw[y];exact kS
  ·rw[fP y];exact q
 ·rw[fP (fun y=>by rw[y,hE] at z;cases z)];exact z
 ·rw[fP (fun y=>by rw[y,hE] at z;cases z)];exact z
 ·rw[fP (fun y=>by rw[y,hE] at z;cases z),z];simp
 ·intro a u z
  have y:a≠e:=fun y=>by rw[y,kS] at z;cases z
  rw[fP y] at z;exact(I.IW a u z).Lw (fun b w _ q=>q) (fun b q=>by rw[fP (fun w=>by rw[w,hE] at q;cases q)];exact q) fun b xs q=>by rw[fP (fun w=>by rw[w,hE] at q;cases q)];exact q
end
def uv (C:Hj) (sp:Sp) (E:XK) (ta:TA):TS:=fun _ σ H=>ta σ H fun vs H1=>vs.length<=Ht/\∀e,H1 e=none->sp (.ref e::(vs++[])) (aY H1 e (.ext (A0 C e))) (fun v H2=>v= .JD/\∃p,H2 e=some (.ext (En C e p))/\E (.ref C) (some p) (Eo H2 e)) E0
theorem vi {P:Hy} {w:HU} {K:Hf} {mg:Str->Option Hg} {base:Heap} {N:List Str} {qual:Str} {scope:JP} {f:Hj} {cd:Hg} {A:HM} {outer:List Env} {s0:Hi} {H0:Hp} {E:XK}
  {C B fI:Hj} {Tn:IB} {oI:Obj} {k:Nat} {ps:List Str} {sp:Sp} {x:Str} {e0:HI} {es:List HI} {np KD pos:Pos} {ta:TA} (hC:XC K C B fI) (lI:K.lookup fI=some oI) (iI:J9 K (.ref fI)=true) (FI:FnOk P w K mg base ez k fI Tn ps sp) (bI:Binds K Tn ps [])
  (hr:JW (k+1) (dH (pz P w) P w K mg base N qual scope f cd A outer s0 H0 E).A)
  (hg:Gl (dH (pz P w) P w K mg base N qual scope f cd A outer s0 H0 E) x) (hm:mg x=some (.ref C)) (ha:PA (dH (pz P w) P w K mg base N qual scope f cd A outer s0 H0 E) (e0::es) ta)
  (OI:(x==("__debug__":Str))=false:=by decide)
  (he:HL (e0::es) (dH (pz P w) P w K mg base N qual scope f cd A outer s0 H0 E).env=(false,eval e0 (dH (pz P w) P w K mg base N qual scope f cd A outer s0 H0 E).env)::HL es (dH (pz P w) P w K mg base N qual scope f cd A outer s0 H0 E).env:=by rfl)
  (Ov:(backTo KD (HL es (dH (pz P w) P w K mg base N qual scope f cd A outer s0 H0 E).env)).any (·.1)=false:=by rfl):
  PS (dH (pz P w) P w K mg base N qual scope f cd A outer s0 H0 E) (.Raise (some (.Call (.Name x np) (e0::es) [] KD)) none pos) (uv C sp E ta):=by
 intro pins s σ H D I h;obtain⟨nm,qn,Nn,bs,sn,sub,ab,col,dd,k0,k1,k2,k3,k5,lk,IW,SM⟩:=hC.obj;have Qv:=I.ok.mod.Qv;have oC:=Qv _ _ lk;have oN:(dH (pz P w) P w K mg base N qual scope f cd A outer s0 H0 E).base.Ns Nn _:=Heap.Ns.of_isNs (PySem.W.isNs_of_in Qv IW);have ni:=rF Qv oN SM;have oF:=Qv _ _ lI;have T:=OG Qv (pT hC.base);refine rc (C:=C) (nm:=nm) (q:=qn) (N:=Nn) (bs:=bs) (bm:= .ref B::wW) (hdct:=true) (sn:=sn) (sub:=sub) (ab:=ab) (col:=col) (dd:=dd) (k0:=k0) (k1:=k1) (k2:=k2) (k3:=k3) (k5:=k5) (newId:= "ValueError.__new__") JO (by decide+kernel) JO (oI:=oI) (T.hasType JO.hasBase) (I.ok.hd rfl)
  (by rw[he];exact(N7 _).trans Ov) ni (CS iI lI) (gM I hg hm ⟨rfl,?_⟩ OI)
 have go:=ha KD pins s σ H _ I h;rw[he] at go⊢;refine Calls.evalArgs_plain (bF go fun us s1 ⟨vs,H1,I1,r,hl,q⟩=> ?_);refine⟨rfl,by rw[<-r.length];exact hl,I1.bk _ _ oC,oN.keeps I1.bk,I1.bk _ _ oF,T.keeps I1.bk,fun h' e mk=> ?_⟩;obtain⟨t,y,y2,y3⟩:=mk.there;have hn:=qV I1.IW mk.new;have hq:=q e hn;have I2:=Ae (t':=s1.toks) (o:= .ext (A0 C e)) I1 mk.keeps mk.new ⟨⟨_,t,y,rfl,rfl⟩,⟨_,y⟩,fun h1 h2 ⟨f1,t1,z1,z2,z3⟩ hk=>⟨f1,t1,hk _ z1,z2,z3⟩⟩;have r2:Vals (V.ref e::(vs++[])) (Hg.ref e::(us++[])):= .cons rfl (r.append .nil);have hlen:(Hg.ref e::us++[]).length=ps.length:=by have z:=r2.length;rw[FI.len _ _ _ _ hq] at z;exact z.symm
 have old:s0.heap.get? e=none:=by
  cases z:s0.heap.get? e with
  |none=>rfl
  |some o=>obtain⟨o',y'⟩:=I1.base.there e o z (fun y=>nomatch y);rw[mk.new] at y';cases y'
 have bi:=bI {heap:=h',gens:=s1.gens,drawn:=s1.drawn,toks:=s1.toks,os:=s1.os} (Hg.ref e::us) I2.Mj hlen;rw[MP] at bi;refine MU (LU (FI.run _ (dH (pz P w) P w K mg base N qual scope f cd A outer s0 H0 E).stack _ _ ⟨Hg.ref e::us,[]⟩ (Hg.ref e::(us++[])) _ _ E0 (hr.make C us []) (I2.Sj.make C us []) bi r2 hq) fun r s' UB=> ?_);cases r with
 |error e=>exact UB.elim
 |ok fl=>
  cases fl with
  |ret u=>obtain⟨v,H',I3,rv,ev,p,hE,q3⟩:=I2.after UB;subst ev;obtain⟨⟨fs,a0,g1,g2,g3⟩,_,_⟩:=(show ObjOk _ _ H' s'.heap e (.ext (En C e p)) from I3.IW e _ hE);refine⟨rv,_,I3.Mj _ _ lk,g1,rfl,⟨fs,rfl,g3⟩,?_⟩;exact EG (hd:=none) (a0:=a0) (zM I3 hE) ⟨_,_,g1,rfl,rfl,rfl,g2,g3⟩ old (fun T z=>nomatch z) kS (fun T z=>nomatch z) q3
  |next=>exact False.elim UB
  |brk=>exact False.elim UB
  |cont=>exact False.elim UB
end L9
namespace L9
open PySem PySem.Spec PySem.W PyProof.Rows L2 L3 L4
section
variable {prog:Hy} {w:HU} {A:HM} {E:Hg->Hi->Prop} {h:Heap} {g:Array LI} {d:P7} {t:Nat} {os:Oq} {a C:Hj} {o:Obj} {K:Hf} {od:Option Obj} {name:Str} {v:Hg}
  {n1 q1:Str} {N1:Hj} {b1 m1:List Hg} {d1:Bool} {s1:List Str} {u1:List Hg} {a1:Bool} {c1:Option Bool} {x1:Option Hj} {i0 i1 i2 i3 i5:Option Hg} {Sv:String}
theorem tF {tk:Tok} {Q:Fin->Hi->Prop} (X:K.In h) (I:Ke h a o C od) (hf:findObj K C od name=some (.value v))
  (k:Q (.done (.ret v)) ⟨h,g,d,t,os⟩):wpAny (model prog w) A (Builtin.«object.__getattribute__» ⟨[.ref a,.str name tk],[]⟩) Q E ⟨h,g,d,t,os⟩:=by
 have L0:=I.type (M:=model prog w);have L1:=looks_find (M:=model prog w) X I hf;refine Hh (Hq (Hh (Hq (Hh (L0.at (Hh (L1.at ?_)))))));exact Hq k
theorem vI {expr:Bool} {Q:Hg->Hi->Prop} (X:K.In h) (I:Ke h a o C od) (hC:h.get? C=some (excClassObj n1 q1 C N1 b1 m1 d1 s1 u1 a1 c1 x1 i0 i1 i2 i3 i5 Sv)) (hb:m1.contains (.type "BaseException")=true)
  (l1:findIn K (.ref C) "__getattribute__"=some (some (.builtin "BaseException.__getattribute__"))) (l2:findIn K (.ref C) "__getattr__"=some none) (hf:findObj K C od name=some (.value v)) (hh:handedIn v=true)
  (k:Q v ⟨h,g,d,t+1,os⟩):wpAny (model prog w) A (getAttr (.ref a) name expr) Q E ⟨h,g,d,t,os⟩:=by
 have f3:=JI.ga.bind (.ref a);have z2:(Hg.builtin "BaseException.__getattribute__"==Hg.builtin "object.__getattribute__")=false:=by decide+kernel
 have z1:(onTheHeap (Hg.ref C)&&Hg.builtin "BaseException.__getattribute__"==Hg.builtin "object.__getattribute__")=false:=by rw[z2];rfl
 have L0:=I.type (M:=model prog w);have L1:=looks_findIn (M:=model prog w) X l1;have L2:=looks_findIn (M:=model prog w) X l2;unfold getAttr getAttrBy
 repeat (any_goals (first|assumption|with_reducible refine L0.at ?_|with_reducible refine L1.at ?_|with_reducible refine L2.at ?_|wp_step))
 rw[show(expr&&onTheHeap (Hg.builtin "BaseException.__getattribute__"))=false from by cases expr<;>rfl,if_neg Hu];unfold boundAndCalled
 repeat (any_goals (first|assumption|wp_step))
 refine J0 JI.ga.plain F.entry_bexc_ga (lG hC hb I.at_ I.cls (tF X I hf ?_));have hv:=handedOut_of hh;show wpAny _ _ (handedOut v) _ _ _;rw[hv];exact Hq k
end
def Bz (K:Hf) (ta:TE) (f:Str):TE:=fun σ H Q=>ta σ H fun x H1=>∃e ob C m p fs v,x= .ref e/\H1 e=some (.frz ob (.own e))/\ob.cls= .ref C/\ob.dict=some p/\notCls ob=true/\Lz K C m/\hasDictIn K C=true/\findIn K (.ref C) f=some none/\
 H1 p=some (.xd fs)/\fs.lookup f=some v/\Q v H1
theorem vb {X:Cx} {o:HI} {f:Str} {ta:TE} {pos:Pos} (he:PE X o ta) (hb:attributeBase o f X.env (eval o X.env)=eval o X.env):PE X (.Attribute o f pos) (Bz X.K ta f):=by intro pins s σ H Q I h;refine zU hb (bF (he pins s σ H _ I h) fun u s1 ⟨x,H1,I1,rx,e,ob,C,m,p,fs,v,ex,ea,hc,hd,hn,L,hh,ha,hp,l,q⟩=> ?_);subst ex;obtain rfl:u=Hg.ref e:=rx;have z:s1.heap.get? e=some ob:=(I1.IW e _ ea).1;obtain⟨mA,ns,rel⟩:=(show ObjOk X.prog X.w H1 s1.heap p (.xd fs) from I1.IW p _ hp);obtain⟨u',hu,ru⟩:=ML.some_of (v:=v) (o:=mA f) (by rw[<-l];exact rel f);obtain⟨od,ho,hl⟩:=vQ ns;obtain⟨_,_,_,_,_,_,_,_,_,_,_,_,_,_,_,_,kC⟩:=L.cl;obtain⟨Tj,g,d,t,os⟩:=s1;exact vI I1.Mj (⟨z,hc,hn,by rw[hd];exact ho⟩:Ke Tj e ob C (some od)) (I1.Mj _ _ kC) L.be L.ga L.gt (findObj_own hh ha rfl (by rw[hl,hu])) (wx ru) ⟨v,H1,I1.tok _,ru,q⟩
end L9
namespace L3
open PySem PySem.Spec PyProof.Rows L2
mutual
noncomputable def C0:Hr->Bool
 | .tuple ds=>pG ds
 | .int _=>true
 | .str _=>true
 | .bool _=>true
 | .none=>true
 |_=>false
noncomputable def pG:List Hr->Bool
 |[]=>true
 |d::r=>C0 d&&pG r
end
section
variable {K:Hf} {E:XK} {B:aX} {H0:Hp} {O B':aX} {σ:L2.St} {H H':Hp} {ρ:aw}
theorem Ay {a:Hj} {xs ys:List V} (h:Lh K H a xs) (l:H a=some (.lst ys)):Lh K (fun _=>none) a xs:=by
 rcases h with(h|⟨o,h⟩)|h
 ·rw[l] at h;cases h
 ·rw[l] at h;cases h
 ·exact .inr h
mutual
theorem tZ (hO:∀b,O b->¬B' b->∃ys,H b=some (.lst ys)):∀{v:V} {d:D},DV B' K H v d->C0 d=true->DV O K H v d
 |_,_,.JD,_=> .JD
 |_,_,.bl b,_=> .bl b
 |_,_,.int i,_=> .int i
 |_,_,.str x,_=> .str x
 |_,_,.tup (a:=a) h hs,e=> .tup ⟨h.1,fun z=>by
   by_cases y:B' a
   ·exact h.2 y
   ·obtain⟨ys,q⟩:=hO a z y;exact Ay h.1 q⟩ (qj hO hs e)
 |_,_,.lst h hs,e=>by cases e
theorem qj (hO:∀b,O b->¬B' b->∃ys,H b=some (.lst ys)):∀{vs:List V} {ds:List D},Jm B' K H vs ds->pG ds=true->Jm O K H vs ds
 |_,_,.nil,_=> .nil
 |_,_,.cons h hs,e=>by have e':=Bool.and_eq_true_iff.mp e;exact .cons (tZ hO h e'.1) (qj hO hs e'.2)
end
noncomputable def Er (O:aX) (σ:L2.St) (ρ:aw):aX:=fun b=>O b/\∀(i:Nat) (xs:List D),ρ[i]? =some (some (.ow xs))->σ[i]?≠some (some (.ref b))
theorem BM (R:Rl K B H0 O σ H ρ):∀{vs:List V} {ps:List PV} {ds:List D},Paired (fun v pv=>Ll K H0 O σ H ρ v pv/\fW pv) vs ps->iW ρ ps=some ds->Jm (Er O σ ρ) K H vs ds
 |_,_,_,.nil,e=>by cases e;exact .nil
 |_,_,_,.cons (l₁:=vs) (l₂:=ps) (b:=p) h t,e=>by
  unfold iW at e;cases q:kq ρ p with
  |none=>rw[q] at e;cases e
  |some d=>
   rw[q] at e;dsimp only at e;cases q2:iW ρ ps with
   |none=>rw[q2] at e;cases e
   |some ds=>
    rw[q2] at e;cases e;refine .cons ?_ (BM R t q2);obtain⟨h,st⟩:=h;have sub:Ev O H (Er O σ ρ) H:=Ev.sub fun b z=>z.1;cases p with
    |fz d'=>cases q;exact DV.ev sub h
    |ow xs=>exact st.elim
    |pl i=>
     have h:σ[i]? =some (some _):=h;have q:Gp ρ[i]? =some d:=q;cases qs:ρ[i]? with
     |none=>rw[qs] at q;cases q
     |some o=>
      cases o with
      |none=>rw[qs] at q;cases q
      |some x=>
       obtain⟨v',g1,g2⟩:=R.slot i x qs;rw[h] at g1;cases g1;rw[qs] at q;cases x with
       |fz d'=>cases q;exact DV.ev sub g2
       |pl j=>exact g2.elim
       |ow xs=>cases q;obtain⟨a,us,rfl,k1,k2,k3,k4⟩:=g2;exact .lst ⟨KH.of k3,fun z=>absurd h (z.2 i xs qs)⟩ (Jm.ev sub k4)
noncomputable def kW (F:FN) (n:Nat) (fa:FA):FE:=fun ρ=>(fa ρ).bind fun a=>(Res.IJ (iW a.2 a.1)).bind fun ds=>if ds.length=n then(ik (F ds)).bind fun rv=>(match rv with
 | .fz d=>if C0 d=true then .ok (.fz d,a.2) else .bad
 | .ow _=> .bad) else .bad
theorem Az {F:FN} {n:Nat} {ta:TA} {fa:FA} (ha:AO K E ta fa):EO K E (lx (ic K n F) [] E0 ta) (kW F n fa):=by
 intro B H0 O σ H ρ Q R w;refine ha B H0 O σ H ρ _ R (w.bind.imp fun a w1 O1 vs H1 e1 R1 p1=> ?_);obtain⟨ds,q,w2⟩:=w1.IJ;have dv:=BM R1 p1 q;by_cases hn:ds.length=n
 ·rw[if_pos hn] at w2
  obtain⟨rv,qF,w2⟩:=ol (WR.bind w2);rw[Iv];refine⟨dv.length.trans hn,Er O1 σ a.2,ds,fun b z hz=>R1.od b hz z.1,dv,?_⟩;rw[qF];cases rv with
  |ow xs=>exact w2.elim
  |fz d=>
   by_cases hd:C0 d=true
   ·dsimp only at w2;rw[if_pos hd] at w2;intro v H' s Xb;refine w2 O1 v H' (e1.trans (Ev.grow s)) (R1.grow s) (tZ (fun b z y=> ?_) Xb hd);have:¬∀(i:Nat) (xs:List D),a.2[i]? =some (some (.ow xs))->σ[i]?≠some (some (.ref b)):=fun k=>y ⟨z,k⟩;refine Classical.byContradiction fun no=>this fun i xs qi hs=>no ?_;obtain⟨v',g1,c,us,rfl,k1,k2,k3,k4⟩:=R1.slot i _ qi;rw[hs] at g1;cases g1;exact⟨us,s _ _ k3⟩
   ·dsimp only at w2;rw[if_neg hd] at w2;exact w2.elim
 ·rw[if_neg hn] at w2;exact w2.elim
theorem uU {F:FN} {n:Nat} {fa:FA} {ps:List PV} {ds:List D} {d:D} {ρ1:aw} (ha:fa ρ= .ok (ps,ρ1)) (hd:iW ρ1 ps=some ds) (hn:ds.length=n) (hF:F ds= .ok (.fz d)) (hl:C0 d=true):kW F n fa ρ= .ok (.fz d,ρ1):=by unfold kW;rw[ha,Res.bind_ok];dsimp only;rw[hd];show(if ds.length=n then _ else _)=_;rw[if_pos hn,hF];show(if C0 d=true then _ else _)=_;rw[if_pos hl]
end
end L3
namespace PySem
end PySem
namespace PyProof.Rows
open PySem
end PyProof.Rows
namespace L9
open PySem PySem.Spec PyProof.Rows L2 L3
section
variable {K:Hf} {E:XK}
def B8:R2:=fun x y H Q=>∃(z:Str) (n:Int),x= .str z/\y= .int n/\z.length<=1000/\0<=n/\n<=1000/\Q (.str (Txt.mul z n)) H
theorem uw {X:Cx}:OpR X (Jj .Mult) B8:=by
 intro pins s σ H x y v u Q I rx ry h;obtain⟨z,n,rfl,rfl,hz,h0,h1,q⟩:=h;obtain⟨t,rfl⟩:=rx;obtain⟨t',rfl⟩:=ry;refine SB.mul ⟨?_,fun _ _=> ?_,fun _ _=> ?_⟩ fun t' k=>⟨.str _,H,I.tok k,⟨_,rfl⟩,q⟩
 ·simp;omega
 ·have:(1000:Int)<=(2^63 - 1)/n:=Int.le_ediv_of_mul_le (by omega) (by omega);omega
 ·have:z.length*n.toNat<=1000*1000:=NP hz (by omega);unfold Builtin.Str.tooLong;have h2:=JL;simp;omega
noncomputable def sr:D->D->Option RV
 | .str z,.int n=>if z.length<=1000/\0<=n/\n<=1000 then some (.fz (.str (Txt.mul z n))) else none
 |_,_=>none
theorem pR:jg K B8 sr:=by
 intro O H x y dx dy rv Q n hx hy e q;unfold sr at e;split at e
 ·split at e
  ·rename_i hc;cases e;cases hx;cases hy;exact⟨_,_,rfl,rfl,hc.1,hc.2.1,hc.2.2,q.at (.str _)⟩
  ·cases e
 ·cases e
end
end L9
namespace L9
open PySem PySem.W PyProof.Rows Builtin Builtin.ObjectAttr
open PySem.Spec L2
open L3 L4
noncomputable def xg:D->Option RV
 | .tuple ds=>some (.fz (.tuple ds.reverse))
 |_=>none
theorem mQ {K:Hf} {O:aX} {H:Hp}:∀{vs:List V} {ds:List D},Jm O K H vs ds->Jm O K H vs.reverse ds.reverse
 |_,_,.nil=> .nil
 |_,_,.cons h t=>by rw[Ji,Ji];exact(mQ t).append (.cons h .nil)
theorem DM {K:Hf} {E:XK} {ta:TE} {fa:FE} (ha:EO K E ta fa):EO K E (E6 K ta (uR (FZ (rU fun i=> .int (-i)) (tC (.int 1))))) (o9 xg fa):=by
 intro B H0 O σ H ρ Q R w;refine ha B H0 O σ H ρ _ R (w.bind.imp fun a w1 O1 x H1 e1 R1 p1=> ?_);obtain⟨d,qd,w1⟩:=w1.IJ;obtain⟨rv,qf,w1⟩:=w1.IJ;have dx:=gc R1 p1 qd;unfold xg at qf;split at qf
 ·cases qf;obtain⟨b,vs,rfl,k1,k2⟩:=ri dx;refine⟨1,rfl,-1,rfl,rfl,b,vs,rfl,k1.1,?_⟩;exact Fin.Pa (mQ k2) R1.od (fE (rv:= .fz (.tuple _)) R1 fun O4 v H4 e4 R4 p4=>w1 O4 v H4 (e1.trans e4) R4 p4)
 ·cases qf
end L9
namespace L10
open PySem L2 L3
inductive AV where
 |fz (d:D)
 |rf (i:Nat)
inductive SV where
 |fz (d:D)
 |rf (i:Nat)
 |tp (l:List AV)
noncomputable def AV.sv:AV->SV
 | .fz d=> .fz d
 | .rf i=> .rf i
inductive Cell where
 |lst (xs:List SV)
 |Jh (kvs:List (aK×SV))
 |obj (C:Str) (fs:List (Str×SV))
 |dead
abbrev bH:=List Cell
abbrev bp:=List (Option SV)
inductive RS (α:Type) where
 |ok (a:α) (Z:bH)
 |er (x:Xc) (Z:bH)
 |bad
noncomputable def RS.bind {α β:Type} (r:RS α) (f:α->bH->RS β):RS β:=match r with
 | .ok a Z=>f a Z
 | .er x Z=> .er x Z
 | .bad=> .bad
noncomputable def RS.IJ {α:Type} (Z:bH):Option α->RS α
 |some a=> .ok a Z
 |none=> .bad
theorem RS.bind_ok {α β:Type} (a:α) (Z:bH) (f:α->bH->RS β):(RS.ok a Z).bind f=f a Z:=rfl
noncomputable def Lv (α:List Hj) (Z:bH):aX:=fun b=>∃(i:Nat) (c:Cell),α[i]? =some b/\Z[i]? =some c/\c≠Cell.dead
noncomputable def ow (B:aX) (α:List Hj) (Z:bH):aX:=fun b=>B b\/Lv α Z b
section
variable (O:aX) (K:Hf) (H:Hp) (α:List Hj)
def RP (v:V):AV->Prop
 | .fz d=>DV O K H v d
 | .rf i=>∃a,α[i]? =some a/\v= .ref a
def Lm (v:V):SV->Prop
 | .fz d=>DV O K H v d
 | .rf i=>∃a,α[i]? =some a/\v= .ref a
 | .tp l=>∃a xs,v= .ref a/\Mp O K H a xs/\Paired (RP O K H α) xs l
noncomputable abbrev Mu:List V->List SV->Prop:=Paired (Lm O K H α)
def RF (a:Hj):Cell->Prop
 | .lst xs=>∃vs,H a=some (.lst vs)/\Mu O K H α vs xs
 | .Jh kvs=>∃ws:List (aK×V),H a=some (.dK ws)/\Paired (fun(p:aK×V) (q:aK×SV)=>p.1=q.1/\Lm O K H α p.2 q.2) ws kvs
 | .obj C fs=>∃Ca dx ws,HA K Hw C=some (some (.ref Ca))/\H a=some (.ins Ca dx ws)/\Paired (fun(p:Str×V) (q:Str×SV)=>p.1=q.1/\Lm O K H α p.2 q.2) ws fs
 | .dead=>True
def Ks (σ:L2.St) (ρ:bp):Prop:=σ.length=ρ.length/\∀(i:Nat) (x:SV),ρ[i]? =some (some x)->∃v,σ[i]? =some (some v)/\Lm O K H α v x
end
structure Iu (B:aX) (K:Hf) (H:Hp) (α:List Hj) (Z:bH):Prop where
 len:α.length=Z.length
 nd:∀(i j:Nat) (a:Hj),α[i]? =some a->α[j]? =some a->i=j
 bn:∀a,B a->H a≠none
 ba:∀a,B a->∀i:Nat,α[i]?≠some a
 al:∀(i:Nat) (a:Hj),α[i]? =some a->H a≠none
 QH:∀(i:Nat) (a:Hj) (c:Cell),α[i]? =some a->Z[i]? =some c->RF (ow B α Z) K H α a c
structure Ko (α:List Hj) (Z:bH) (H:Hp) (α':List Hj) (Z':bH) (H':Hp):Prop where
 pre:∀(i:Nat) (a:Hj),α[i]? =some a->α'[i]? =some a
 kp:∀b o,H b=some o->¬Lv α Z b->H' b=some o
 lv:∀b,Lv α' Z' b->Lv α Z b\/H b=none
section
variable {B O O':aX} {K:Hf} {E:XK} {H H' H1 H2:Hp} {α α' α1 α2:List Hj} {Z Z' Z1 Z2:bH} {σ:L2.St} {ρ:bp} {v:V}
theorem Ko.refl:Ko α Z H α Z H:=⟨fun _ _ h=>h,fun _ _ h _=>h,fun _ h=> .inl h⟩
theorem Ko.trans (a:Ko α Z H α1 Z1 H1) (b:Ko α1 Z1 H1 α2 Z2 H2):Ko α Z H α2 Z2 H2:=by
 have n1:∀b o,H b=some o->¬Lv α Z b->¬Lv α1 Z1 b:=fun b o h n z=>(a.lv b z).elim n fun q=>by rw[h] at q;cases q
 refine⟨fun i p h=>b.pre i p (a.pre i p h),fun p o h n=>b.kp p o (a.kp p o h n) (n1 p o h n),fun p h=> ?_⟩;rcases b.lv p h with h|h
 ·exact a.lv p h
 ·cases q:H p with
  |none=>exact .inr rfl
  |some o=>refine .inl (Classical.byContradiction fun n=> ?_);rw[a.kp p o q n] at h;cases h
theorem Ko.same (s:IX H H'):Ko α Z H α Z H':=⟨fun _ _ h=>h,fun b o h _=>s b o h,fun _ h=> .inl h⟩
theorem Ko.ev (e:Ko α Z H α' Z' H'):Ev (ow B α Z) H (ow B α' Z') H':=fun b o h n=>
 ⟨e.kp b o h fun z=>n (.inr z),fun z=>z.elim (fun q=>n (.inl q)) fun q=>(e.lv b q).elim (fun q=>n (.inr q)) fun q=>by rw[h] at q;cases q⟩
theorem RP.ev {x:AV} (e:Ev O H O' H') (p:∀(i:Nat) (a:Hj),α[i]? =some a->α'[i]? =some a) (h:RP O K H α v x):RP O' K H' α' v x:=by
 cases x with
 |fz d=>exact DV.ev e h
 |rf i=>obtain⟨a,h1,h2⟩:=h;exact⟨a,p i a h1,h2⟩
theorem Lm.ev {x:SV} (e:Ev O H O' H') (p:∀(i:Nat) (a:Hj),α[i]? =some a->α'[i]? =some a) (h:Lm O K H α v x):Lm O' K H' α' v x:=by
 cases x with
 |fz d=>exact DV.ev e h
 |rf i=>obtain⟨a,h1,h2⟩:=h;exact⟨a,p i a h1,h2⟩
 |tp l=>obtain⟨a,xs,h1,h2,h3⟩:=h;exact⟨a,xs,h1,h2.ev e,Paired.Mi h3 fun _ _ q=>q.ev e p⟩
theorem Lm.Lp {x:SV} (e:Ko α Z H α' Z' H') (h:Lm (ow B α Z) K H α v x):Lm (ow B α' Z') K H' α' v x:=h.ev e.ev e.pre
theorem Mu.Lp {vs:List V} {xs:List SV} (e:Ko α Z H α' Z' H') (h:Mu (ow B α Z) K H α vs xs):Mu (ow B α' Z') K H' α' vs xs:=Paired.Mi h fun _ _ q=>q.Lp e
theorem Ks.Lp (e:Ko α Z H α' Z' H') (h:Ks (ow B α Z) K H α σ ρ):Ks (ow B α' Z') K H' α' σ ρ:=⟨h.1,fun i x q=>let⟨v,h1,h2⟩:=h.2 i x q;⟨v,h1,h2.Lp e⟩⟩
theorem RF.ev {a:Hj} {c:Cell} (e:Ev O H O' H') (p:∀(i:Nat) (a:Hj),α[i]? =some a->α'[i]? =some a) (ha:∀o,H a=some o->H' a=some o) (h:RF O K H α a c):RF O' K H' α' a c:=by
 cases c with
 |lst xs=>obtain⟨vs,h1,h2⟩:=h;exact⟨vs,ha _ h1,Paired.Mi h2 fun _ _ q=>q.ev e p⟩
 |Jh kvs=>obtain⟨ws,h1,h2⟩:=h;exact⟨ws,ha _ h1,Paired.Mi h2 fun _ _ q=>⟨q.1,q.2.ev e p⟩⟩
 |obj C fs=>obtain⟨Ca,dx,ws,h0,h1,h2⟩:=h;exact⟨Ca,dx,ws,h0,ha _ h1,Paired.Mi h2 fun _ _ q=>⟨q.1,q.2.ev e p⟩⟩
 |dead=>trivial
theorem Iu.Ox (s:Iu B K H α Z):gd (ow B α Z) H:=fun a h z=>z.elim (fun q=>s.bn a q h) fun⟨i,c,q,_⟩=>s.al i a q h
theorem Iu.owd (s:Iu B K H α Z):∀a,ow B α Z a->H a≠none:=fun a z h=>s.Ox a h z
theorem Iu.grow (s:Iu B K H α Z) (e:IX H H'):Iu B K H' α Z:=by have n:∀a,H a≠none->H' a≠none:=fun a h z=>h (e.free z);exact⟨s.len,s.nd,fun a h=>n a (s.bn a h),s.ba,fun i a h=>n a (s.al i a h),fun i a c h1 h2=>(s.QH i a c h1 h2).ev (Ev.grow e) (fun _ _ h=>h) fun o h=>e _ _ h⟩
theorem Iu.at (s:Iu B K H α Z) {i:Nat} {c:Cell} (h:Z[i]? =some c):∃a,α[i]? =some a:=by have:i<Z.length:=(Hm.mp h).1;rw[<-s.len] at this;exact⟨_,HD this⟩
theorem rA {i:Nat} {c c':Cell} (h:Z[i]? =some c) (hc:c≠ .dead) (Oy:c'≠ .dead) {b:Hj}:Lv α (Z.set i c') b↔Lv α Z b:=by
 constructor
 ·rintro⟨j,d,h1,h2,h3⟩
  rcases bG h2 with⟨rfl,rfl⟩|⟨_,h2⟩
  ·exact⟨j,c,h1,h,hc⟩
  ·exact⟨j,d,h1,h2,h3⟩
 ·rintro⟨j,d,h1,h2,h3⟩
  by_cases e:j=i
  ·subst e;exact⟨j,c',h1,by rw[JE (Hm.mp h).1],Oy⟩
  ·exact⟨j,d,h1,by rw[JR (fun z=>e z.symm)];exact h2,h3⟩
theorem Df {i:Nat} {c c':Cell} (h:Z[i]? =some c) (hc:c≠ .dead) (Oy:c'≠ .dead):ow B α (Z.set i c')=ow B α Z:=by funext b;exact propext ⟨fun z=>z.imp id (rA h hc Oy).mp,fun z=>z.imp id (rA h hc Oy).mpr⟩
theorem Ko.put {i:Nat} {a:Hj} {c c':Cell} {o:HO} (ha:α[i]? =some a) (h:Z[i]? =some c) (hc:c≠ .dead) (Oy:c'≠ .dead):Ko α Z H α (Z.set i c') (aY H a o):=
 ⟨fun _ _ h=>h,fun b o' q n=>by have z:b≠a:=fun e=>n ⟨i,c,by rw[e];exact ha,h,hc⟩;rw[aj z];exact q,fun b z=> .inl ((rA h hc Oy).mp z)⟩
theorem Iu.put (s:Iu B K H α Z) {i:Nat} {a:Hj} {c c':Cell} {o:HO} (ha:α[i]? =some a) (h:Z[i]? =some c) (hc:c≠ .dead) (Oy:c'≠ .dead) (new:RF (ow B α Z) K (aY H a o) α a c'):Iu B K (aY H a o) α (Z.set i c'):=by
 have e:Ko α Z H α (Z.set i c') (aY H a o):=Ko.put ha h hc Oy;have n:∀b,H b≠none->aY H a o b≠none:=fun b h=>by
  by_cases z:b=a
  ·subst z;rw[ar];simp
  ·rw[aj z];exact h
 refine⟨by rw[IZ];exact s.len,s.nd,fun b h=>n b (s.bn b h),s.ba,fun j b h=>n b (s.al j b h),fun j b d h1 h2=> ?_⟩;rcases bG h2 with⟨rfl,rfl⟩|⟨LS,h2⟩
 ·rw[ha] at h1;cases h1;rw[Df h hc Oy];exact new
 ·exact(s.QH j b d h1 h2).ev e.ev e.pre fun u q=>by rw[aj (fun z=>LS (s.nd j i a (by rw[<-z];exact h1) ha))];exact q
theorem zC {i:Nat} {a:Hj} {c:Cell} {o:HO} (ha:α[i]? =some a) (h:Z[i]? =some c) (hc:c≠ .dead):Ev (ow B α Z) H (ow B α Z) (aY H a o):=Ev.mut (.inr ⟨i,c,ha,h,hc⟩) o
theorem bt {α:Type} {l:List α} {x y:α} {i:Nat} (h:(l++[x])[i]? =some y):l[i]? =some y\/(i=l.length/\y=x):=by
 by_cases hi:i<l.length
 ·rw[Io hi] at h;exact .inl h
 ·rw[IK (by omega)] at h
  cases q:i - l.length with
  |zero=>rw[q] at h;cases h;exact .inr ⟨by omega,rfl⟩
  |succ n=>rw[q] at h;cases h
theorem eW {α:Type} {l:List α} {x y:α} {i:Nat} (h:l[i]? =some y):(l++[x])[i]? =some y:=by rw[Io (Hm.mp h).1];exact h
theorem db {α:Type} {l:List α} {x:α}:(l++[x])[l.length]? =some x:=by simp
theorem oG {p:Hj} {c:Cell} (hl:α.length=Z.length) {b:Hj} (h:Lv (α++[p]) (Z++[c]) b):Lv α Z b\/b=p:=by
 obtain⟨i,d,h1,h2,h3⟩:=h;rcases bt h1 with h1|⟨e1,e2⟩
 ·rcases bt h2 with h2|⟨e1,e2⟩
  ·exact .inl ⟨i,d,h1,h2,h3⟩
  ·have:=(Hm.mp h1).1;omega
 ·exact .inr e2
theorem Ko.Oc {p:Hj} {c:Cell} (hl:α.length=Z.length) (s:IX H H') (hp:H p=none):Ko α Z H (α++[p]) (Z++[c]) H':=
 ⟨fun i a h=>eW h,fun b u q _=>s b u q,fun b z=>(oG hl z).imp id fun e=>by rw[e];exact hp⟩
theorem Iu.Oc (s:Iu B K H α Z) {p:Hj} {c:Cell} (e:IX H H') (hp:H p=none) (hq:H' p≠none) (new:RF (ow B (α++[p]) (Z++[c])) K H' (α++[p]) p c):Iu B K H' (α++[p]) (Z++[c]):=by
 have ev:Ko α Z H (α++[p]) (Z++[c]) H':=Ko.Oc s.len e hp;have n:∀b,H b≠none->H' b≠none:=fun b h z=>h (e.free z);refine⟨by rw[Hn,Hn,s.len];rfl,fun i j a h1 h2=> ?_,fun a h=>n a (s.bn a h),fun a h i q=> ?_,fun i a h=> ?_,fun i a d h1 h2=> ?_⟩
 ·rcases bt h1 with g1|⟨e1,e2⟩<;>rcases bt h2 with g2|⟨e3,e4⟩
  ·exact s.nd i j a g1 g2
  ·exact absurd (by rw[e4];exact hp) (s.al i a g1)
  ·exact absurd (by rw[e2];exact hp) (s.al j a g2)
  ·omega
 ·rcases bt q with q|⟨_,e2⟩
  ·exact s.ba a h i q
  ·subst e2;exact s.bn a h hp
 ·rcases bt h with h|⟨_,e2⟩
  ·exact n a (s.al i a h)
  ·subst e2;exact hq
 ·rcases bt h2 with h2|⟨e1,e2⟩
  ·rcases bt h1 with h1|⟨e1,_⟩
   ·exact(s.QH i a d h1 h2).ev ev.ev ev.pre fun o q=>e _ _ q
   ·have:=(Hm.mp h2).1;have:=s.len;omega
  ·rcases bt h1 with h1|⟨_,e3⟩
   ·have:=(Hm.mp h1).1;have:=s.len;omega
   ·subst e2 e3;exact new
def WS {A:Type} (K:Hf) (E:XK) (B:aX) (H:Hp) (α:List Hj) (Z:bH) (P:A->List Hj->bH->Hp->Prop):RS A->Prop
 | .ok a Z'=>∀α' H',Ko α Z H α' Z' H'->Iu B K H' α' Z'->P a α' Z' H'
 | .er x Z'=>∀c dx α' H',Ko α Z H α' Z' H'->Iu B K H' α' Z'->S2 K (ow B α' Z') H' c dx x->E c dx H'
 | .bad=>False
theorem WS.from {A:Type} {P:A->List Hj->bH->Hp->Prop} {r:RS A} (e:Ko α Z H α1 Z1 H1) (h:WS K E B H α Z P r):WS K E B H1 α1 Z1 P r:=by
 cases r with
 |ok a Z2=>exact fun α2 H2 e2 s2=>h α2 H2 (e.trans e2) s2
 |er x Z2=>exact fun c dx α2 H2 e2 s2=>h c dx α2 H2 (e.trans e2) s2
 |bad=>exact h
theorem WS.bind {A C:Type} {P:C->List Hj->bH->Hp->Prop} {r:RS A} {k:A->bH->RS C} (h:WS K E B H α Z P (r.bind k)):WS K E B H α Z (fun a α1 Z1 H1=>WS K E B H1 α1 Z1 P (k a Z1)) r:=by
 cases r with
 |ok a Z1=>exact fun α1 H1 e1 _=>WS.from e1 h
 |er x Z1=>exact h
 |bad=>exact h
theorem WS.IJ {A C:Type} {P:C->List Hj->bH->Hp->Prop} {o:Option A} {k:A->bH->RS C} (h:WS K E B H α Z P ((RS.IJ Z o).bind k)):∃a,o=some a/\WS K E B H α Z P (k a Z):=by
 cases o with
 |none=>exact h.elim
 |some a=>exact⟨a,rfl,h⟩
theorem WS.imp {A:Type} {P P':A->List Hj->bH->Hp->Prop} {r:RS A} (h:WS K E B H α Z P r) (g:∀a α' Z' H',Ko α Z H α' Z' H'->Iu B K H' α' Z'->P a α' Z' H'->P' a α' Z' H'):WS K E B H α Z P' r:=by
 cases r with
 |ok a Z1=>exact fun α1 H1 e1 s1=>g a α1 Z1 H1 e1 s1 (h α1 H1 e1 s1)
 |er x Z1=>exact h
 |bad=>exact h
theorem WS.now {A:Type} {P:A->List Hj->bH->Hp->Prop} {a:A} (s:Iu B K H α Z) (h:WS K E B H α Z P (.ok a Z)):P a α Z H:=h α H .refl s
end
abbrev cy:=bp->bH->RS SV
abbrev oj:=bp->bH->RS Bool
abbrev wE:=bp->bH->RS (List SV)
def gR (K:Hf) (E:XK) (t:TE) (f:cy):Prop:=
 ∀(B:aX) (σ:L2.St) (H:Hp) (α:List Hj) (Z:bH) (ρ:bp) (Q:VK),Iu B K H α Z->Ks (ow B α Z) K H α σ ρ->WS K E B H α Z (fun x α' Z' H'=>∀v,Lm (ow B α' Z') K H' α' v x->Q v H') (f ρ Z)->t σ H Q
def BK (K:Hf) (E:XK) (t:TT) (f:oj):Prop:=
 ∀(B:aX) (σ:L2.St) (H:Hp) (α:List Hj) (Z:bH) (ρ:bp) (Q:Bool->Hp->Prop),Iu B K H α Z->Ks (ow B α Z) K H α σ ρ->WS K E B H α Z (fun b _ _ H'=>Q b H') (f ρ Z)->t σ H Q
def E5 (K:Hf) (E:XK) (t:TA) (f:wE):Prop:=
 ∀(B:aX) (σ:L2.St) (H:Hp) (α:List Hj) (Z:bH) (ρ:bp) (Q:List V->Hp->Prop),Iu B K H α Z->Ks (ow B α Z) K H α σ ρ->WS K E B H α Z (fun xs α' Z' H'=>∀vs,Mu (ow B α' Z') K H' α' vs xs->Q vs H') (f ρ Z)->t σ H Q
section
variable {B O O':aX} {K:Hf} {E:XK} {H H' H1 H2:Hp} {α α' α1 α2:List Hj} {Z Z' Z1 Z2:bH} {σ:L2.St} {ρ:bp} {v:V}
noncomputable def yk:Option SV->Option PV
 |some (.fz d)=>some (.fz d)
 |_=>none
noncomputable def cA (ρ:bp):aw:=ρ.map yk
theorem mH {i:Nat} {x:PV} (h:(cA ρ)[i]? =some (some x)):∃d,x= .fz d/\ρ[i]? =some (some (.fz d)):=by
 unfold cA at h;rw[Hv] at h;cases q:ρ[i]? with
 |none=>rw[q] at h;cases h
 |some o=>
  rw[q] at h;have h':yk o=some x:=HJ h;unfold yk at h';split at h'
  ·cases h';exact⟨_,rfl,rfl⟩
  ·cases h'
theorem zb (s:Iu B K H α Z) (sl:Ks (ow B α Z) K H α σ ρ):Rl K (ow B α Z) H (ow B α Z) σ H (cA ρ):=by
 refine⟨IX.refl _,fun _ h=>h,s.owd,s.Ox,by unfold cA;rw[Hk];exact sl.1,fun i x h=> ?_,fun i j ds es w h=> ?_⟩
 ·obtain⟨d,rfl,hd⟩:=mH h;obtain⟨v,h1,h2⟩:=sl.2 i _ hd;exact⟨v,h1,h2⟩
 ·obtain⟨d,e,_⟩:=mH h;cases e
noncomputable def lJ (Z:bH):RV->RS SV
 | .fz d=> .ok (.fz d) Z
 | .ow ds=> .ok (.rf Z.length) (Z++[.lst (ds.map .fz)])
noncomputable abbrev PQ (B:aX) (K:Hf) (Q:VK):SV->List Hj->bH->Hp->Prop:=fun x α' Z' H'=>∀v,Lm (ow B α' Z') K H' α' v x->Q v H'
theorem oQ (O:aX) (α:List Hj):∀{vs:List V} {ds:List D},Jm O K H vs ds->Mu O K H α vs (ds.map .fz)
 |_,_,.nil=> .nil
 |_,_,.cons h t=> .cons h (oQ O α t)
theorem pN {Q:VK} {ds:List D} {p:Hj} {vs:List V} {O':aX} (s:Iu B K H α Z) (w:WS K E B H α Z (PQ B K Q) (lJ Z (.ow ds))) (e:IX H H') (hp:H p=none) (h:H' p=some (.lst vs)) (hd:Jm O' K H' vs ds) (hO:∀b,ow B α Z b->O' b) (hq:O' p):Q (.ref p) H':=by
 have sub:∀b,ow B (α++[p]) (Z++[.lst (ds.map .fz)]) b->O' b:=fun b z=>z.elim (fun q=>hO b (.inl q)) fun q=>(oG s.len q).elim (fun q=>hO b (.inr q)) fun q=>by rw[q];exact hq
 exact w (α++[p]) H' (Ko.Oc s.len e hp) (s.Oc e hp (by rw[h];simp) ⟨vs,h,oQ _ _ (hd.ev (Ev.sub sub))⟩) (.ref p) ⟨p,by rw[<-s.len];exact db,rfl⟩
theorem BW {Q:VK} {rv:RV} (s:Iu B K H α Z) (w:WS K E B H α Z (PQ B K Q) (lJ Z rv)):Fin (ow B α Z) K H Q rv:=by
 cases rv with
 |fz d=>exact fun v H' e dv=>w α H' (Ko.same e) (s.grow e) v dv
 |ow ds=>exact fun p vs H' e hp h dv=>pN s w e hp h dv (fun b z=> .inl z) (.inr rfl)
noncomputable def aA (f:FE):cy:=fun ρ Z=>match f (cA ρ) with
 | .ok (.fz d,_)=> .ok (.fz d) Z
 | .ok (.ow ds,_)=>lJ Z (.ow ds)
 | .ok (.pl _,_)=> .bad
 | .er x=> .er x Z
 | .bad=> .bad
theorem bx {t:TE} {f:FE} (h:EO K E t f):gR K E t (aA f):=by
 intro B σ H α Z ρ Q s sl w;refine h (ow B α Z) H (ow B α Z) σ H (cA ρ) Q (zb s sl) ?_;unfold aA at w;cases q:f (cA ρ) with
 |bad=>rw[q] at w;exact w.elim
 |er x=>rw[q] at w;exact fun c dx H' e k=>w c dx α H' (Ko.same e) (s.grow e) k
 |ok r=>
  obtain⟨pv,ρ'⟩:=r;rw[q] at w;intro O' v H' e R p;cases pv with
  |fz d=>exact w α H' (Ko.same R.same) (s.grow R.same) v (DV.ev (Ev.sub R.bo) p)
  |ow ds=>obtain⟨a,vs,rfl,h1,h2,h3,h4,h5⟩:=p;exact pN s w R.same h2 h3 h4 R.bo h1
  |pl i=>exact w.elim
noncomputable def lV (f:FT):oj:=fun ρ Z=>match f (cA ρ) with
 | .ok (b,_)=> .ok b Z
 | .er x=> .er x Z
 | .bad=> .bad
theorem pF {t:TT} {f:FT} (h:Om K E t f):BK K E t (lV f):=by
 intro B σ H α Z ρ Q s sl w;refine h (ow B α Z) H (ow B α Z) σ H (cA ρ) Q (zb s sl) ?_;unfold lV at w;cases q:f (cA ρ) with
 |bad=>rw[q] at w;exact w.elim
 |er x=>rw[q] at w;exact fun c dx H' e k=>w c dx α H' (Ko.same e) (s.grow e) k
 |ok r=>obtain⟨b,ρ'⟩:=r;rw[q] at w;exact fun O' H' e R=>w α H' (Ko.same R.same) (s.grow R.same)
noncomputable def ci (i:Nat):cy:=fun ρ Z=>match ρ[i]? with
 |some (some x)=> .ok x Z
 |_=> .bad
theorem eF {i:Nat}:gR K E (mY i) (ci i):=by
 intro B σ H α Z ρ Q s sl w;unfold ci at w;cases q:ρ[i]? with
 |none=>rw[q] at w;exact w.elim
 |some o=>
  cases o with
  |none=>rw[q] at w;exact w.elim
  |some x=>rw[q] at w;obtain⟨v,h1,h2⟩:=sl.2 i x q;exact⟨v,h1,WS.now s w v h2⟩
noncomputable def a6 {α β:Type} (f:α->Option β):List α->Option (List β)
 |[]=>some []
 |x::r=>match f x with
  |some y=>(match a6 f r with
   |some ys=>some (y::ys)
   |none=>none)
  |none=>none
noncomputable def wF:Nat->bH->SV->Option D
 |_,_,.fz d=>some d
 |0,_,_=>none
 |n+1,Z,.rf i=>match Z[i]? with
  |some (.lst xs)=>(a6 (wF n Z) xs).map .list
  |_=>none
 |n+1,Z,.tp l=>(a6 (fun x=>wF n Z x.sv) l).map .tuple
theorem cM {α β:Type} {f:α->Option β} {R:V->α->Prop} {S:V->β->Prop} (h:∀v x y,R v x->f x=some y->S v y):∀{vs:List V} {xs:List α} {ys:List β},Paired R vs xs->a6 f xs=some ys->Paired S vs ys
 |_,_,_,.nil,e=>by cases e;exact .nil
 |_,_,_,.cons (b:=x) (l₂:=xs) r t,e=>by
  unfold a6 at e;cases q:f x with
  |none=>rw[q] at e;cases e
  |some y=>
   rw[q] at e;dsimp only at e;cases q2:a6 f xs with
   |none=>rw[q2] at e;cases e
   |some ys=>rw[q2] at e;cases e;exact .cons (h _ _ _ r q) (cM h t q2)
theorem jE:∀{vs:List V} {ds:List D},Paired (DV O K H) vs ds->Jm O K H vs ds
 |_,_,.nil=> .nil
 |_,_,.cons h t=> .cons h (jE t)
theorem BZ:Ev O H Ox H:=Ev.sub fun _ z=>z.elim
theorem jb (s:Iu B K H α Z):∀(n:Nat) {v:V} {x:SV} {d:D},Lm (ow B α Z) K H α v x->wF n Z x=some d->DV Ox K H v d
 |n,v,.fz d',d,h,e=>by
  have e':some d'=some d:=by cases n<;>exact e
  cases e';exact DV.ev BZ h
 |0,v,.rf i,d,h,e=>by cases e
 |0,v,.tp l,d,h,e=>by cases e
 |n+1,v,.rf i,d,h,e=>by
  obtain⟨a,ha,rfl⟩:=h;unfold wF at e;cases q:Z[i]? with
  |none=>rw[q] at e;cases e
  |some c=>
   rw[q] at e;cases c with
   |lst xs=>
    dsimp only at e;cases q2:a6 (wF n Z) xs with
    |none=>rw[q2] at e;cases e
    |some ds=>rw[q2] at e;cases e;obtain⟨vs,h1,h2⟩:=s.QH i a _ ha q;exact .lst ⟨KH.of h1,fun z=>z.elim⟩ (jE (cM (R:=Lm (ow B α Z) K H α) (S:=L3.DV Ox K H) (fun v x y r e=>jb s n r e) h2 q2))
   |_=>cases e
 |n+1,v,.tp l,d,h,e=>by
  obtain⟨a,xs,rfl,h1,h2⟩:=h;unfold wF at e;cases q2:a6 (fun x=>wF n Z x.sv) l with
  |none=>rw[q2] at e;cases e
  |some ds=>rw[q2] at e;cases e;exact .tup (h1.ev BZ) (jE (cM (R:=RP (ow B α Z) K H α) (S:=L3.DV Ox K H) (fun v x y r e=>jb s n (x:=x.sv) (by cases x<;>exact r) e) h2 q2))
noncomputable def D7:SV->Option D
 | .fz d=>some d
 |_=>none
noncomputable def sh (Z:bH):SV->Option D
 | .fz d=>some d
 | .rf i=>match Z[i]? with
  |some (.lst xs)=>(a6 D7 xs).map .list
  |_=>none
 | .tp _=>none
theorem zr (s:Iu B K H α Z) {v:V} {x:SV} {d:D} (h:Lm (ow B α Z) K H α v x) (e:sh Z x=some d):DX (ow B α Z) K H v d:=by
 cases x with
 |fz d'=>cases e;exact DV.x h
 |tp l=>cases e
 |rf i=>
  obtain⟨a,ha,rfl⟩:=h;unfold sh at e;dsimp only at e;cases q:Z[i]? with
  |none=>rw[q] at e;cases e
  |some c=>
   rw[q] at e;cases c with
   |lst xs=>
    dsimp only at e;cases q2:a6 D7 xs with
    |none=>rw[q2] at e;cases e
    |some ds=>
     rw[q2] at e;cases e;obtain⟨vs,h1,h2⟩:=s.QH i a _ ha q;refine⟨a,vs,rfl,KH.of h1,jE (cM (R:=Lm (ow B α Z) K H α) (S:=L3.DV (ow B α Z) K H) (fun v x y r e=> ?_) h2 q2)⟩;cases x with
     |fz d=>cases e;exact r
     |rf i=>cases e
     |tp l=>cases e
   |_=>cases e
noncomputable def nk:D->Bool
 | .none=>true
 | .bool _=>true
 | .int _=>true
 | .str _=>true
 |_=>false
theorem Ap {d:D} (h:nk d=true) (dv:DV O K H v d):DV O' K H' v d:=by
 cases dv with
 |JD=>exact .JD
 |bl b=>exact .bl b
 |int i=>exact .int i
 |str x=>exact .str x
 |tup _ _=>cases h
 |lst _ _=>cases h
noncomputable def tN (Z:bH):RV->RS SV
 | .fz d=>if nk d=true then .ok (.fz d) Z else .bad
 | .ow _=> .bad
theorem Bx {Q:VK} {rv:RV} (s:Iu B K H α Z) (w:WS K E B H α Z (PQ B K Q) (tN Z rv)):Fin Ox K H Q rv:=by
 cases rv with
 |fz d=>
  have w:WS K E B H α Z (PQ B K Q) (if nk d=true then RS.ok (SV.fz d) Z else RS.bad):=w;by_cases z:nk d=true
  ·rw[if_pos z] at w;exact fun v H' e dv=>w α H' (Ko.same e) (s.grow e) v (Ap z dv)
  ·rw[if_neg z] at w;exact w.elim
 |ow ds=>exact w.elim
theorem yj:gd Ox H:=fun _ _ z=>z
noncomputable def vV (f:D->D->Option RV) (x y:SV) (Z:bH):RS SV:=match sh Z x,sh Z y with
 |some dx,some dy=>(RS.IJ Z (f dx dy)).bind fun rv Z1=>lJ Z1 rv
 |_,_=>(RS.IJ Z (wF 6 Z x)).bind fun dx Z1=>(RS.IJ Z1 (wF 6 Z1 y)).bind fun dy Z2=>(RS.IJ Z2 (f dx dy)).bind fun rv Z3=>tN Z3 rv
theorem CV {r:R2} {f:D->D->Option RV} {x y:V} {a b:SV} {Q:VK} (hr:jg K r f) (s:Iu B K H α Z) (hx:Lm (ow B α Z) K H α x a) (hy:Lm (ow B α Z) K H α y b) (w:WS K E B H α Z (PQ B K Q) (vV f a b Z)):r x y H Q:=by
 have deep:WS K E B H α Z (PQ B K Q) ((RS.IJ Z (wF 6 Z a)).bind fun dx Z1=>(RS.IJ Z1 (wF 6 Z1 b)).bind fun dy Z2=>(RS.IJ Z2 (f dx dy)).bind fun rv Z3=>tN Z3 rv)->r x y H Q:=fun w=>by obtain⟨dx,q1,w⟩:=w.IJ;obtain⟨dy,q2,w⟩:=w.IJ;obtain⟨rv,q3,w⟩:=w.IJ;exact hr Ox H x y dx dy rv Q yj (DV.x (jb s 6 hx q1)) (DV.x (jb s 6 hy q2)) q3 (Bx s w)
 unfold vV at w;cases q1:sh Z a with
 |none=>rw[q1] at w;exact deep w
 |some dx=>
  cases q2:sh Z b with
  |none=>rw[q1,q2] at w;exact deep w
  |some dy=>rw[q1,q2] at w;obtain⟨rv,q3,w⟩:=w.IJ;exact hr _ H x y dx dy rv Q s.Ox (zr s hx q1) (zr s hy q2) q3 (BW s w)
noncomputable def A3:SV->Option Bool
 | .fz (.bool b)=>some b
 |_=>none
theorem Aw {x:SV} {b:Bool} (e:A3 x=some b) (h:Lm O K H α v x):v= .bl b:=by
 unfold A3 at e;split at e
 ·cases e;cases h;rfl
 ·cases e
noncomputable def gb (fa:cy):oj:=fun ρ Z=>(fa ρ Z).bind fun x Z1=>RS.IJ Z1 (A3 x)
theorem zF {ta:TE} {fa:cy} (ha:gR K E ta fa):BK K E (vd ta) (gb fa):=by
 intro B σ H α Z ρ Q s sl w;refine ha B σ H α Z ρ _ s sl (w.bind.imp fun x α1 Z1 H1 e1 s1 w1 v hv=> ?_);cases q:A3 x with
 |none=>rw[q] at w1;exact w1.elim
 |some b=>rw[q] at w1;exact⟨b,Aw q hv,WS.now s1 w1⟩
theorem yJ {ta:TE} {fa:cy} (ha:gR K E ta fa):BK K E (tB ta) (gb fa):=zF ha
noncomputable def v7 (fa fb:oj):oj:=fun ρ Z=>(fa ρ Z).bind fun b Z1=>if b=true then fb ρ Z1 else .ok false Z1
theorem z5 {t u:TT} {f g:oj} (h1:BK K E t f) (h2:BK K E u g):BK K E (Ea t u) (v7 f g):=by
 intro B σ H α Z ρ Q s sl w;refine h1 B σ H α Z ρ _ s sl (w.bind.imp fun b α1 Z1 H1 e1 s1 w1=> ?_);cases b with
 |true=>exact h2 B σ H1 α1 Z1 ρ Q s1 (sl.Lp e1) w1
 |false=>exact WS.now s1 w1
noncomputable def xM:wE:=fun _ Z=> .ok [] Z
noncomputable def jN (fa:cy) (fr:wE):wE:=fun ρ Z=>(fa ρ Z).bind fun x Z1=>(fr ρ Z1).bind fun xs Z2=> .ok (x::xs) Z2
theorem uu:E5 K E l6 xM:=fun B σ H α Z ρ Q s sl w=>WS.now s w [] .nil
theorem qM {ta:TE} {tr:TA} {fa:cy} {fr:wE} (ha:gR K E ta fa) (hr:E5 K E tr fr):E5 K E (fy ta tr) (jN fa fr):=by intro B σ H α Z ρ Q s sl w;refine ha B σ H α Z ρ _ s sl (w.bind.imp fun x α1 Z1 H1 e1 s1 w1 v hv=> ?_);refine hr B σ H1 α1 Z1 ρ _ s1 (sl.Lp e1) (w1.bind.imp fun xs α2 Z2 H2 e2 s2 w2 vs RQ=> ?_);exact WS.now s2 w2 (v::vs) (.cons (hv.Lp e2) RQ)
theorem D1 {x:SV} {d:D} (r:Lm O K H α v x) (e:D7 x=some d):DV O K H v d:=by
 cases x with
 |fz d=>cases e;exact r
 |rf i=>cases e
 |tp l=>cases e
noncomputable def CF (f:List D->Option RV) (xs:List SV) (Z:bH):RS SV:=match a6 (sh Z) xs with
 |some ds=>(RS.IJ Z (f ds)).bind fun rv Z1=>lJ Z1 rv
 |_=>(RS.IJ Z (a6 (wF 6 Z) xs)).bind fun ds Z1=>(RS.IJ Z1 (f ds)).bind fun rv Z3=>tN Z3 rv
noncomputable def F5 (f:List D->Option RV) (fa:wE):cy:=fun ρ Z=>(fa ρ Z).bind fun xs Z1=>CF f xs Z1
theorem xI {r:List V->Hp->VK->Prop} {f:List D->Option RV} {ta:TA} {fa:wE} (hr:Ef K r f) (ha:E5 K E ta fa):gR K E (D8 r ta) (F5 f fa):=by
 intro B σ H α Z ρ Q s sl w;refine ha B σ H α Z ρ _ s sl (w.bind.imp fun xs α1 Z1 H1 e1 s1 w1 vs hv=> ?_);unfold CF at w1;cases q1:a6 (sh Z1) xs with
 |none=>rw[q1] at w1;obtain⟨ds,q2,w1⟩:=w1.IJ;obtain⟨rv,q3,w1⟩:=w1.IJ;exact hr Ox H1 vs ds rv Q yj (cM (R:=Lm (ow B α1 Z1) K H1 α1) (S:=DX Ox K H1) (fun v x y r e=>DV.x (jb s1 6 r e)) hv q2) q3 (Bx s1 w1)
 |some ds=>rw[q1] at w1;obtain⟨rv,q3,w1⟩:=w1.IJ;exact hr _ H1 vs ds rv Q s1.Ox (cM (R:=Lm (ow B α1 Z1) K H1 α1) (S:=DX (ow B α1 Z1) K H1) (fun v x y r e=>zr s1 r e) hv q1) q3 (BW s1 w1)
end
section
variable {B O O':aX} {K:Hf} {E:XK} {H H' H1 H2:Hp} {α α' α1 α2:List Hj} {Z Z' Z1 Z2:bH} {σ:L2.St} {ρ:bp} {v:V}
theorem wH {β:Type} {R:V->β->Prop}:∀{vs:List V} {xs:List β} {i:Nat} {x:β},Paired R vs xs->xs[i]? =some x->∃v,vs[i]? =some v/\R v x
 |_,_,_,_,.nil,e=>by simp at e
 |_,_,0,_,.cons h _,e=>by simp at e;subst e;exact⟨_,rfl,h⟩
 |_,_,i+1,x,.cons _ t,e=>by obtain⟨v,h1,h2⟩:=wH (i:=i) (x:=x) t (by simpa using e);exact⟨v,by simpa using h1,h2⟩
theorem tQ:∀{vs:List V} {l:List AV},Paired (RP O K H α) vs l->Mu O K H α vs (l.map AV.sv)
 |_,_,.nil=> .nil
 |_,_,.cons (b:=x) h t=> .cons (by cases x<;>exact h) (tQ t)
theorem S2.sub {c:Hg} {dx:Option Hj} {x:Xc} (h:∀b,O' b->O b) (k:S2 K O H c dx x):S2 K O' H c dx x:=by obtain⟨h1,fs,h2,h3⟩:=k;exact⟨h1,fs,h2,fun f d e=>let⟨g1,v,g2,g3⟩:=h3 f d e;⟨g1,v,g2,g3.ev (Ev.sub h)⟩⟩
noncomputable def uW {A:Type}:RS A->RS A
 | .er _ _=> .bad
 |r=>r
theorem WS.e0 {A:Type} {P:A->List Hj->bH->Hp->Prop} {r:RS A} (h:WS K E B H α Z P (uW r)):WS K E0 B H α Z P r:=by
 cases r with
 |ok a Z=>exact h
 |er x Z=>exact h.elim
 |bad=>exact h
abbrev pc:=List SV->bH->RS SV
noncomputable def wB (K:Hf) (n:Nat) (F:pc):Sp:=fun vs H Q E=>vs.length=n/\∃(B:aX) (α:List Hj) (Z:bH) (xs:List SV),Iu B K H α Z/\Mu (ow B α Z) K H α vs xs/\WS K E B H α Z (PQ B K Q) (F xs Z)
noncomputable def ur (F:pc) (n:Nat) (fa:wE):cy:=fun ρ Z=>(fa ρ Z).bind fun xs Z1=>if xs.length=n then uW (F xs Z1) else .bad
theorem wo {F:pc} {n:Nat} {ta:TA} {fa:wE} (ha:E5 K E ta fa):gR K E (lx (wB K n F) [] E0 ta) (ur F n fa):=by
 intro B σ H α Z ρ Q s sl w;refine ha B σ H α Z ρ _ s sl (w.bind.imp fun xs α1 Z1 H1 e1 s1 w1 vs hv=> ?_);rw[Iv];by_cases hn:xs.length=n
 ·rw[if_pos hn] at w1;exact⟨hv.length.trans hn,B,α1,Z1,xs,s1,hv,WS.e0 w1⟩
 ·rw[if_neg hn] at w1;exact w1.elim
noncomputable def eh (Z:bH):SV->Option (Nat×List SV)
 | .rf i=>match Z[i]? with
  |some (.lst xs)=>some (i,xs)
  |_=>none
 |_=>none
theorem nF {x:SV} {i:Nat} {xs:List SV} (s:Iu B K H α Z) (hv:Lm (ow B α Z) K H α v x) (h:eh Z x=some (i,xs)):Z[i]? =some (.lst xs)/\∃a vs,α[i]? =some a/\v= .ref a/\H a=some (.lst vs)/\Mu (ow B α Z) K H α vs xs:=by
 cases x with
 |fz d=>cases h
 |tp l=>cases h
 |rf j=>
  obtain⟨a,ha,rfl⟩:=hv;unfold eh at h;dsimp only at h;cases q:Z[j]? with
  |none=>rw[q] at h;cases h
  |some c=>
   rw[q] at h;cases c with
   |lst ys=>have e:=HJ h;cases e;obtain⟨vs,h1,h2⟩:=s.QH i a _ ha q;exact⟨q,a,vs,ha,rfl,h1,h2⟩
   |_=>cases h
theorem u7 {β:Type} {R:V->β->Prop} {vs:List V} {xs:List β} {v:V} {x:β} (h:Paired R vs xs) (r:R v x):Paired R (vs++[v]) (xs++[x]):=by
 induction h with
 |nil=>exact .cons r .nil
 |cons a _ ih=>exact .cons a ih
noncomputable def A1 (fo fe:cy):cy:=fun ρ Z=>(fo ρ Z).bind fun o Z1=>(RS.IJ Z1 (eh Z1 o)).bind fun _ Z1=>(fe ρ Z1).bind fun x Z2=>(RS.IJ Z2 (eh Z2 o)).bind fun p Z3=>
 if p.2.length<1000000 then .ok (.fz .none) (Z3.set p.1 (.lst (p.2++[x]))) else .bad
theorem AK {to te:TE} {fo fe:cy} (ho:gR K E to fo) (he:gR K E te fe):gR K E (E9 K "list" nO to (fy te l6)) (A1 fo fe):=by
 intro B σ H α Z ρ Q s sl w;refine ho B σ H α Z ρ _ s sl (w.bind.imp fun o α1 Z1 H1 e1 s1 w1 v hv=> ?_);obtain⟨⟨i0,xs0⟩,q0,w1⟩:=WS.IJ w1;obtain⟨_,a0,Ys,_,rfl,g0,_⟩:=nF s1 hv q0;refine⟨.inl ⟨rfl,Ys,Lk.of g0⟩,?_⟩;refine he B σ H1 α1 Z1 ρ _ s1 (sl.Lp e1) (w1.bind.imp fun x α2 Z2 H2 e2 s2 w2 u hu=> ?_);obtain⟨⟨i,xs⟩,q,w2⟩:=WS.IJ w2;obtain⟨qi,a,vs,ha,ea,g1,g2⟩:=nF s2 (hv.Lp e2) q;cases ea;dsimp only at w2;by_cases hn:xs.length<1000000
 ·rw[if_pos hn] at w2;have ev:Ev (ow B α2 Z2) H2 (ow B α2 Z2) (aY H2 a0 (.lst (vs++[u]))):=zC ha qi (by intro z;cases z);refine⟨a0,vs,u,rfl,rfl,g1,mJ (by rw[g2.length];exact hn),?_⟩;exact w2 α2 _ (Ko.put ha qi (by intro z;cases z) (by intro z;cases z)) (s2.put ha qi (by intro z;cases z) (by intro z;cases z) ⟨_,ar,u7 (Paired.Mi g2 fun _ _ r=>r.ev ev fun _ _ h=>h) (hu.ev ev fun _ _ h=>h)⟩) _ .JD
 ·rw[if_neg hn] at w2;exact w2.elim
end
inductive RD where
 |nx (ρ:bp)
 |bk (ρ:bp)
 |ct (ρ:bp)
 |rt (x:SV)
abbrev ef:=bp->bH->RS RD
abbrev uT:=SV->bp->bH->RS bp
abbrev rK:=List SV->bp->bH->RS bp
def qG (B:aX) (K:Hf) (D:Ends):RD->List Hj->bH->Hp->Prop
 | .nx ρ,α,Z,H=>∀σ,Ks (ow B α Z) K H α σ ρ->D.nx σ H
 | .bk ρ,α,Z,H=>∀σ,Ks (ow B α Z) K H α σ ρ->D.bk σ H
 | .ct ρ,α,Z,H=>∀σ,Ks (ow B α Z) K H α σ ρ->D.ct σ H
 | .rt x,α,Z,H=>∀v,Lm (ow B α Z) K H α v x->D.rt v H
def kl (K:Hf) (E:XK) (t:TS) (g:ef):Prop:=
 ∀(B:aX) (σ:L2.St) (H:Hp) (α:List Hj) (Z:bH) (ρ:bp) (D:Ends),Iu B K H α Z->Ks (ow B α Z) K H α σ ρ->WS K E B H α Z (qG B K D) (g ρ Z)->t D σ H
def EF (K:Hf) (E:XK) (g:TG) (f:uT):Prop:=
 ∀(B:aX) (σ:L2.St) (H:Hp) (α:List Hj) (Z:bH) (ρ:bp) (v:V) (x:SV) (Q:L2.St->Hp->Prop),Iu B K H α Z->Ks (ow B α Z) K H α σ ρ->Lm (ow B α Z) K H α v x->WS K E B H α Z (fun ρ' α' Z' H'=>∀σ',Ks (ow B α' Z') K H' α' σ' ρ'->Q σ' H') (f x ρ Z)->g v σ H Q
def Ab (K:Hf) (E:XK) (g:vX) (f:rK):Prop:=
 ∀(B:aX) (σ:L2.St) (H:Hp) (α:List Hj) (Z:bH) (ρ:bp) (vs:List V) (xs:List SV) (Q:L2.St->Hp->Prop),Iu B K H α Z->Ks (ow B α Z) K H α σ ρ->Mu (ow B α Z) K H α vs xs->WS K E B H α Z (fun ρ' α' Z' H'=>∀σ',Ks (ow B α' Z') K H' α' σ' ρ'->Q σ' H') (f xs ρ Z)->g vs σ H Q
section
variable {B O O':aX} {K:Hf} {E:XK} {H H' H1 H2:Hp} {α α' α1 α2:List Hj} {Z Z' Z1 Z2:bH} {σ:L2.St} {ρ:bp} {v:V}
theorem Ks.set {i:Nat} {x:SV} (sl:Ks O K H α σ ρ) (h:Lm O K H α v x):Ks O K H α (σ.set i (some v)) (ρ.set i (some x)):=by
 refine⟨by rw[IZ,IZ];exact sl.1,fun j y hy=> ?_⟩;rcases bG hy with⟨rfl,e⟩|⟨LS,Zp⟩
 ·cases e;refine⟨v,?_,h⟩;rw[JE];have:=oh hy;rw[sl.1];exact this
 ·obtain⟨u,h1,h2⟩:=sl.2 j y Zp;exact⟨u,by rw[JR (fun z=>LS z.symm)];exact h1,h2⟩
noncomputable def jh (i:Nat):uT:=fun x ρ Z=> .ok (ρ.set i (some x)) Z
theorem dA {i:Nat}:EF K E (mi i) (jh i):=fun B σ H α Z ρ v x Q s sl h w=>WS.now s w _ (sl.set h)
noncomputable def DD:rK:=fun xs ρ Z=>match xs with
 |[]=> .ok ρ Z
 |_=> .bad
noncomputable def yT (f:uT) (g:rK):rK:=fun xs ρ Z=>match xs with
 |x::r=>(f x ρ Z).bind fun ρ1 Z1=>g r ρ1 Z1
 |[]=> .bad
theorem Bg:Ab K E DN DD:=by
 intro B σ H α Z ρ vs xs Q s sl h w;cases h with
 |nil=>exact⟨rfl,WS.now s w _ sl⟩
 |cons _ _=>exact w.elim
theorem yL {t:TG} {u:vX} {f:uT} {g:rK} (h1:EF K E t f) (h2:Ab K E u g):Ab K E (yp t u) (yT f g):=by
 intro B σ H α Z ρ vs xs Q s sl h w;cases h with
 |nil=>exact w.elim
 |cons a b=>refine⟨_,_,rfl,h1 B σ H α Z ρ _ _ _ s sl a (WS.imp (WS.bind w) fun ρ1 α1 Z1 H1 e1 s1 w1 σ1 SU=> ?_)⟩;exact h2 B σ1 H1 α1 Z1 ρ1 _ _ _ s1 SU (Mu.Lp e1 b) w1
noncomputable def x5:SV->Option (List SV)
 | .fz (.tuple ds)=>some (ds.map .fz)
 | .tp l=>some (l.map AV.sv)
 |_=>none
theorem Cm {x:SV} {xs:List SV} (h:Lm O K H α v x) (e:x5 x=some xs):∃a vs,v= .ref a/\Mp O K H a vs/\Mu O K H α vs xs:=by
 unfold x5 at e;split at e
 ·cases e
  cases h with
  |tup h hs=>exact⟨_,_,rfl,h,oQ _ _ hs⟩
 ·cases e;obtain⟨a,ys,rfl,h1,h2⟩:=h;exact⟨a,ys,rfl,h1,tQ h2⟩
 ·cases e
noncomputable def GL (n:Nat) (f:rK):uT:=fun x ρ Z=>(RS.IJ Z (x5 x)).bind fun xs Z1=>if xs.length=n then f xs ρ Z1 else .bad
theorem zR {n:Nat} {t:vX} {f:rK} (h:Ab K E t f):EF K E (Cy K n t) (GL n f):=by
 intro B σ H α Z ρ v x Q s sl hv w;obtain⟨xs,q,w⟩:=WS.IJ w;obtain⟨a,vs,rfl,h1,h2⟩:=Cm hv q;by_cases hn:xs.length=n
 ·rw[if_pos hn] at w;exact⟨a,vs,rfl,h1.1,h2.length.trans hn,h B σ H α Z ρ vs xs Q s sl h2 w⟩
 ·rw[if_neg hn] at w;exact w.elim
noncomputable def fC:ef:=fun ρ Z=> .ok (.nx ρ) Z
noncomputable def bC (f g:ef):ef:=fun ρ Z=>(f ρ Z).bind fun fl Z1=>match fl with
 | .nx ρ1=>g ρ1 Z1
 |fl=> .ok fl Z1
noncomputable def mM (f:cy):ef:=fun ρ Z=>(f ρ Z).bind fun _ Z1=> .ok (.nx ρ) Z1
noncomputable def fA (f:cy) (g:uT):ef:=fun ρ Z=>(f ρ Z).bind fun x Z1=>(g x ρ Z1).bind fun ρ1 Z2=> .ok (.nx ρ1) Z2
noncomputable def fu (c:oj) (f g:ef):ef:=fun ρ Z=>(c ρ Z).bind fun b Z1=>if b=true then f ρ Z1 else g ρ Z1
noncomputable def ly (f:cy):ef:=fun ρ Z=>(f ρ Z).bind fun x Z1=> .ok (.rt x) Z1
noncomputable def Ey:ef:=fun _ _=> .bad
theorem lP:kl K E u6 fC:=fun B σ H α Z ρ D s sl w=>WS.now s w σ sl
theorem ml:kl K E wT Ey:=fun B σ H α Z ρ D s sl w=>w.elim
theorem bf {t u:TS} {f g:ef} (h1:kl K E t f) (h2:kl K E u g):kl K E (AH t u) (bC f g):=by
 intro B σ H α Z ρ D s sl w;refine h1 B σ H α Z ρ {D with nx:=u D} s sl (WS.imp (WS.bind w) fun fl α1 Z1 H1 e1 s1 w1=> ?_);cases fl with
 |nx ρ1=>exact fun σ1 SU=>h2 B σ1 H1 α1 Z1 ρ1 D s1 SU w1
 |rt x=>exact WS.now (E:=E) s1 w1
 |bk ρ1=>exact WS.now (E:=E) s1 w1
 |ct ρ1=>exact WS.now (E:=E) s1 w1
theorem zl {t:TE} {f:cy} (h:gR K E t f):kl K E (qU t) (mM f):=by intro B σ H α Z ρ D s sl w;exact h B σ H α Z ρ _ s sl (WS.imp (WS.bind w) fun x α1 Z1 H1 e1 s1 w1 v hv=>WS.now s1 w1 σ (sl.Lp e1))
theorem iC {t:TE} {f:cy} {g:TG} {fg:uT} (h:gR K E t f) (hg:EF K E g fg):kl K E (xT t g) (fA f fg):=by intro B σ H α Z ρ D s sl w;refine h B σ H α Z ρ _ s sl (WS.imp (WS.bind w) fun x α1 Z1 H1 e1 s1 w1 v hv=> ?_);exact hg B σ H1 α1 Z1 ρ v x _ s1 (sl.Lp e1) hv (WS.imp (WS.bind w1) fun ρ1 α2 Z2 H2 e2 s2 w2 σ2 Ob=>WS.now s2 w2 σ2 Ob)
theorem sF {c:TT} {fc:oj} {t u:TS} {f g:ef} (hc:BK K E c fc) (h1:kl K E t f) (h2:kl K E u g):kl K E (z8 c t u) (fu fc f g):=by
 intro B σ H α Z ρ D s sl w;refine hc B σ H α Z ρ _ s sl (WS.imp (WS.bind w) fun b α1 Z1 H1 e1 s1 w1=> ?_);cases b with
 |true=>exact h1 B σ H1 α1 Z1 ρ D s1 (sl.Lp e1) w1
 |false=>exact h2 B σ H1 α1 Z1 ρ D s1 (sl.Lp e1) w1
theorem iE {t:TE} {f:cy} (h:gR K E t f):kl K E (Ah t) (ly f):=by intro B σ H α Z ρ D s sl w;exact h B σ H α Z ρ _ s sl (WS.imp (WS.bind w) fun x α1 Z1 H1 e1 s1 w1 v hv=>WS.now s1 w1 v hv)
noncomputable def l0 (i:Nat) (f:D->D->Option RV) (fe:cy):ef:=fun ρ Z=>(ci i ρ Z).bind fun x Z1=>(fe ρ Z1).bind fun y Z2=>(vV f x y Z2).bind fun z Z3=> .ok (.nx (ρ.set i (some z))) Z3
theorem mZ {i:Nat} {r:R2} {f:D->D->Option RV} {te:TE} {fe:cy} (hr:jg K r f) (he:gR K E te fe):kl K E (Fe i te r) (l0 i f fe):=by
 intro B σ H α Z ρ D s sl w;unfold l0 ci at w;cases q:ρ[i]? with
 |none=>rw[q] at w;exact w.elim
 |some o=>
  cases o with
  |none=>rw[q] at w;exact w.elim
  |some x=>rw[q] at w;obtain⟨v,h1,h2⟩:=sl.2 i x q;refine⟨v,h1,he B σ H α Z ρ _ s sl (WS.imp (WS.bind w) fun y α1 Z1 H1 e1 s1 w1 u hu=> ?_)⟩;exact CV hr s1 (h2.Lp e1) hu (WS.imp (WS.bind w1) fun z α2 Z2 H2 e2 s2 w2 t ht=>WS.now s2 w2 _ ((sl.Lp (e1.trans e2)).set ht))
abbrev EU:=bp->bH->RS (List D)
def G0 (K:Hf) (E:XK) (wi:TI) (fi:EU):Prop:=
 ∀(B:aX) (σ:L2.St) (H:Hp) (α:List Hj) (Z:bH) (ρ:bp) (R':It->Hp->Prop),Iu B K H α Z->Ks (ow B α Z) K H α σ ρ->WS K E B H α Z (fun ds α' Z' H'=>∀J,vD K J (ow B α' Z') H' ds->R' J H') (fi ρ Z)->wi σ H R'
noncomputable def gA (f:FI):EU:=fun ρ Z=>match f (cA ρ) with
 | .ok (ds,_)=> .ok ds Z
 | .er x=> .er x Z
 | .bad=> .bad
theorem iV {wi:TI} {f:FI} (h:IO K E wi f):G0 K E wi (gA f):=by
 intro B σ H α Z ρ R' s sl w;refine h (ow B α Z) H (ow B α Z) σ H (cA ρ) R' (zb s sl) ?_;unfold gA at w;cases q:f (cA ρ) with
 |bad=>rw[q] at w;exact w.elim
 |er x=>rw[q] at w;exact fun c dx H' e k=>w c dx α H' (Ko.same e) (s.grow e) k
 |ok r=>obtain⟨ds,ρ'⟩:=r;rw[q] at w;exact fun O' J H' e R it=>w α H' (Ko.same R.same) (s.grow R.same) J fun O2 H2 e2 n=>it O2 H2 (fun b o h z=>e2 b o h fun y=>z (R.bo b y)) n
noncomputable def hX (gt:uT) (b:ef):List D->ef
 |[],ρ,Z=> .ok (.nx ρ) Z
 |d::r,ρ,Z=>(gt (.fz d) ρ Z).bind fun ρ1 Z1=>(b ρ1 Z1).bind fun fl Z2=>match fl with
  | .nx ρ2=>hX gt b r ρ2 Z2
  | .ct ρ2=>hX gt b r ρ2 Z2
  | .bk ρ2=> .ok (.nx ρ2) Z2
  | .rt x=> .ok (.rt x) Z2
noncomputable def kR (fi:EU) (gt:uT) (b:ef):ef:=fun ρ Z=>(fi ρ Z).bind fun ds Z1=>hX gt b ds ρ Z1
theorem kn {wi:TI} {fi:EU} {g:TG} {gt:uT} {tb:TS} {b:ef} (hi:G0 K E wi fi) (hg:EF K E g gt) (hb:kl K E tb b):kl K E (D4 wi g tb) (kR fi gt b):=by
 intro B σ H α Z ρ D s sl w;refine hi B σ H α Z ρ _ s sl (WS.imp (WS.bind w) fun ds α1 Z1 H1 e1 s1 w1 J it=> ?_);refine⟨fun i m σ' H'=>m=ds.length - i/\i<=ds.length/\∃α2 Z2 ρ2,Ko α1 Z1 H1 α2 Z2 H'/\Iu B K H' α2 Z2/\Ks (ow B α2 Z2) K H' α2 σ' ρ2/\WS K E B H' α2 Z2 (qG B K D) (hX gt b (ds.drop i) ρ2 Z2),⟨_,rfl,Jq _,α1,Z1,ρ,.refl,s1,sl.Lp e1,w1⟩,?_⟩;rintro i m σ2 H2 ⟨rfl,hi,α2,Z2,ρ2,e2,s2,Ob,w2⟩;obtain⟨go,stop⟩:=it (ow B α2 Z2) H2 e2.ev s2.Ox;by_cases NA:i<ds.length
 ·obtain⟨g1,g2⟩:=go i NA
  refine .inr ⟨g1,fun σ' H'=>i+1<=ds.length/\∃α2 Z2 ρ2,Ko α1 Z1 H1 α2 Z2 H'/\Iu B K H' α2 Z2/\Ks (ow B α2 Z2) K H' α2 σ' ρ2/\WS K E B H' α2 Z2 (qG B K D) (hX gt b (ds.drop (i+1)) ρ2 Z2),fun σ' H' ⟨h1,h2⟩=>⟨ds.length - (i+1),by omega,rfl,h1,h2⟩,fun x H3 y=> ?_⟩;obtain⟨s3,d,hd,dv⟩:=g2 x H3 y;have ed:ds.drop i=d::ds.drop (i+1):=by obtain⟨_,q⟩:=Hm.mp hd;rw[Ju NA,q]
  rw[ed] at w2;have e3:Ko α2 Z2 H2 α2 Z2 H3:=Ko.same s3;refine hg B σ2 H3 α2 Z2 ρ2 x (.fz d) _ (s2.grow s3) (Ob.Lp e3) dv (WS.imp (WS.bind (WS.from e3 w2)) fun ρ3 α4 Z4 H4 e4 s4 w3 σ4 sl4=> ?_);refine hb B σ4 H4 α4 Z4 ρ3 _ s4 sl4 (WS.imp (WS.bind w3) fun fl α5 Z5 H5 e5 s5 w4=> ?_);have Up:Ko α1 Z1 H1 α5 Z5 H5:=e2.trans (e3.trans (e4.trans e5));cases fl with
  |nx ρ5=>exact fun σ5 SS=>⟨NA,α5,Z5,ρ5,Up,s5,SS,w4⟩
  |ct ρ5=>exact fun σ5 SS=>⟨NA,α5,Z5,ρ5,Up,s5,SS,w4⟩
  |bk ρ5=>exact WS.now (E:=E) s5 w4
  |rt x=>exact WS.now (E:=E) s5 w4
 ·have e:i=ds.length:=by omega
  subst e;rw[JF (Ho _)] at w2;exact .inl ⟨stop,WS.now (E:=E) s2 w2 σ2 Ob⟩
noncomputable def l8 (c:oj) (b:ef):Nat->ef
 |0,_,_=> .bad
 |n+1,ρ,Z=>(c ρ Z).bind fun k Z1=>if k=true then(b ρ Z1).bind fun fl Z2=>match fl with
  | .nx ρ2=>l8 c b n ρ2 Z2
  | .ct ρ2=>l8 c b n ρ2 Z2
  | .bk ρ2=> .ok (.nx ρ2) Z2
  | .rt x=> .ok (.rt x) Z2 else .ok (.nx ρ) Z1
noncomputable def xp (c:oj) (b:ef):ef:=l8 c b 1000000
theorem mr {c:TT} {fc:oj} {tb:TS} {b:ef} (hc:BK K E c fc) (hb:kl K E tb b):kl K E (xG c tb) (xp fc b):=by
 intro B σ H α Z ρ D s sl w;refine⟨fun m σ' H'=>∃α2 Z2 ρ2,Ko α Z H α2 Z2 H'/\Iu B K H' α2 Z2/\Ks (ow B α2 Z2) K H' α2 σ' ρ2/\WS K E B H' α2 Z2 (qG B K D) (l8 fc b m ρ2 Z2),⟨_,α,Z,ρ,.refl,s,sl,w⟩,?_⟩;rintro m σ2 H2 ⟨α2,Z2,ρ2,e2,s2,Ob,w2⟩;cases m with
 |zero=>exact w2.elim
 |succ m=>
  refine hc B σ2 H2 α2 Z2 ρ2 _ s2 Ob (WS.imp (WS.bind w2) fun k α3 Z3 H3 e3 s3 w3=> ?_);cases k with
  |true=>
   rw[if_pos rfl] at w3⊢;refine⟨fun σ' H'=>∃α2 Z2 ρ2,Ko α Z H α2 Z2 H'/\Iu B K H' α2 Z2/\Ks (ow B α2 Z2) K H' α2 σ' ρ2/\WS K E B H' α2 Z2 (qG B K D) (l8 fc b m ρ2 Z2),fun σ' H' q=>⟨m,MY m,q⟩,?_⟩;refine hb B σ2 H3 α3 Z3 ρ2 _ s3 (Ob.Lp e3) (WS.imp (WS.bind w3) fun fl α5 Z5 H5 e5 s5 w4=> ?_);have Up:=e2.trans (e3.trans e5);cases fl with
   |nx ρ5=>exact fun σ5 SS=>⟨α5,Z5,ρ5,Up,s5,SS,w4⟩
   |ct ρ5=>exact fun σ5 SS=>⟨α5,Z5,ρ5,Up,s5,SS,w4⟩
   |bk ρ5=>exact WS.now (E:=E) s5 w4
   |rt x=>exact WS.now (E:=E) s5 w4
  |false=>rw[if_neg Hu] at w3⊢;exact WS.now (E:=E) s3 w3 σ2 (Ob.Lp e3)
end
section
variable {B O O':aX} {K:Hf} {E:XK} {H H' H1 H2:Hp} {α α' α1 α2:List Hj} {Z Z' Z1 Z2:bH} {σ:L2.St} {ρ:bp} {v:V}
theorem yz {p:Hj} {c:Cell} (hl:α.length=Z.length) (hc:c≠ .dead):ow (bX B p) α Z=ow B (α++[p]) (Z++[c]):=by
 funext b;refine propext ⟨fun z=> ?_,fun z=> ?_⟩
 ·rcases z with(z|z)|⟨i,d,h1,h2,h3⟩
  ·exact .inl z
  ·exact .inr ⟨α.length,c,by rw[z];exact db,by rw[hl];exact db,hc⟩
  ·exact .inr ⟨i,d,eW h1,eW h2,h3⟩
 ·rcases z with z|z
  ·exact .inl (.inl z)
  ·rcases oG hl z with z|z
   ·exact .inr z
   ·exact .inl (.inr z)
theorem Iu.hide {p:Hj} {o:HO} (s:Iu B K H α Z) (hp:H p=none):Iu (bX B p) K (aY H p o) α Z:=by have sm:IX H (aY H p o):=bq hp o;have g:=s.grow sm;have ev:Ev (ow B α Z) H (ow (bX B p) α Z) (aY H p o):=fun b u h n=>⟨sm b u h,fun z=>z.elim (fun z=>z.elim (fun z=>n (.inl z)) fun z=>by rw[z,hp] at h;cases h) fun z=>n (.inr z)⟩;refine⟨g.len,g.nd,fun a h=>h.elim (g.bn a) fun e=>by rw[e,ar];simp,fun a h i q=>h.elim (fun h=>g.ba a h i q) fun e=>by rw[e] at q;exact s.al i p q hp,g.al,fun i a c h1 h2=> ?_⟩;exact(s.QH i a c h1 h2).ev ev (fun _ _ h=>h) fun o q=>sm _ _ q
theorem Iu.WU {p:Hj} {o o':HO} (s:Iu (bX B p) K H α Z) (hp:H p=some o):Iu (bX B p) K (aY H p o') α Z:=by
 have ev:Ev (ow (bX B p) α Z) H (ow (bX B p) α Z) (aY H p o'):=Ev.mut (.inl (.inr rfl)) o';have n:∀b,H b≠none->aY H p o' b≠none:=fun b h=>by
  by_cases z:b=p
  ·subst z;rw[ar];simp
  ·rw[aj z];exact h
 refine⟨s.len,s.nd,fun a h=>n a (s.bn a h),s.ba,fun i a h=>n a (s.al i a h),fun i a c h1 h2=>(s.QH i a c h1 h2).ev ev (fun _ _ h=>h) fun u q=> ?_⟩;have:a≠p:=fun z=>s.ba p (.inr rfl) i (by rw[<-z];exact h1);rw[aj this];exact q
theorem Ko.dd {p:Hj} {o:HO} (e:Ko α1 Z1 H1 α Z H) (hp:H1 p=none):Ko α1 Z1 H1 α Z (aY H p o):=⟨e.pre,fun b u h n=>by rw[aj (b7 h hp)];exact e.kp b u h n,e.lv⟩
noncomputable def j4 (N:Nat) (g:ef):pc:=fun xs Z=>(g (xs.map some++Hl (N - xs.length) none) Z).bind fun fl Z1=>match fl with
 | .rt x=> .ok x Z1
 | .nx _=> .ok (.fz .none) Z1
 |_=> .bad
theorem x9 {N:List Str} {vs:List V} {xs:List SV} (h:Mu O K H α vs xs):Ks O K H α (L2.start N vs) (xs.map some++Hl (N.length - xs.length) none):=by
 have hl:vs.length=xs.length:=Paired.length h;unfold L2.start;refine⟨by rw[Hn,Hn,Hk,Hk,HE,HE,hl],fun i x hx=> ?_⟩;by_cases hi:i<xs.length
 ·rw[Io (by rw[Hk];exact hi),Hv] at hx
  cases q:xs[i]? with
  |none=>rw[q] at hx;cases hx
  |some d=>rw[q] at hx;cases hx;obtain⟨v,hv,h2⟩:=wH h q;refine⟨v,?_,h2⟩;rw[Io (by rw[Hk,hl];exact hi),Hv,hv];rfl
 ·rw[IK (by rw[Hk];omega),Kb] at hx;split at hx<;>cases hx
theorem zE {N:List Str} {vs:List V} {xs:List SV} {g:ef} {t:TS} {Q:VK} {n:Nat} (hs:kl K E t g) (h:wB K n (j4 N.length g) vs H Q E):t {nx:=fun _ H'=>Q .JD H',rt:=Q} (L2.start N vs) H:=by
 obtain⟨hl,B,α,Z,xs,s,hv,w⟩:=h;refine hs B _ H α Z _ _ s (x9 hv) (WS.imp (WS.bind w) fun fl α1 Z1 H1 e1 s1 w1=> ?_);cases fl with
 |rt x=>exact WS.now (E:=E) s1 w1
 |nx ρ=>exact fun σ sl=>WS.now (E:=E) s1 w1 .JD .JD
 |bk ρ=>exact w1.elim
 |ct ρ=>exact w1.elim
end
theorem G4 {P:Hy} {w:HU} {K:Hf} {mg:Str->Option Hg} {base:Heap} {x qual:Str} {st:Js} {f:Hj} {fd:IB} {N ps:List Str} {k n m:Nat} {g:ef} {FF:pc} (F:Lc K x qual st f fd) (S:JJ N ps (aq st)) (hn:ps.length=n) (hm:N.length=m) (hF:FF=j4 m g)
  (KN:∀(Jr:Hg) (A:HM) (outer:List Env) (s:Hi) (H:Hp) (E:XK),JW k (A.deeper (Ii qual (aq st) s.heap.objs.size f Jr))->
   ∃t,MS (dH ez P w K mg base N qual (aq st) f Jr A outer s H E).Q6 (bQ st) t/\kl K E t g):FnOk P w K mg base ez (k+1) f fd ps (wB K n FF):=by
 subst hF hm;refine F.ok S (fun vs H Q E h=>h.1.trans hn.symm) (fun Jr A outer s H vs Q E hr h=> ?_);obtain⟨t,ht,hs⟩:=KN Jr A outer s H E hr;exact⟨t,ht,zE (xs:=[]) hs h⟩
theorem GH {P:Hy} {w:HU} {K:Hf} {mg:Str->Option Hg} {base:Heap} {x qual:Str} {st:Js} {f:Hj} {fd:IB} {N ps:List Str} {k n m:Nat} {g:ef} {FF:pc} (F:Lc K x qual st f fd) (S:JJ N ps (aq st)) (hn:ps.length=n) (hm:N.length=m) (hF:FF=j4 m g)
  (KN:∀(Jr:Hg) (A:HM) (outer:List Env) (s:Hi) (H:Hp) (E:XK),JW k (A.deeper (Ii qual (aq st) s.heap.objs.size f Jr))->
   ∃t,MS (dH (L4.pz P w) P w K mg base N qual (aq st) f Jr A outer s H E) (bQ st) t/\kl K E t g):FnOk P w K mg base (L4.pz P w) (k+1) f fd ps (wB K n FF):=by
 subst hF hm;obtain⟨oc,od,kV,doc,pm,an,Jr,ct,QW,rfl,lk,Pm⟩:=F.ex;refine Cd lk Pm S (fun vs H Q E h=>h.1.trans hn.symm) fun A outer s H vs Q E hr Q5=> ?_;obtain⟨t,ht,hs⟩:=KN Jr A outer s H E hr;exact⟨t,ht,zE (xs:=[]) hs Q5⟩
noncomputable abbrev Gm (P:Hy) (w:HU) (K:Hf) (mg:Str->Option Hg) (base:Heap) (k:Nat) (x:Str) (ps:List Str) (n:Nat) (F:pc):Prop:=mE P w K mg base k x ps (wB K n F)
end L10
namespace PySem.W
open PySem PySem.Calls PyProof.Rows PyProof.V PySem.Spec
end PySem.W
namespace PyProof.Rows
open PySem
end PyProof.Rows
namespace L10
open PySem PySem.Spec PyProof.Rows L2 L3
end L10
namespace PySem
open Sem (wp)
namespace F
theorem lk_tuple_keys:typeLookup (.type "tuple") "keys"=pure none:=by rw[K2,JS];kernel_rfl
theorem lk_tuple_hook:typeLookup (.type "tuple") "__getattr__"=pure none:=by rw[K2,JS];kernel_rfl
theorem sub_ae:isSubtype (.type "AttributeError") (.type "AttributeError")=pure true:=by rw[Wc];kernel_rfl
end F
section
variable {prog:Hy} {w:HU} {A:HM} {E:Hg->Hi->Prop} {h:Heap} {g:Array LI} {d:P7} {t:Nat} {os:Oq} {a:Hj} {o:Obj}
theorem sG {α:Type} {name msg:Str} {Q:α->Hi->Prop} {E:Hg->Hi->Prop} (hm:msg.length<=Ht) (hh:A.handled=none) (hq:∀e h' t',(∀b o,h.get? b=some o->h'.get? b=some o)->(⟨h',g,d,t',os⟩:Hi).TypeIs e "AttributeError"->E e ⟨h',g,d,t',os⟩):
  wpAny (model prog w) A (raiseAttrError (.ref a) name msg:Sem α) Q E ⟨h,g,d,t,os⟩:=by
 have Te:¬msg.length>Ht:=Nat.not_lt.mpr hm;unfold raiseAttrError newExc newTuple
 repeat (any_goals (first|assumption|wp_step))
 refine wpAny_of_eq (a:=true) F.sub_ae ?_
 repeat (any_goals (first|assumption|wp_step))
 refine Rx hh (hq _ _ _ (fun b o e=> ?_) ?_)
 ·exact(Heap.get?_update_other _ _ (Ne.symm (HK (Heap.lt_size (Heap.get?_push_of_some _ e))))).trans (Heap.get?_push_of_some _ (Heap.get?_push_of_some _ e))
 ·exact⟨_,Heap.get?_update_self _ (Heap.get?_push_size _ rfl) rfl,rfl⟩
theorem jq {tk:Tok} {Q:Fin->Hi->Prop} {E:Hg->Hi->Prop} {HW:Array Hg} {n:Nat} {sl:Array (Option Hg)} (hx:h.get? a=some ⟨.type "tuple",none,.seq HW n,sl⟩) (hh:A.handled=none) (hq:∀e h' t',(∀b o,h.get? b=some o->h'.get? b=some o)->(⟨h',g,d,t',os⟩:Hi).TypeIs e "AttributeError"->E e ⟨h',g,d,t',os⟩):
  wpAny (model prog w) A (Builtin.«object.__getattribute__» ⟨[.ref a,.str "keys" tk],[]⟩) Q E ⟨h,g,d,t,os⟩:=by
 have hT:(⟨h,g,d,t,os⟩:Hi).TypeIs (.ref a) "tuple":=⟨_,hx,rfl⟩;have f4:=F.lk_tuple_keys
 repeat (any_goals (first|assumption|wp_step))
 exact sG (by decide+kernel) hh hq
theorem l4 {tk:Tok} {Q:Hg->Hi->Prop} {E:Hg->Hi->Prop} {HW:Array Hg} {n:Nat} {sl:Array (Option Hg)} (hx:h.get? a=some ⟨.type "tuple",none,.seq HW n,sl⟩) (hh:A.handled=none) (hq:∀e h' t',(∀b o,h.get? b=some o->h'.get? b=some o)->(⟨h',g,d,t',os⟩:Hi).TypeIs e "AttributeError"->E e ⟨h',g,d,t',os⟩):
  wpAny (model prog w) A (getAttrBy (.ref a) (.str "keys" tk) false) Q E ⟨h,g,d,t,os⟩:=by
 have hT:(⟨h,g,d,t,os⟩:Hi).TypeIs (.ref a) "tuple":=⟨_,hx,rfl⟩;have f2:=F.slot_tuple_getattribute.lookup;have f3:=F.slot_tuple_getattribute.bind (.ref a);have f4:=F.lk_tuple_hook
 repeat (any_goals (first|assumption|wp_step))
 refine J0 F.slot_tuple_getattribute.plain F.entry_tuple_ga (F.slot_tuple_getattribute.check _ _ _ _ _ _ _ _ hT (F.args_tuple_getattribute_2 _ _) (jq hx hh fun e h' t' hk he=> ?_));have fs:=F.sub_ae;show wpAny (model prog w) A (getattributeRaised (Hg.ref a) (Hg.str (Str.ofString "keys") tk) (Hg.type "tuple") e none false false) Q E _;unfold getattributeRaised;refine Hh (TM he fs ?_)
 repeat (any_goals (first|assumption|wp_step))
 exact hq e h' t' hk he
theorem jU {Q:Option Hg->Hi->Prop} {HW:Array Hg} {n:Nat} {sl:Array (Option Hg)} (hx:h.get? a=some ⟨.type "tuple",none,.seq HW n,sl⟩) (hh:A.handled=none) (hq:∀h' t',(∀b o,h.get? b=some o->h'.get? b=some o)->Q none ⟨h',g,d,t',os⟩):
  wpAny (model prog w) A (getAttr? (.ref a) "keys") Q E ⟨h,g,d,t,os⟩:=by
 unfold getAttr? getAttrBy?;have fs:=F.sub_ae;refine Hh ?_
 repeat (any_goals (first|assumption|(with_reducible refine l4 hx hh fun e h' t' hk he=> ?_)|wp_step))
 exact hq h' t' hk
namespace F
theorem entry_upd_loop:entryFor table "dict.update.loop"=some Builtin.«dict.update.loop»:=entryFor_of_tree (by kernel_rfl)
theorem plain_upd_loop:plainId "dict.update.loop"=true:=by decide+kernel
end F
end
section
variable {prog:Hy} {w:HU} {A:HM} {E:Hg->Hi->Prop} {s:Hi} {K:Type} [DecidableEq K] {knd:KeyKind prog w K} {I dd ax:Hj} {items:Array Hg} {ks:List (K×Hg)} {R:NN->Hi->Prop}
theorem rE (kvs:List (K×Hg)) (k:K) (v:Hg):(stored kvs k v).length<=kvs.length+1:=by
 unfold stored;split
 ·rw[Hk];omega
 ·rw[Hn];exact Ho _
theorem jJ:∀(more kvs:List (K×Hg)),(merged kvs more).length<=kvs.length+more.length
 |[],kvs=>Ho _
 |p::r,kvs=>by have h1:=jJ r (stored kvs p.1 p.2);have h2:=rE kvs p.1 p.2;show(merged (stored kvs p.1 p.2) r).length<=_;rw[HP];omega
theorem tq (more:List (K×Hg)):(merged [] more).length<=more.length:=by have:=jJ more [];simpa using this
theorem zc {h0:Heap} (hh:A.handled=none) (LS:ax≠I) (hI:I≠dd) (Zh:ax≠dd) (hp:∀(i:Nat) (v:Hg),items[i]? =some v->∃q key k x,v= .ref q/\q≠dd/\q≠I/\ks[i]? =some (k,x)/\knd.is k key=true/\h0.IsTuple q #[key,x]) (hs:ks.length=items.size) (hz:items.size<=Ht)
  (hR:∀h' tk,h'.DictOf knd dd (merged [] ks)->(∀b o,b≠dd->b≠I->h0.get? b=some o->h'.get? b=some o)->R (.ok (.ret .none)) {s with heap:=h',toks:=tk}):
  ∀(m i:Nat) (h:Heap) (tk:Nat),items.size - i=m->i<=items.size->h.IsTupleIter I ax i->h.IsTuple ax items->h.DictOf knd dd (merged [] (ks.take i))->(∀b o,b≠dd->b≠I->h0.get? b=some o->h.get? b=some o)->
   codeAny (model prog w) A (.builtin "dict.update.loop" ⟨[.ref dd,.ref I,rawInt i,.none],[]⟩) R {s with heap:=h,toks:=tk}:=by
 have W:=V2.tuple (prog:=prog) (w:=w) (A:=A.in1) hh I ax LS items;intro m
 induction m with
 |zero=>
  intro i h tk hm hi it tu dt kp;have e:i=items.size:=by omega
  subst e;refine U8 F.entry_upd_loop ?_;rw[HM.under_plainId F.plain_upd_loop _];show wpAny _ A.in1 (pyNext (.ref I)>>=_) _ _ _;refine Hh (W.done _ _ _ ⟨it,tu⟩ fun h' Ra hk=> ?_);rw[JG (by omega)] at dt;show wpAny _ A.in1 (Builtin.Dict.addKeywords dd []>>=fun _=>ret .none) _ _ _;refine Hh (Hq (Hq ?_));refine hR h' Ra (dt.at fun o e=>hk dd o (by simp;exact fun z=>hI z.symm) e) fun b o h1 h2 e=>hk b o (by simp;exact h2) (kp b o h1 h2 e)
 |succ m ih=>
  intro i h tk hm hi it tu dt kp;have NA:i<items.size:=by omega
  refine U8 F.entry_upd_loop ?_;rw[HM.under_plainId F.plain_upd_loop _];show wpAny _ A.in1 (pyNext (.ref I)>>=_) _ _ _;refine Hh (W.item i _ _ _ NA ⟨it,tu⟩ fun v h' Ra hv st hk=> ?_);obtain⟨q,key,k,x,rfl,hq1,Yo,hk1,LG,ht⟩:=hp i v hv;have ht':h'.IsTuple q #[key,x]:=ht.at fun o e=>hk q o (by simp;exact Yo) (kp q o hq1 Yo e);have dt':h'.DictOf knd dd (merged [] (ks.take i)):=dt.at fun o e=>hk dd o (by simp;exact fun z=>hI z.symm) e;have kp':∀b o,b≠dd->b≠I->h0.get? b=some o->h'.get? b=some o:=fun b o h1 h2 e=>hk b o (by simp;exact h2) (kp b o h1 h2 e);obtain⟨oq,Yd,hcq,nq,ZV⟩:=ht';obtain⟨cq,dq,dtq,slq⟩:=oq;cases hcq;cases ZV;have hT:({s with heap:=h',toks:=Ra}:Hi).TypeIs (.ref q) "tuple":=⟨_,Yd,rfl⟩;refine Hh (JA (Hh ?_));refine wpAny_tryCatch ?_;unfold Builtin.Dict.pairItems;refine Hh (J6 hT ?_);rw[if_pos (by decide)];refine Hh ?_;unfold seqItems?;refine Hh (wpAny_load Yd (Hq (Hq ?_)));show wpAny _ A.in1 (holding [key,x] (dictSet dd key x)) _ _ _;refine JA (wpAny_dictSet_pairs LG dt' (fun h2 d2 s2=> ?_) ?_)
  ·refine Hq ⟨Pw F.plain_upd_loop _,?_⟩;have e2:∀b o,b≠dd->h'.get? b=some o->h2.get? b=some o:=fun b o hb e=>(s2.2 b hb).trans e;refine ih (i+1) h2 (Ra+1) (by omega) NA (st.1.at fun o e=>e2 I o hI e) (st.2.at fun o e=>e2 ax o Zh e) ?_ fun b o h1 h2 e=>e2 b o h1 (kp' b o h1 h2 e);rw[merged_take_succ [] ks i (k,x) hk1];exact d2
  ·have:(merged [] (ks.take i)).length<=(ks.take i).length:=tq _;rw[Ig] at this;omega
end
end PySem
namespace PySem
open Sem (wp)
open PyProof.Rows
section
variable {prog:Hy} {w:HU} {A:HM} {E:Hg->Hi->Prop} {s:Hi} {K:Type} [DecidableEq K] {knd:KeyKind prog w K} {ax:Hj} {items:Array Hg} {ks:List (K×Hg)} {R:NN->Hi->Prop}
theorem jZ {Q:Hg->Hi->Prop} {n:Nat} {sl:Array (Option Hg)} (hh:A.handled=none) (hx:s.heap.get? ax=some ⟨.type "tuple",none,.seq items n,sl⟩) (hs:ks.length=items.size) (hz:items.size<=Ht)
  (hp:∀(i:Nat) (v:Hg),items[i]? =some v->∃q key k x,v= .ref q/\ks[i]? =some (k,x)/\knd.is k key=true/\s.heap.IsTuple q #[key,x])
  (h:∀h' tk,h'.DictOf knd s.heap.objs.size (merged [] ks)->(∀b o,s.heap.get? b=some o->h'.get? b=some o)->Q (.ref s.heap.objs.size) {s with heap:=h',toks:=tk}):
  wpAny (model prog w) A (call (.type "dict") [.ref ax]) Q E s:=by
 refine We (Q₁:=fun obj s₁=>obj= .ref s.heap.objs.size/\s₁={s with heap:=s.heap.push {cls:= .type "dict",data:= .dict #[]}}) F.kt_called_dict (F.kt_typeCall_dict_1 _) F.entry_dict_init (kt_code_dict_new _ ⟨rfl,rfl⟩) ?_;rintro obj s₁ ⟨rfl,rfl⟩;have PD:(s.heap.push {cls:= .type "dict",data:= .dict #[]}).DictOf knd s.heap.objs.size []:=Heap.DictOf.new s.heap;have Ul:(s.heap.push {cls:= .type "dict",data:= .dict #[]}).get? ax=some ⟨.type "tuple",none,.seq items n,sl⟩:=Heap.get?_push_of_some _ hx;have hT:({s with heap:=s.heap.push {cls:= .type "dict",data:= .dict #[]}}:Hi).TypeIs (.ref ax) "tuple":=⟨_,Ul,rfl⟩;refine⟨PD.typeIs,F.args_dict_init_2 _ _,?_⟩;unfold Builtin.«dict.__init__»;refine Hh ?_;unfold Builtin.Dict.selfAndRest;refine Hh (wpAny_notOrdered_dict PD.typeIs ?_);show wpAny _ _ (pure (s.heap.objs.size,[Hg.ref ax])) _ _ _;refine Hq ?_;show wpAny _ _ (Builtin.Dict.updateFrom "dict.__init__" s.heap.objs.size (.ref ax) [] .none) _ _ _;unfold Builtin.Dict.updateFrom;refine Hh (J6 hT ?_);rw[if_pos (by decide)];refine Hh (jU Ul hh fun h' t' hk=> ?_);rw[if_pos (show(Oo:Option Hg).isNone=true from rfl)];refine Hh (wpAny_rule ?_);have Q7:=hk _ _ Ul;have ht2:h'.IsTuple ax items:=⟨_,Q7,rfl,n,rfl⟩;refine Hh (Pu (s:={s with heap:=h',toks:=t'}) ht2 ?_);refine Hq ⟨Pw F.plain_upd_loop _,?_⟩;have Vo:s.heap.objs.size<h'.objs.size:=by obtain⟨o,_,_,ho,_⟩:=PD;exact Heap.lt_size (hk _ _ ho)
 have Yv:ax<s.heap.objs.size:=Heap.lt_size hx;refine zc (A:=A.in1) (prog:=prog) (w:=w) (knd:=knd) (ks:=ks) (items:=items) (ax:=ax) (R:=wants (fun r s₂=>r=Hg.none/\Q (Hg.ref s.heap.objs.size) s₂) E) (h0:=h'.push {cls:= .type "tuple_iterator",data:= .fields #[.ref ax,.int 0 0]}) (s:={s with heap:=h',toks:=t'}) hh (HK (Kn Yv Vo)) (Jp Vo) (HK Yv) (fun i v e=> ?_) hs hz (fun h2 Xn d2 k2=> ?_) items.size 0 _ t' (by omega) (Jq _) ⟨_,Heap.get?_push_size _ rfl,rfl,rfl⟩ ⟨_,Heap.get?_push_of_some _ Q7,rfl,n,rfl⟩ ?_ fun b o _ _ e=>e
 ·obtain⟨q,key,k,x,rfl,h1,h2,o,ho,h3⟩:=hp i v e;have lq:=Heap.lt_size ho;exact⟨q,key,k,x,rfl,HK lq,HK (Kn lq Vo),h1,h2,o,Heap.get?_push_of_some _ (hk _ _ (Heap.get?_push_of_some _ ho)),h3⟩
 ·refine⟨rfl,h h2 Xn d2 fun b o e=> ?_⟩;have lb:=Heap.lt_size e;exact k2 b o (HK lb) (HK (Kn lb Vo)) (Heap.get?_push_of_some _ (hk _ _ (Heap.get?_push_of_some _ e)))
 ·have:=PD.at (h':=h'.push {cls:= .type "tuple_iterator",data:= .fields #[.ref ax,.int 0 0]}) fun o e=>Heap.get?_push_of_some _ (hk _ _ e);exact this
end
end PySem
namespace L10
open PySem PySem.Spec PyProof.Rows L2 L3
inductive NL (K:Hf) (H:Hp):List V->List (aK×V)->Prop
 |nil:NL K H [] []
 |cons {q:Hj} {k:aK} {v:V} {vs:List V} {kvs:List (aK×V)}:Lh K H q [kV k,v]->NL K H vs kvs->NL K H (.ref q::vs) ((k,v)::kvs)
def xk (K:Hf):List V->Hp->VK->Prop:=fun xs H Q=>∃p ys kvs,xs=[.ref p]/\Lh K H p ys/\NL K H ys kvs/\∀d,H d=none->Q (.ref d) (aY H d (.dK (cP [] kvs)))
theorem w6 {X:Cx} {pins:List (Hj×Obj)} {σ:L2.St} {H:Hp} {s:Hi} (I:Inv X pins σ H s):∀{ys:List V} {kvs:List (aK×V)} {us:List Hg},NL X.K H ys kvs->Vals ys us->∃ks:List (aK×Hg),KV kvs ks/\ks.length=us.length/\∀(i:Nat) (v:Hg),us[i]? =some v->∃q key k x,v= .ref q/\ks[i]? =some (k,x)/\(bK X.prog X.w).is k key=true/\s.heap.IsTuple q #[key,x]
 |_,_,_,.nil,.nil=>⟨[],.nil,rfl,fun i v e=>by simp at e⟩
 |_,_,_,.cons (q:=q) (k:=k) (v:=v) h t,.cons r rs=>by
  obtain⟨ks,h1,h2,h3⟩:=w6 I t rs;obtain⟨HW,rv,pl,_⟩:=I.tuple h;cases r;obtain⟨uk,ux,rfl,rk,rx⟩:∃uk ux,HW=[uk,ux]/\RelV (kV k) uk/\RelV v ux:=by
   cases rv with
   |cons a b=>cases b with
    |cons b c=>cases c;exact⟨_,_,rfl,a,b⟩
  refine⟨(k,ux)::ks,.cons ⟨rfl,rx⟩ h1,by rw[HP,HP,h2],fun i u e=> ?_⟩;cases i with
  |zero=>cases e;exact⟨q,uk,k,ux,rfl,rfl,ky rk,pl⟩
  |succ i=>exact h3 i u (by simpa using e)
theorem kJ {X:Cx} (hc:X.calm=true):hJ X (.type "dict") (xk X.K):=by
 intro pins s σ H xs us Q I r h;obtain⟨p,ys,kvs,rfl,hq,hp,q⟩:=h;obtain⟨u,rfl,ru⟩:=qu r;cases ru;obtain⟨HW,rv,⟨o,ho,⟨XJ,n,hd⟩,hdn⟩,hz⟩:=I.SR hq;obtain⟨ks,k1,k2,k3⟩:=w6 I hp rv;obtain⟨oc,od,odt,QW⟩:=o;cases XJ;cases hd;cases hdn;have hl:=rv.length;have X5:=k1.length;refine jZ (knd:=bK X.prog X.w) (ks:=ks) (I.ok.hd hc) ho (by rw[Hs];exact k2) (by rw[Hs,<-hl];exact hz) (fun i v e=>k3 i v (by simpa using e)) fun h' tk dd hk=> ?_;refine⟨.ref s.heap.objs.size,_,I.laid (t':=tk) (o:= .dK (cP [] kvs)) hk (Ho _) ?_,rfl,q _ (I.IW.fresh (Ho _))⟩;refine sO ?_ ?_ (KV.merge k1 .nil) dd
 ·have:=eV kvs [];rw[Jw] at this;omega
 ·exact beq_eq_false_iff_ne.mpr (Jp I.big)
end L10
namespace L10
open PySem PyProof.Rows L2 L3
theorem yf:Iq "dict"=some (.type "dict"):=by decide+kernel
section
variable {B O O':aX} {K:Hf} {E:XK} {H H' H1 H2:Hp} {α α' α1 α2:List Hj} {Z Z' Z1 Z2:bH} {σ:L2.St} {ρ:bp} {v:V}
noncomputable def jS:SV->Option aK
 | .fz (.int i)=>some (.inl i)
 | .fz (.str x)=>some (.inr x)
 |_=>none
theorem i9 {x:SV} {k:aK} (e:jS x=some k) (h:Lm O K H α v x):v=kV k:=by
 unfold jS at e;split at e
 ·cases e;cases h;rfl
 ·cases e;cases h;rfl
 ·cases e
noncomputable abbrev o8 (O:aX) (K:Hf) (H:Hp) (α:List Hj):List (aK×V)->List (aK×SV)->Prop:=Paired (fun(p:aK×V) (q:aK×SV)=>p.1=q.1/\Lm O K H α p.2 q.2)
noncomputable def hV (Z:bH):SV->Option (Nat×List (aK×SV))
 | .rf i=>match Z[i]? with
  |some (.Jh kvs)=>some (i,kvs)
  |_=>none
 |_=>none
theorem ny {x:SV} {i:Nat} {kvs:List (aK×SV)} (s:Iu B K H α Z) (hv:Lm (ow B α Z) K H α v x) (h:hV Z x=some (i,kvs)):Z[i]? =some (.Jh kvs)/\∃a ws,α[i]? =some a/\v= .ref a/\H a=some (.dK ws)/\o8 (ow B α Z) K H α ws kvs:=by
 cases x with
 |fz d=>cases h
 |tp l=>cases h
 |rf j=>
  obtain⟨a,ha,rfl⟩:=hv;unfold hV at h;dsimp only at h;cases q:Z[j]? with
  |none=>rw[q] at h;cases h
  |some c=>
   rw[q] at h;cases c with
   |Jh ys=>have e:=HJ h;cases e;obtain⟨ws,h1,h2⟩:=s.QH i a _ ha q;exact⟨q,a,ws,ha,rfl,h1,h2⟩
   |_=>cases h
noncomputable def bw (kvs:List (aK×SV)) (k:aK):Option SV:=(kvs.find? fun kv=>decide (kv.1=k)).map (·.2)
noncomputable def eB (kvs:List (aK×SV)) (k:aK) (x:SV):List (aK×SV):=
 if(kvs.any fun kv=>decide (kv.1=k))=true then kvs.map (fun kv=>if kv.1=k then(kv.1,x) else kv) else kvs++[(k,x)]
theorem nG {k:aK}:∀{ws:List (aK×V)} {kvs:List (aK×SV)},o8 O K H α ws kvs->(∀x,bw kvs k=some x->∃v,gq ws k=some v/\Lm O K H α v x)/\(bw kvs k=none->gq ws k=none)
 |_,_,.nil=>⟨fun x e=>(by cases e),fun _=>rfl⟩
 |(a,u)::ws,(b,y)::kvs,.cons ⟨h1,h2⟩ t=>by
  cases h1;unfold bw gq;rw[Iw,Iw];by_cases e:a=k
  ·simp only[decide_eq_true e];exact⟨fun x h=>⟨u,rfl,by cases h;exact h2⟩,fun h=>by cases h⟩
  ·simp only[decide_eq_false e];exact nG t
theorem ES {k:aK}:∀{ws:List (aK×V)} {kvs:List (aK×SV)},o8 O K H α ws kvs->(ws.any fun kv=>decide (kv.1=k))=kvs.any fun kv=>decide (kv.1=k)
 |_,_,.nil=>rfl
 |(a,u)::ws,(b,y)::kvs,.cons ⟨h1,h2⟩ t=>by cases h1;rw[Kz,Kz,ES t]
theorem Dv {k:aK} {x:SV} (hv:Lm O K H α v x):∀{ws:List (aK×V)} {kvs:List (aK×SV)},o8 O K H α ws kvs->o8 O K H α (ws.map (fun kv=>if kv.1=k then(kv.1,v) else kv)) (kvs.map (fun kv=>if kv.1=k then(kv.1,x) else kv))
 |_,_,.nil=> .nil
 |(a,u)::ws,(b,y)::kvs,.cons ⟨h1,h2⟩ t=>by
  cases h1;rw[HH,HH];by_cases e:a=k
  ·rw[if_pos e,if_pos e];exact .cons ⟨rfl,hv⟩ (Dv hv t)
  ·rw[if_neg e,if_neg e];exact .cons ⟨rfl,h2⟩ (Dv hv t)
theorem zA {p:aK×V} {q:aK×SV} {ws:List (aK×V)} {kvs:List (aK×SV)} (h:o8 O K H α ws kvs) (r:p.1=q.1/\Lm O K H α p.2 q.2):o8 O K H α (ws++[p]) (kvs++[q]):=by
 induction h with
 |nil=>exact .cons r .nil
 |cons a _ ih=>exact .cons a ih
theorem uQ {k:aK} {x:SV} (hv:Lm O K H α v x) {ws:List (aK×V)} {kvs:List (aK×SV)} (h:o8 O K H α ws kvs):o8 O K H α (eY ws k v) (eB kvs k x):=by
 unfold eY eB;rw[ES h];split
 ·exact Dv hv h
 ·exact zA h ⟨rfl,hv⟩
noncomputable def eS (neg:Bool) (fk fd:cy):cy:=fun ρ Z=>(fk ρ Z).bind fun x Z1=>(fd ρ Z1).bind fun o Z2=>(RS.IJ Z2 (jS x)).bind fun k Z2=>(RS.IJ Z2 (hV Z2 o)).bind fun p Z2=> .ok (.fz (.bool ((bw p.2 k).isSome !=neg))) Z2
theorem pE {k:aK} {ws:List (aK×V)} {kvs:List (aK×SV)} (h:o8 O K H α ws kvs):(gq ws k).isSome=(bw kvs k).isSome:=by
 obtain⟨h1,h2⟩:=nG (k:=k) h;cases q:bw kvs k with
 |none=>rw[h2 q];rfl
 |some x=>obtain⟨u,e,_⟩:=h1 x q;rw[e];rfl
theorem Ar {tk td:TE} {fk fd:cy} (hk:gR K E tk fk) (hd:gR K E td fd):gR K E (FJ tk td) (eS false fk fd):=by intro B σ H α Z ρ Q s sl w;refine hk B σ H α Z ρ _ s sl (w.bind.imp fun x α1 Z1 H1 e1 s1 w1 v hv=> ?_);refine hd B σ H1 α1 Z1 ρ _ s1 (sl.Lp e1) (w1.bind.imp fun o α2 Z2 H2 e2 s2 w2 u hu=> ?_);obtain⟨k,q1,w2⟩:=WS.IJ w2;obtain⟨⟨i,kvs⟩,q2,w2⟩:=WS.IJ w2;obtain⟨_,a,ws,ha,rfl,g1,g2⟩:=ny s2 hu q2;refine⟨a,gq ws k,rfl,by rw[i9 q1 hv];exact MM.k g1,?_⟩;rw[pE g2];refine WS.now s2 w2 _ ?_;show L3.DV _ K H2 _ (.bool ((bw kvs k).isSome !=false));rw[LP];exact .bl _
theorem lj {tk td:TE} {fk fd:cy} (hk:gR K E tk fk) (hd:gR K E td fd):gR K E (uI tk td) (eS true fk fd):=by intro B σ H α Z ρ Q s sl w;refine hk B σ H α Z ρ _ s sl (w.bind.imp fun x α1 Z1 H1 e1 s1 w1 v hv=> ?_);refine hd B σ H1 α1 Z1 ρ _ s1 (sl.Lp e1) (w1.bind.imp fun o α2 Z2 H2 e2 s2 w2 u hu=> ?_);obtain⟨k,q1,w2⟩:=WS.IJ w2;obtain⟨⟨i,kvs⟩,q2,w2⟩:=WS.IJ w2;obtain⟨_,a,ws,ha,rfl,g1,g2⟩:=ny s2 hu q2;refine⟨a,gq ws k,rfl,by rw[i9 q1 hv];exact MM.k g1,?_⟩;rw[pE g2];refine WS.now s2 w2 _ ?_;show L3.DV _ K H2 _ (.bool ((bw kvs k).isSome !=true));rw[Bool.bne_true];exact .bl _
noncomputable def gm (fd fk:cy):cy:=fun ρ Z=>(fd ρ Z).bind fun o Z1=>(fk ρ Z1).bind fun x Z2=>(RS.IJ Z2 (jS x)).bind fun k Z2=>(RS.IJ Z2 (hV Z2 o)).bind fun p Z2=>RS.IJ Z2 (bw p.2 k)
theorem iA {td tk:TE} {fd fk:cy} (hd:gR K E td fd) (hk:gR K E tk fk):gR K E (BV td tk) (gm fd fk):=by
 intro B σ H α Z ρ Q s sl w;refine hd B σ H α Z ρ _ s sl (w.bind.imp fun o α1 Z1 H1 e1 s1 w1 u hu=> ?_);refine hk B σ H1 α1 Z1 ρ _ s1 (sl.Lp e1) (w1.bind.imp fun x α2 Z2 H2 e2 s2 w2 v hv=> ?_);obtain⟨k,q1,w2⟩:=WS.IJ w2;obtain⟨⟨i,kvs⟩,q2,w2⟩:=WS.IJ w2;obtain⟨_,a,ws,ha,rfl,g1,g2⟩:=ny s2 (hu.Lp e2) q2;dsimp only at w2;cases q:bw kvs k with
 |none=>rw[q] at w2;exact w2.elim
 |some y=>rw[q] at w2;obtain⟨z,hz,vz⟩:=(nG g2).1 y q;exact⟨a,z,rfl,by rw[i9 q1 hv,<-hz];exact MM.k g1,WS.now s2 w2 z vz⟩
noncomputable def qI (fd fk fv:cy):ef:=fun ρ Z=>(fv ρ Z).bind fun y Z1=>(fd ρ Z1).bind fun o Z2=>(fk ρ Z2).bind fun x Z3=>(RS.IJ Z3 (jS x)).bind fun k Z3=>(RS.IJ Z3 (hV Z3 o)).bind fun p Z3=>if p.2.length<1000000 then .ok (.nx ρ) (Z3.set p.1 (.Jh (eB p.2 k y))) else .bad
theorem yZ {td tk tv:TE} {fd fk fv:cy} (hd:gR K E td fd) (hk:gR K E tk fk) (hv:gR K E tv fv):kl K E (BO td tk tv) (qI fd fk fv):=by
 intro B σ H α Z ρ D s sl w;refine hv B σ H α Z ρ _ s sl (WS.imp (WS.bind w) fun y α1 Z1 H1 e1 s1 w1 vy hvy=> ?_);refine hd B σ H1 α1 Z1 ρ _ s1 (sl.Lp e1) (WS.imp (WS.bind w1) fun o α2 Z2 H2 e2 s2 w2 u hu=> ?_);refine hk B σ H2 α2 Z2 ρ _ s2 (sl.Lp (e1.trans e2)) (WS.imp (WS.bind w2) fun x α3 Z3 H3 e3 s3 w3 z hz=> ?_);obtain⟨k,q1,w3⟩:=WS.IJ w3;obtain⟨⟨i,kvs⟩,q2,w3⟩:=WS.IJ w3;obtain⟨qi,a,ws,ha,rfl,g1,g2⟩:=ny s3 (hu.Lp e3) q2;dsimp only at w3;by_cases hn:kvs.length<1000000
 ·rw[if_pos hn] at w3;have ev:Ev (ow B α3 Z3) H3 (ow B α3 Z3) (aY H3 a (.dK (eY ws k vy))):=zC ha qi (by intro z;cases z);have e4:Ko α3 Z3 H3 α3 (Z3.set i (.Jh (eB kvs k y))) (aY H3 a (.dK (eY ws k vy))):=Ko.put ha qi (by intro z;cases z) (by intro z;cases z);have hl:ws.length=kvs.length:=Paired.length g2;refine⟨a,_,rfl,by rw[i9 q1 hz];exact QS.k g1 (mJ (by omega)),?_⟩;exact w3 α3 _ e4 (s3.put ha qi (by intro z;cases z) (by intro z;cases z) ⟨_,ar,uQ ((hvy.Lp (e2.trans e3)).ev ev fun _ _ h=>h) (Paired.Mi g2 fun _ _ r=>⟨r.1,r.2.ev ev fun _ _ h=>h⟩)⟩) σ ((sl.Lp (e1.trans (e2.trans e3))).Lp e4)
 ·rw[if_neg hn] at w3;exact w3.elim
theorem wP {Q:VK} {c:Cell} {o:HO} {p:Hj} (s:Iu B K H α Z) (hp:H p=none) (w:WS K E B H α Z (PQ B K Q) (.ok (.rf Z.length) (Z++[c]))) (hc:∀e:Ko α Z H (α++[p]) (Z++[c]) (aY H p o),RF (ow B (α++[p]) (Z++[c])) K (aY H p o) (α++[p]) p c):Q (.ref p) (aY H p o):=by have sm:IX H (aY H p o):=bq hp _;have e:Ko α Z H (α++[p]) (Z++[c]) (aY H p o):=Ko.Oc s.len sm hp;exact w _ _ e (s.Oc sm hp (by rw[ar];simp) (hc e)) _ ⟨p,by rw[<-s.len];exact db,rfl⟩
noncomputable def lQ:D->Option (aK×SV)
 | .tuple [.int i,d]=>some (.inl i,.fz d)
 | .tuple [.str x,d]=>some (.inr x,.fz d)
 |_=>none
noncomputable def lU:SV->Option (List (aK×SV))
 | .fz (.tuple ds)=>a6 lQ ds
 |_=>none
theorem v5 {x:SV} {ps:List (aK×SV)} (e:lU x=some ps):∃ds,x= .fz (.tuple ds)/\a6 lQ ds=some ps:=by
 unfold lU at e;split at e
 ·exact⟨_,rfl,e⟩
 ·cases e
noncomputable def cB (kvs more:List (aK×SV)):List (aK×SV):=more.foldl (fun acc kv=>eB acc kv.1 kv.2) kvs
noncomputable def lK (fe:cy):cy:=fun ρ Z=>(fe ρ Z).bind fun x Z1=>(RS.IJ Z1 (lU x)).bind fun ps Z1=> .ok (.rf Z1.length) (Z1++[.Jh (cB [] ps)])
theorem qQ:∀{vs:List V} {ds:List D} {ps:List (aK×SV)},L3.Jm O K H vs ds->a6 lQ ds=some ps->∃kvs,NL K H vs kvs/\o8 O K H α kvs ps
 |_,_,_,.nil,e=>by cases e;exact⟨[],.nil,.nil⟩
 |_,_,_,.cons (d:=d) (ds:=ds) h t,e=>by
  unfold a6 at e;cases q:lQ d with
  |none=>rw[q] at e;cases e
  |some p=>
   rw[q] at e;dsimp only at e;cases q2:a6 lQ ds with
   |none=>rw[q2] at e;cases e
   |some ps=>
    rw[q2] at e;cases e;obtain⟨kvs,k1,k2⟩:=qQ t q2;unfold lQ at q;split at q
    ·cases q
     cases h with
     |tup h hs=>cases hs with
      |cons a b=>cases b with
       |cons b c=>cases c;cases a;exact⟨(.inl _,_)::kvs,.cons h.1 k1,.cons ⟨rfl,b⟩ k2⟩
    ·cases q
     cases h with
     |tup h hs=>cases hs with
      |cons a b=>cases b with
       |cons b c=>cases c;cases a;exact⟨(.inr _,_)::kvs,.cons h.1 k1,.cons ⟨rfl,b⟩ k2⟩
    ·cases q
theorem ot:∀{more:List (aK×V)} {ms:List (aK×SV)} {ws:List (aK×V)} {kvs:List (aK×SV)},o8 O K H α more ms->o8 O K H α ws kvs->o8 O K H α (cP ws more) (cB kvs ms)
 |_,_,_,_,.nil,h=>h
 |(a,u)::more,(b,y)::ms,_,_,.cons r t,h=>by obtain⟨r1,r2⟩:=r;cases r1;show o8 O K H α (cP (eY _ a u) more) (cB (eB _ a y) ms);exact ot (more:=more) (ms:=ms) t (uQ r2 h)
theorem pZ {te:TE} {fe:cy} (he:gR K E te fe):gR K E (D8 (xk K) (fy te l6)) (lK fe):=by
 intro B σ H α Z ρ Q s sl w;refine he B σ H α Z ρ _ s sl (w.bind.imp fun x α1 Z1 H1 e1 s1 w1 u hu=> ?_);obtain⟨ps,q,w2⟩:=WS.IJ w1;obtain⟨ds,rfl,q⟩:=v5 q;have w2:WS K E B H1 α1 Z1 (PQ B K Q) (.ok (.rf Z1.length) (Z1++[.Jh (cB [] ps)])):=w2;cases hu with
 |tup h hs=>obtain⟨kvs,k1,k2⟩:=qQ (α:=α1) hs q;exact⟨_,_,kvs,rfl,h.1,k1,fun d hd=>wP s1 hd w2 fun e=>⟨_,ar,ot (Paired.Mi k2 fun _ _ r=>⟨r.1,r.2.Lp e⟩) .nil⟩⟩
end
end L10
namespace PySem
open PyProof.Rows
namespace F
end F
end PySem
namespace L10
open PySem PySem.Spec PyProof.Rows L2 L3
end L10
namespace L10
open PySem L2 L3
section
variable {B O O':aX} {K:Hf} {E:XK} {H H' H1 H2:Hp} {α α' α1 α2:List Hj} {Z Z' Z1 Z2:bH} {σ:L2.St} {ρ:bp} {v:V}
theorem u3 {i:Nat} {ds:List D} (h:sh Z (.rf i)=some (.list ds)):∃xs,Z[i]? =some (.lst xs)/\a6 D7 xs=some ds:=by
 unfold sh at h;dsimp only at h;cases q:Z[i]? with
 |none=>rw[q] at h;cases h
 |some c=>
  rw[q] at h;cases c with
  |lst xs=>
   dsimp only at h;cases q2:a6 D7 xs with
   |none=>rw[q2] at h;cases h
   |some es=>rw[q2] at h;cases h;exact⟨xs,rfl,q2⟩
  |_=>cases h
theorem lz (s:Iu B K H α Z) {i:Nat} {ds:List D} (h:sh Z (.rf i)=some (.list ds)):∃a vs,α[i]? =some a/\H a=some (.lst vs)/\L3.Jm (ow B α Z) K H vs ds/\ow B α Z a:=by obtain⟨xs,q1,q2⟩:=u3 h;obtain⟨a,ha⟩:=s.at q1;obtain⟨vs,h1,h2⟩:=s.QH i a _ ha q1;exact⟨a,vs,ha,h1,jE (cM (R:=Lm (ow B α Z) K H α) (S:=L3.DV (ow B α Z) K H) (fun v x y r e=>D1 r e) h2 q2),.inr ⟨i,_,ha,q1,by intro z;cases z⟩⟩
theorem CL {B:aX} (h:∀a,B a->H a≠none):Iu B K H [] []:=⟨rfl,fun i j a h=>by simp at h,h,fun a h i=>by simp,fun i a h=>by simp at h,fun i a c h=>by simp at h⟩
end
section
variable {ρ ρ1 ρ2:bp} {Z Z1 Z2 Z3 Z4:bH} {x y z:SV} {i n:Nat} {d dx dy:D} {ds:List D} {b:Bool}
theorem dc (h:ρ[i]? =some (some x)):ci i ρ Z= .ok x Z:=by unfold ci;rw[h]
theorem bj {f:FE} {ρ':aw} (h:f (cA ρ)= .ok (.fz d,ρ')):aA f ρ Z= .ok (.fz d) Z:=by unfold aA;rw[h]
theorem wI {f:FE} {ρ':aw} (h:f (cA ρ)= .ok (.ow ds,ρ')):aA f ρ Z= .ok (.rf Z.length) (Z++[.lst (ds.map .fz)]):=by unfold aA;rw[h];rfl
theorem gu {f:FT} {ρ':aw} (h:f (cA ρ)= .ok (b,ρ')):lV f ρ Z= .ok b Z:=by unfold lV;rw[h]
theorem fm {f:FI} {ρ':aw} (h:f (cA ρ)= .ok (ds,ρ')):gA f ρ Z= .ok ds Z:=by unfold gA;rw[h]
theorem oY {f:D->D->Option RV} (h:f dx dy=some (.fz d)):vV f (.fz dx) (.fz dy) Z= .ok (.fz d) Z:=by unfold vV;show((RS.IJ Z (f dx dy)).bind fun rv Z1=>lJ Z1 rv)=_;rw[h];rfl
theorem uZ:∀ds:List D,a6 D7 (ds.map .fz)=some ds
 |[]=>rfl
 |d::r=>by rw[HH];unfold a6;rw[uZ r];rfl
theorem CQ (h:Z[i]? =some (.lst (ds.map .fz))):sh Z (.rf i)=some (.list ds):=by unfold sh;dsimp only;rw[h];dsimp only;rw[uZ];rfl
theorem eO {fa:cy} (h:fa ρ Z= .ok (.fz (.bool b)) Z1):gb fa ρ Z= .ok b Z1:=by unfold gb;rw[h];rfl
theorem vB {fa fb:oj} {r:RS Bool} (h:fa ρ Z= .ok true Z1) (k:fb ρ Z1=r):v7 fa fb ρ Z=r:=by unfold v7;rw[h,RS.bind_ok,if_pos rfl,k]
theorem vZ {fa fb:oj} (h:fa ρ Z= .ok false Z1):v7 fa fb ρ Z= .ok false Z1:=by unfold v7;rw[h,RS.bind_ok,if_neg Hu]
theorem rB:xM ρ Z= .ok [] Z:=rfl
theorem km {fa:cy} {fr:wE} {xs:List SV} (ha:fa ρ Z= .ok x Z1) (hr:fr ρ Z1= .ok xs Z2):jN fa fr ρ Z= .ok (x::xs) Z2:=by unfold jN;rw[ha,RS.bind_ok,hr,RS.bind_ok]
theorem EV {f:List D->Option RV} {fa:wE} {xs:List SV} (ha:fa ρ Z= .ok xs Z1) (hs:a6 (sh Z1) xs=some ds) (h:f ds=some (.fz d)):F5 f fa ρ Z= .ok (.fz d) Z1:=by unfold F5;rw[ha,RS.bind_ok];unfold CF;rw[hs];show((RS.IJ Z1 (f ds)).bind fun rv Z1=>lJ Z1 rv)=_;rw[h];rfl
theorem yE {A:Type} {a:A}:uW (RS.ok a Z)= .ok a Z:=rfl
theorem C8 {fo fe:cy} {xs ys:List SV} (ho:fo ρ Z= .ok (.rf i) Z1) (h1:Z1[i]? =some (.lst xs)) (he:fe ρ Z1= .ok x Z2) (h2:Z2[i]? =some (.lst ys)) (hl:ys.length<1000000):A1 fo fe ρ Z= .ok (.fz .none) (Z2.set i (.lst (ys++[x]))):=by
 have e1:eh Z1 (.rf i)=some (i,xs):=by unfold eh;dsimp only;rw[h1]
 have e2:eh Z2 (.rf i)=some (i,ys):=by unfold eh;dsimp only;rw[h2]
 unfold A1;rw[ho,RS.bind_ok,e1];show((fe ρ Z1).bind _)=_;rw[he,RS.bind_ok,e2];show(if ys.length<1000000 then _ else _)=_;rw[if_pos hl]
theorem sU {kvs:List (aK×SV)} (h:Z[i]? =some (.Jh kvs)):hV Z (.rf i)=some (i,kvs):=by unfold hV;dsimp only;rw[h]
theorem oB {neg:Bool} {fk fd:cy} {k:aK} {kvs:List (aK×SV)} (hk:fk ρ Z= .ok x Z1) (hd:fd ρ Z1= .ok (.rf i) Z2) (h1:jS x=some k) (h2:Z2[i]? =some (.Jh kvs)):eS neg fk fd ρ Z= .ok (.fz (.bool ((bw kvs k).isSome !=neg))) Z2:=by unfold eS;rw[hk,RS.bind_ok,hd,RS.bind_ok,h1];show((RS.IJ Z2 (hV Z2 (.rf i))).bind _)=_;rw[sU h2];rfl
theorem uA {fd fk:cy} {k:aK} {kvs:List (aK×SV)} (hd:fd ρ Z= .ok (.rf i) Z1) (hk:fk ρ Z1= .ok x Z2) (h1:jS x=some k) (h2:Z2[i]? =some (.Jh kvs)) (h3:bw kvs k=some y):gm fd fk ρ Z= .ok y Z2:=by unfold gm;rw[hd,RS.bind_ok,hk,RS.bind_ok,h1];show((RS.IJ Z2 (hV Z2 (.rf i))).bind _)=_;rw[sU h2];show RS.IJ Z2 (bw kvs k)=_;rw[h3];rfl
theorem uz {fd fk fv:cy} {k:aK} {kvs:List (aK×SV)} (hv:fv ρ Z= .ok y Z1) (hd:fd ρ Z1= .ok (.rf i) Z2) (hk:fk ρ Z2= .ok x Z3) (h1:jS x=some k) (h2:Z3[i]? =some (.Jh kvs)) (hl:kvs.length<1000000):qI fd fk fv ρ Z= .ok (.nx ρ) (Z3.set i (.Jh (eB kvs k y))):=by unfold qI;rw[hv,RS.bind_ok,hd,RS.bind_ok,hk,RS.bind_ok,h1];show((RS.IJ Z3 (hV Z3 (.rf i))).bind _)=_;rw[sU h2];show(if kvs.length<1000000 then _ else _)=_;rw[if_pos hl]
theorem nI {fe:cy} {ps:List (aK×SV)} (he:fe ρ Z= .ok x Z1) (h:lU x=some ps):lK fe ρ Z= .ok (.rf Z1.length) (Z1++[.Jh (cB [] ps)]):=by unfold lK;rw[he,RS.bind_ok,h];rfl
variable {fl:RD} {r:RS RD}
theorem rD {f g:ef} (h:f ρ Z= .ok (.nx ρ1) Z1) (k:g ρ1 Z1=r):bC f g ρ Z=r:=by unfold bC;rw[h,RS.bind_ok];exact k
theorem yH {c:oj} {f g:ef} (h:c ρ Z= .ok false Z1) (k:g ρ Z1=r):fu c f g ρ Z=r:=by unfold fu;rw[h,RS.bind_ok,if_neg Hu,k]
theorem Dq {f:cy} (h:f ρ Z= .ok x Z1):ly f ρ Z= .ok (.rt x) Z1:=by unfold ly;rw[h];rfl
theorem Be {f:cy} (h:f ρ Z= .ok x Z1):mM f ρ Z= .ok (.nx ρ) Z1:=by unfold mM;rw[h];rfl
theorem yU {f:cy} (h:f ρ Z= .ok x Z1) (e:ρ.set i (some x)=ρ1):fA f (jh i) ρ Z= .ok (.nx ρ1) Z1:=by subst e;unfold fA;rw[h];rfl
theorem Aq:fC ρ Z= .ok (.nx ρ) Z:=rfl
end
section
variable {ρ ρ1 ρ2:bp} {Z Z1 Z2 Z3 Z4:bH} {x y z:SV} {i n:Nat} {d dx dy:D} {ds:List D} {b:Bool}
def Fp (N C:bp->bH->Prop) (T:SV->bH->Prop):RS RD->Prop
 | .ok (.nx ρ) Z=>N ρ Z
 | .ok (.ct ρ) Z=>C ρ Z
 | .ok (.rt v) Z=>T v Z
 |_=>False
structure K4 (r:RS RD) (N C:bp->bH->Prop) (T:SV->bH->Prop):Prop where
 out:Fp N C T r
variable {f g:ef} {fe:cy} {N C:bp->bH->Prop} {T:SV->bH->Prop}
theorem K4.eq {r r':RS RD} (e:r=r') (h:K4 r' N C T):K4 r N C T:=by rw[e];exact h
theorem K4.imp {r:RS RD} {N' C':bp->bH->Prop} {T':SV->bH->Prop} (h:K4 r N C T) (hN:∀ρ Z,N ρ Z->N' ρ Z) (hC:∀ρ Z,C ρ Z->C' ρ Z) (hT:∀v Z,T v Z->T' v Z):K4 r N' C' T':=by
 refine⟨?_⟩;have h:=h.out;cases r with
 |bad=>exact h
 |er x Z=>exact h
 |ok fl Z=>
  cases fl with
  |nx r=>exact hN _ _ h
  |ct r=>exact hC _ _ h
  |rt v=>exact hT _ _ h
  |bk r=>exact h
theorem gK (h:K4 (f ρ Z) (fun r o=>K4 (g r o) N C T) C T):K4 (bC f g ρ Z) N C T:=by
 refine⟨?_⟩;have h:=h.out;unfold bC;cases q:f ρ Z with
 |bad=>rw[q] at h;exact h.elim
 |er x o=>rw[q] at h;exact h.elim
 |ok fl o=>
  rw[q] at h;cases fl with
  |nx r=>exact(show K4 (g r o) N C T from h).out
  |ct r=>exact h
  |rt v=>exact h
  |bk r=>exact h.elim
theorem tT {c:oj} (hc:c ρ Z= .ok b Z1) (ht:b=true->K4 (f ρ Z1) N C T) (hf:b=false->K4 (g ρ Z1) N C T):K4 (fu c f g ρ Z) N C T:=by
 unfold fu;rw[hc,RS.bind_ok];cases b with
 |true=>exact ht rfl
 |false=>exact hf rfl
theorem DG {c:oj} (hc:c ρ Z= .ok false Z1) (ht:K4 (g ρ Z1) N C T):K4 (fu c f g ρ Z) N C T:=tT hc (fun h=>by cases h) fun _=>ht
theorem CW {gt:uT} (he:fe ρ Z= .ok x Z1) (hg:gt x ρ Z1= .ok ρ1 Z2) (h:N ρ1 Z2):K4 (fA fe gt ρ Z) N C T:=by refine⟨?_⟩;unfold fA;rw[he,RS.bind_ok,hg,RS.bind_ok];exact h
theorem qX (he:f ρ Z= .ok (.nx ρ1) Z1) (h:N ρ1 Z1):K4 (f ρ Z) N C T:=⟨by rw[he];exact h⟩
theorem E4 (he:f ρ Z= .ok (.rt x) Z1) (h:T x Z1):K4 (f ρ Z) N C T:=⟨by rw[he];exact h⟩
theorem zT (he:fe ρ Z= .ok x Z1) (h:N ρ Z1):K4 (mM fe ρ Z) N C T:=qX (Be he) h
theorem kF (he:fe ρ Z= .ok x Z1) (h:T x Z1):K4 (ly fe ρ Z) N C T:=E4 (Dq he) h
theorem iS (h:N ρ Z):K4 (fC ρ Z) N C T:=⟨h⟩
theorem eU {gt:uT} (he:fe ρ Z= .ok x Z1) (hg:gt x ρ Z1= .ok ρ1 Z2) (h:K4 (g ρ1 Z2) N C T):K4 (bC (fA fe gt) g ρ Z) N C T:=gK (CW he hg h)
theorem Bh (he:fe ρ Z= .ok x Z1) (h:K4 (g ρ Z1) N C T):K4 (bC (mM fe) g ρ Z) N C T:=gK (zT he h)
theorem B5 {c:oj} {f1 f2:ef} (hc:c ρ Z= .ok b Z1) (ht:b=true->K4 (bC f1 g ρ Z1) N C T) (hf:b=false->K4 (bC f2 g ρ Z1) N C T):K4 (bC (fu c f1 f2) g ρ Z) N C T:=by
 have e:bC (fu c f1 f2) g ρ Z=if b=true then bC f1 g ρ Z1 else bC f2 g ρ Z1:=by unfold bC fu;rw[hc,RS.bind_ok];cases b<;>rfl
 refine .eq e ?_;cases b with
 |true=>exact ht rfl
 |false=>exact hf rfl
theorem CD {c:oj} {f1 f2:ef} (hc:c ρ Z= .ok false Z1) (ht:K4 (bC f2 g ρ Z1) N C T):K4 (bC (fu c f1 f2) g ρ Z) N C T:=B5 hc (fun h=>by cases h) fun _=>ht
theorem C7 (he:fe ρ Z= .ok x Z1) (h:T x Z1):K4 (bC (ly fe) g ρ Z) N C T:=gK (kF he h)
theorem u5 (h:K4 (g ρ Z) N C T):K4 (bC fC g ρ Z) N C T:=gK (iS h)
theorem vg {gt:uT} {b:ef} (I:Nat->bp->bH->Prop):∀(ds:List D) (k:Nat) (ρ:bp) (Z:bH),I k ρ Z->(∀i d ρ Z,ds[i]? =some d->I (k+i) ρ Z->∃ρ1 Z1,gt (.fz d) ρ Z= .ok ρ1 Z1/\K4 (b ρ1 Z1) (I (k+i+1)) (I (k+i+1)) T)->K4 (hX gt b ds ρ Z) (I (k+ds.length)) C T
 |[],k,ρ,Z,h0,_=>⟨h0⟩
 |d::r,k,ρ,Z,h0,hs=>by
  obtain⟨ρ1,Z1,h1,h2⟩:=hs 0 d ρ Z rfl h0;have h2:=h2.out;have rest:∀ρ' Z',I (k+1) ρ' Z'->K4 (hX gt b r ρ' Z') (I (k+(r.length+1))) C T:=fun ρ' Z' h=>by
   have e:k+(r.length+1)=k+1+r.length:=by omega
   rw[e];refine vg I r (k+1) ρ' Z' h fun i d' Uc ZT hi hI=> ?_;have e:k+1+i=k+(i+1):=by omega
   rw[e] at hI⊢;exact hs (i+1) d' Uc ZT (by simpa using hi) hI
  refine⟨?_⟩;show Fp _ _ _ ((gt (.fz d) ρ Z).bind _);rw[h1,RS.bind_ok];cases q:b ρ1 Z1 with
  |bad=>rw[q] at h2;exact h2.elim
  |er x o=>rw[q] at h2;exact h2.elim
  |ok fl o=>
   rw[q] at h2;cases fl with
   |nx r=>exact(rest _ _ h2).out
   |ct r=>exact(rest _ _ h2).out
   |rt v=>exact h2
   |bk r=>exact h2.elim
theorem kI {fi:EU} {gt:uT} {b:ef} (I:Nat->bp->bH->Prop) (hi:fi ρ Z= .ok ds Z1) (h0:I 0 ρ Z1) (hs:∀i d ρ Z,ds[i]? =some d->I i ρ Z->∃ρ1 Z1,gt (.fz d) ρ Z= .ok ρ1 Z1/\K4 (b ρ1 Z1) (I (i+1)) (I (i+1)) T) (hN:∀ρ' Z',I ds.length ρ' Z'->N ρ' Z'):K4 (kR fi gt b ρ Z) N C T:=by have:=vg (C:=C) (T:=T) I ds 0 ρ Z1 h0 (by simpa using hs);rw[OE] at this;refine .eq ?_ (this.imp hN (fun _ _ h=>h) fun _ _ h=>h);unfold kR;rw[hi,RS.bind_ok]
theorem n9 {n:Nat} {g:ef} {xs:List SV} (hρ:xs.map some++Hl (n - xs.length) none=ρ) (h:K4 (g ρ Z) (fun _ Z'=>T (.fz .none) Z') (fun _ _=>False) T):∃x Z',j4 n g xs Z= .ok x Z'/\T x Z':=by
 have h:=h.out;unfold j4;rw[hρ];cases q:g ρ Z with
 |bad=>rw[q] at h;exact h.elim
 |er x o=>rw[q] at h;exact h.elim
 |ok fl o=>
  rw[q] at h;cases fl with
  |nx r=>exact⟨_,_,rfl,h⟩
  |ct r=>exact h.elim
  |rt v=>exact⟨_,_,rfl,h⟩
  |bk r=>exact h.elim
theorem Cw {n:Nat} {g:ef} {xs:List SV} {v:SV} {W:bH->Prop} (hρ:xs.map some++Hl (n - xs.length) none=ρ) (h:K4 (g ρ Z) (fun _ Z'=>SV.fz .none=v/\W Z') (fun _ _=>False) (fun r Z'=>r=v/\W Z')):∃Z',j4 n g xs Z= .ok v Z'/\W Z':=by obtain⟨x,Z',h1,h2,h3⟩:=n9 (T:=fun r Z'=>r=v/\W Z') hρ h;exact⟨Z',by rw[h1,h2],h3⟩
end
noncomputable def FQ (Z:bH):AV->Option D
 | .fz d=>some d
 | .rf i=>sh Z (.rf i)
noncomputable def w9 (F:pc):FN:=fun ds=>match F (ds.map .fz) [] with
 | .ok (.fz d) _=> .ok (.fz d)
 | .ok (.rf i) Z=>(match sh Z (.rf i) with
  |some (.list ds)=> .ok (.ow ds)
  |_=> .bad)
 | .ok (.tp l) Z=>(match a6 (FQ Z) l with
  |some ds=> .ok (.fz (.tuple ds))
  |none=> .bad)
 | .er x _=> .er x
 | .bad=> .bad
section
variable {B O O':aX} {K:Hf} {E:XK} {H H' H1 H2:Hp} {α α' α1 α2:List Hj} {Z Z' Z1 Z2:bH} {σ:L2.St} {ρ:bp} {v:V}
theorem EA {x:AV} {d:D} (s:Iu B K H α Z) (h:RP (ow B α Z) K H α v x) (e:FQ Z x=some d):L3.DV B K H v d:=by
 have sub:∀b,B b->ow B α Z b:=fun b z=> .inl z;cases x with
 |fz d'=>cases e;exact DV.ev (Ev.sub sub) h
 |rf i=>
  obtain⟨a,ha,rfl⟩:=h;have e':sh Z (.rf i)=some d:=e;have:∃ds,d= .list ds:=by
   unfold sh at e';dsimp only at e';split at e'
   ·rename_i xs _
    cases q:a6 D7 xs with
    |none=>rw[q] at e';cases e'
    |some ds=>rw[q] at e';cases e';exact⟨_,rfl⟩
   ·cases e'
  obtain⟨ds,rfl⟩:=this;obtain⟨a',vs,Ti,h1,hd,ho⟩:=lz s e';rw[ha] at Ti;cases Ti;exact .lst ⟨KH.of h1,fun z=>absurd ha (s.ba a z i)⟩ (hd.ev (Ev.sub sub))
theorem oi {F:pc} {n:Nat} {vs:List V} {Q:VK} (h:ic K n (w9 F) vs H Q E):wB K n F vs H Q E:=by
 obtain⟨hl,B,ds,hb,dv,w⟩:=h;refine⟨hl,B,[],[],ds.map .fz,CL hb,oQ _ _ (dv.ev (Ev.sub fun b z=>z.elim id fun⟨i,c,q,_⟩=>by simp at q)),?_⟩;unfold w9 at w;cases qF:F (ds.map .fz) [] with
 |bad=>rw[qF] at w;exact w.elim
 |er x Z'=>rw[qF] at w;intro c dx α' H' e' s' k;exact w c dx H' (fun b o h=>e'.kp b o h fun⟨i,c,q,_⟩=>by simp at q) (S2.sub (fun b z=> .inl z) k)
 |ok x Z'=>
  rw[qF] at w;intro α' H' e' s' v hv;have sm:IX H H':=fun b o h=>e'.kp b o h fun⟨i,c,q,_⟩=>by simp at q
  cases x with
  |fz d=>exact w v H' sm (DV.ev (Ev.sub fun b z=> .inl z) hv)
  |tp l=>
   dsimp only at w;cases qs:a6 (FQ Z') l with
   |none=>rw[qs] at w;exact w.elim
   |some es=>rw[qs] at w;obtain⟨a,xs,rfl,ht,hp⟩:=hv;exact w (.ref a) H' sm (.tup (ht.ev (Ev.sub fun b z=> .inl z)) (jE (cM (R:=RP (ow B α' Z') K H' α') (S:=L3.DV B K H') (fun v x y r e=>EA s' r e) hp qs)))
  |rf i=>
   dsimp only at w;cases qs:sh Z' (.rf i) with
   |none=>rw[qs] at w;exact w.elim
   |some d=>
    rw[qs] at w;cases d with
    |list es=>obtain⟨a,us,ha,h1,hd,ho⟩:=lz s' qs;obtain⟨xs,q1,_⟩:=u3 qs;obtain⟨a',Ti,rfl⟩:=hv;rw[ha] at Ti;cases Ti;refine w a us H' sm ((e'.lv a ⟨i,_,ha,q1,by intro z;cases z⟩).elim (fun⟨i,c,q,_⟩=>by simp at q) id) h1 (hd.ev (Ev.sub fun b z=>z.elim (fun z=> .inl z) fun z=>by rw[z];exact ho))
    |_=>exact w.elim
end
end L10
namespace L10
open PySem PySem.SeqAt PySem.Spec PySem.W PyProof.Rows L2 L3
end L10
namespace L10
open PySem PyProof.Rows L2 L3
end L10
namespace L10
open PySem PySem.Spec PyProof.Rows L2 L3
end L10
namespace L10
open PySem PyProof.Rows L2 L3
section
variable {O O':aX} {K:Hf} {H H':Hp} {a b:Hj} {xs:List V} {φ:Heap->Prop}
def FR (a:Hj) (O:aX) (H:Hp) (O':aX) (H':Hp):Prop:=∀b o,b≠a->H b=some o->¬O b->H' b=some o/\¬O' b
theorem NQ.Rr (hx:H a=some (.ext φ)) (h:NQ O K H b xs) (e:FR a O H O' H'):NQ O' K H' b xs:=by
 obtain⟨h,k⟩:=h;by_cases z:O b
 ·exact⟨KH.same (gS H') (k z),fun _=>k z⟩
 ·rcases h with(h|⟨o,h⟩)|h
  ·obtain⟨h1,h2⟩:=e b _ (fun y=>by rw[y,hx] at h;cases h) h z;exact⟨.inl (.inl h1),fun y=>absurd y h2⟩
  ·obtain⟨h1,h2⟩:=e b _ (fun y=>by rw[y,hx] at h;cases h) h z;exact⟨.inl (.inr ⟨o,h1⟩),fun y=>absurd y h2⟩
  ·exact⟨.inr h,fun _=> .inr h⟩
theorem Mp.Rr (hx:H a=some (.ext φ)) (h:Mp O K H b xs) (e:FR a O H O' H'):Mp O' K H' b xs:=by
 obtain⟨h,k⟩:=h;by_cases z:O b
 ·exact⟨(gS H').tup (k z),fun _=>k z⟩
 ·rcases h with(h|⟨o,h⟩)|h
  ·obtain⟨h1,h2⟩:=e b _ (fun y=>by rw[y,hx] at h;cases h) h z;exact⟨.inl (.inl h1),fun y=>absurd y h2⟩
  ·obtain⟨h1,h2⟩:=e b _ (fun y=>by rw[y,hx] at h;cases h) h z;exact⟨.inl (.inr ⟨o,h1⟩),fun y=>absurd y h2⟩
  ·exact⟨.inr h,fun _=> .inr h⟩
mutual
theorem DV.Rr (hx:H a=some (.ext φ)) (e:FR a O H O' H'):∀{v:V} {d:D},L3.DV O K H v d->L3.DV O' K H' v d
 |_,_,.JD=> .JD
 |_,_,.bl b=> .bl b
 |_,_,.int i=> .int i
 |_,_,.str x=> .str x
 |_,_,.tup h hs=> .tup (Mp.Rr hx h e) (Jm.Rr hx e hs)
 |_,_,.lst h hs=> .lst (NQ.Rr hx h e) (Jm.Rr hx e hs)
theorem Jm.Rr (hx:H a=some (.ext φ)) (e:FR a O H O' H'):∀{vs:List V} {ds:List D},L3.Jm O K H vs ds->L3.Jm O' K H' vs ds
 |_,_,.nil=> .nil
 |_,_,.cons h hs=> .cons (DV.Rr hx e h) (Jm.Rr hx e hs)
end
end
end L10
namespace PySem
open Sem (wp)
open PyProof.Rows
end PySem
namespace L10
open PySem PySem.Spec PyProof.Rows L2 L3
end L10
namespace L10
open PySem PyProof.Rows L2 L3
section
variable {B O O':aX} {K:Hf} {E:XK} {H H' H1 H2:Hp} {α α' α1 α2:List Hj} {Z Z' Z1 Z2:bH} {σ:L2.St} {ρ:bp} {v:V}
noncomputable def iR:List (cy×cy)->bp->bH->RS (List (aK×SV))
 |[],_,Z=> .ok [] Z
 |(fk,fv)::r,ρ,Z=>(fk ρ Z).bind fun x Z1=>(RS.IJ Z1 (jS x)).bind fun k Z1=>(fv ρ Z1).bind fun y Z2=>(iR r ρ Z2).bind fun ps Z3=> .ok ((k,y)::ps) Z3
def mS (K:Hf) (E:XK) (Oe:List (TE×TE)) (fs:List (cy×cy)):Prop:=
 ∀(B:aX) (σ:L2.St) (H:Hp) (α:List Hj) (Z:bH) (ρ:bp) (Q:List (V×V)->Hp->Prop),Iu B K H α Z->Ks (ow B α Z) K H α σ ρ->WS K E B H α Z (fun ps α' Z' H'=>∀vs,Paired (fun(p:V×V) (q:aK×SV)=>p.1=kV q.1/\Lm (ow B α' Z') K H' α' p.2 q.2) vs ps->Q vs H') (iR fs ρ Z)->nj Oe σ H Q
theorem ve:mS K E [] []:=fun B σ H α Z ρ Q s sl w=>WS.now s w [] .nil
theorem ql {tk tv:TE} {Oe:List (TE×TE)} {fk fv:cy} {fs:List (cy×cy)} (hk:gR K E tk fk) (hv:gR K E tv fv) (hr:mS K E Oe fs):mS K E ((tk,tv)::Oe) ((fk,fv)::fs):=by intro B σ H α Z ρ Q s sl w;refine hk B σ H α Z ρ _ s sl (w.bind.imp fun x α1 Z1 H1 e1 s1 w1 v Wv=> ?_);obtain⟨k,q,w1⟩:=WS.IJ w1;have ev:=i9 q Wv;refine hv B σ H1 α1 Z1 ρ _ s1 (sl.Lp e1) (w1.bind.imp fun y α2 Z2 H2 e2 s2 w2 u hu=> ?_);refine hr B σ H2 α2 Z2 ρ _ s2 ((sl.Lp e1).Lp e2) (w2.bind.imp fun ps α3 Z3 H3 e3 s3 w3 vs RQ=> ?_);exact WS.now s3 w3 _ (.cons ⟨ev,hu.Lp e3⟩ RQ)
noncomputable def ma (fs:List (cy×cy)):cy:=fun ρ Z=>(uW (iR fs ρ Z)).bind fun ps Z1=>if ps.length<=15 then .ok (.rf Z1.length) (Z1++[.Jh (cB [] ps)]) else .bad
theorem qD:∀{vs:List (V×V)} {ps:List (aK×SV)},Paired (fun(p:V×V) (q:aK×SV)=>p.1=kV q.1/\Lm O K H α p.2 q.2) vs ps->∃kvs:List (aK×V),vs=kvs.map (fun kv=>(kV kv.1,kv.2))/\o8 O K H α kvs ps
 |_,_,.nil=>⟨[],rfl,.nil⟩
 |(x,y)::_,(k,z)::_,.cons h t=>by obtain⟨kvs,rfl,h2⟩:=qD t;obtain⟨h3,h4⟩:=h;dsimp only at h3;subst h3;exact⟨(k,y)::kvs,rfl,.cons ⟨rfl,h4⟩ h2⟩
theorem Iu.SA {p:Hj} {c:Cell} (s:Iu (bX B p) K H α Z) (hc:c≠ .dead) (hq:H p≠none) (hv:RF (ow (bX B p) α Z) K H α p c) (hB:¬B p):Iu B K H (α++[p]) (Z++[c]):=by
 have eo:ow (bX B p) α Z=ow B (α++[p]) (Z++[c]):=yz s.len hc;have hn:∀i:Nat,α[i]?≠some p:=s.ba p (.inr rfl);have ev:Ev (ow (bX B p) α Z) H (ow B (α++[p]) (Z++[c])) H:=by rw[eo];exact fun b o h n=>⟨h,n⟩
 refine⟨by rw[Hn,Hn,s.len];rfl,fun i j a h1 h2=> ?_,fun a h=>s.bn a (.inl h),fun a h i z=> ?_,fun i a h=> ?_,fun i a c' h1 h2=> ?_⟩
 ·rcases bt h1 with g1|⟨e1,e2⟩<;>rcases bt h2 with g2|⟨e3,e4⟩
  ·exact s.nd i j a g1 g2
  ·rw[e4] at g1;exact absurd g1 (hn i)
  ·rw[e2] at g2;exact absurd g2 (hn j)
  ·omega
 ·rcases bt z with z|⟨_,rfl⟩
  ·exact s.ba a (.inl h) i z
  ·exact hB h
 ·rcases bt h with h|⟨_,rfl⟩
  ·exact s.al i a h
  ·exact hq
 ·rcases bt h2 with h2|⟨e2,rfl⟩
  ·rcases bt h1 with h1|⟨e1,rfl⟩
   ·exact(s.QH i a c' h1 h2).ev ev (fun _ _ h=>eW h) fun _ q=>q
   ·have:=(Hm.mp h2).1;rw[<-s.len] at this;omega
  ·rcases bt h1 with h1|⟨e1,rfl⟩
   ·have:=(Hm.mp h1).1;rw[s.len] at this;omega
   ·exact hv.ev ev (fun _ _ h=>eW h) fun _ q=>q
theorem zu {ps:List (aK×SV)} {kvs:List (aK×V)} (h:o8 O K H α kvs ps):kvs.length=ps.length:=h.length
theorem qE {Oe:List (TE×TE)} {fs:List (cy×cy)} (h:mS K E Oe fs):gR K E (BE Oe) (ma fs):=by
 intro B σ H α Z ρ Q s sl w p hp;have hB:¬B p:=fun z=>s.bn p z hp;have s1:Iu (bX B p) K (aY H p (.dK [])) α Z:=s.hide hp;have SU:Ks (ow (bX B p) α Z) K (aY H p (.dK [])) α σ ρ:=by
  have ev:Ev (ow B α Z) H (ow (bX B p) α Z) (aY H p (.dK [])):=fun b o h n=>by
   have hb:b≠p:=fun z=>by rw[z,hp] at h;cases h
   refine⟨by rw[aj hb];exact h,fun z=> ?_⟩;rcases z with(z|z)|z
   ·exact n (.inl z)
   ·exact hb z
   ·exact n (.inr z)
  exact⟨sl.1,fun j x hx=>let⟨v,h1,h2⟩:=sl.2 j x hx;⟨v,h1,h2.ev ev fun _ _ h=>h⟩⟩
 unfold ma at w;cases qr:iR fs ρ Z with
 |er x Zf=>rw[qr] at w;exact w.elim
 |bad=>rw[qr] at w;exact w.elim
 |ok ps Zf=>
  rw[qr] at w;have w:WS K E B H α Z (PQ B K Q) (if ps.length<=15 then .ok (.rf Zf.length) (Zf++[.Jh (cB [] ps)]) else .bad):=w;refine h (bX B p) σ _ α Z ρ _ s1 SU ?_;rw[qr];intro α' H' e' s' vs RQ;have Vy:H' p=some (.dK []):=e'.kp p _ ar fun⟨i,c,q,_⟩=>s1.ba p (.inr rfl) i q;obtain⟨kvs,rfl,pr⟩:=qD RQ;by_cases hl:ps.length<=15
  ·rw[if_pos hl] at w;refine⟨Vy,kvs,rfl,by rw[zu pr];exact hl,?_⟩;have em:Ev (ow (bX B p) α' Zf) H' (ow (bX B p) α' Zf) (aY H' p (.dK (cP [] kvs))):=Ev.mut (.inl (.inr rfl)) _;have pr2:o8 (ow (bX B p) α' Zf) K (aY H' p (.dK (cP [] kvs))) α' (cP [] kvs) (cB [] ps):=ot (Paired.Mi pr fun _ _ q=>⟨q.1,q.2.ev em fun _ _ h=>h⟩) .nil;have s2:=(s'.WU (o':= .dK (cP [] kvs)) Vy).SA (c:= .Jh (cB [] ps)) (by intro z;cases z) (by rw[ar];simp) ⟨_,ar,pr2⟩ hB;have e2:Ko α Z H α' Zf (aY H' p (.dK (cP [] kvs))):=((Ko.same (bq hp _)).trans e').dd hp;exact w (α'++[p]) _ ⟨fun i a h=>eW (e2.pre i a h),e2.kp,fun b z=>(oG s'.len z).elim (e2.lv b) fun z=> .inr (by rw[z];exact hp)⟩ s2 (.ref p) ⟨p,by rw[<-s'.len];exact db,rfl⟩
  ·rw[if_neg hl] at w;exact w.elim
theorem ud:iR [] ρ Z= .ok [] Z:=rfl
theorem qH {fk fv:cy} {fs:List (cy×cy)} {x y:SV} {k:aK} {ps:List (aK×SV)} {Z3:bH} (hk:fk ρ Z= .ok x Z1) (q:jS x=some k) (hv:fv ρ Z1= .ok y Z2) (hr:iR fs ρ Z2= .ok ps Z3):iR ((fk,fv)::fs) ρ Z= .ok ((k,y)::ps) Z3:=by unfold iR;rw[hk,RS.bind_ok,q];show((fv ρ Z1).bind _)=_;rw[hv,RS.bind_ok,hr,RS.bind_ok]
theorem uF {fs:List (cy×cy)} {ps:List (aK×SV)} (h:iR fs ρ Z= .ok ps Z1) (hl:ps.length<=15):ma fs ρ Z= .ok (.rf Z1.length) (Z1++[.Jh (cB [] ps)]):=by unfold ma;rw[h,yE,RS.bind_ok,if_pos hl]
end
end L10
namespace L3
open PySem PySem.Spec PyProof.Rows L2
end L3
namespace L3
open PySem L2
structure NI (K:Hf) (f:Hj) (n:Str) (t:Js):Prop where
 a:HA K Hw n=some (some (.ref f))
 F:∃fd,Lc K n n t f fd
structure MI (K:Hf) (C f:Hj) (m q:Str) (t:Js):Prop where
 a:Ia K (.ref C) m=some (some (.ref f))
 i:J9 K (.ref f)=true
 F:∃fd,Lc K m q t f fd
structure CI (K:Hf) (C:Hj) (n:Str) (fs:List Str):Prop where
 a:HA K Hw n=some (some (.ref C))
 pg:Pq K C Str.empty=true
 hd:KQ K C=true
 po:Pc K C=true
 sa:Ia K (.ref C) "__setattr__"=some (some (.builtin "object.__setattr__"))
 mm:P9 K C=true
 kc:Jx K (.ref C)=true
 fl:∀x∈fs,k8 K C x
def BA (n q:Str) (t:Js) (ps:List Str):Prop:=∀(kV doc pm:Hg) (an:Option Hj) (Jr ct:Hg) (us:List Hg),us.length=ps.length->bindArgs (Kc n q (iL t) (bQ t) (aq t) .none kV doc pm an Jr ct) ⟨us,[]⟩=pure (ps.zip us)
section
variable {P:Hy} {w:HU} {K:Hf} {mg:Str->Option Hg} {base h:Heap} {f C:Hj} {n m q:Str} {t:Js} {ps fs:List Str} {lv k:Nat} {sp Xx:Sp}
theorem NI.Ny (i:NI K f n t) (X:K.In h) (G:h.Ns Hw mg) (hb:BA n n t ps) (ok:∀fd,Lc K n n t f fd->FnOk P w K mg base ez lv f fd ps sp):mE P w K mg base lv n ps sp:=
 let⟨fd,z⟩:=i.F;⟨f,fd,ok fd z,z.binds hb,z.kp,IH X G i.a⟩
theorem NI.law {fa:Hj} {x:Str} (i:NI K f "law" t) (X:K.In h) (G:h.Ns Hw mg) (WG:mg "law"=some (.ref fa)) (hb:BA "law" "law" t [x]) (ok:∀base fd,Lc K "law" "law" t f fd->FnOk P w K mg base ez lv f fd [x] sp):∃fd:IB,(∀(s:Hi) (v:Hg),MD s fd ⟨[v],[]⟩ [(x,v)])/\∀base:Heap,K.In base->base.Ns Hw mg->FnOk P w K mg base ez lv fa fd [x] sp:=by have e:=WG.symm.trans (IH X G i.a);cases e;obtain⟨fd,z⟩:=i.F;obtain⟨oc,od,kV,doc,pm,an,Jr,ct,QW,rfl,lk,Pm⟩:=z.ex;exact⟨_,fun s v=> .of_eq (hb kV doc pm an Jr ct [v] rfl),fun base _ _=>ok base _ z⟩
theorem uK {A:HM} {k:Nat} (hr:JW k A):A.units+65<cLine:=by have:=hr.un;omega
theorem tU {X:Cx} {E:XK} {b:List Js} {u:TS} {g:FS} (p:SO K E u g) (h:MS X b u):∃t,MS X b t/\SO K E t g:=⟨_,h,p⟩
theorem Fq {X:Cx} {E:XK} {b:List Js} {u:TS} {g:L10.ef} (p:L10.kl K E u g) (h:MS X b u):∃t,MS X b t/\L10.kl K E t g:=⟨_,h,p⟩
theorem im {x qual:Str} {st:Js} {fd:IB} {N:List Str} {n m:Nat} {g:FS} {FF:FN} (F:Lc K x qual st f fd) (S:JJ N ps (aq st)) (hn:ps.length=n) (hm:N.length=m) (hF:FF=dD m g)
  (KN:∀(Jr:Hg) (A:HM) (outer:List Env) (s:Hi) (H:Hp) (E:XK),N.Nodup->JW k (A.deeper (Ii qual (aq st) s.heap.objs.size f Jr))->(A.deeper (Ii qual (aq st) s.heap.objs.size f Jr)).units+64<cLine->(A.deeper (Ii qual (aq st) s.heap.objs.size f Jr)).units+1<cLine->(A.deeper (Ii qual (aq st) s.heap.objs.size f Jr)).units+65<cLine->
   ∃t,MS (dH ez P w K mg base N qual (aq st) f Jr A outer s H E).Q6 (bQ st) t/\SO K E t g):FnOk P w K mg base ez (k+1) f fd ps (ic K n FF):=
 G3 F S hn hm hF fun Jr A outer s H E hr=>KN Jr A outer s H E S.nd hr hr.units (yM hr) (uK hr)
theorem Ac {x qual:Str} {st:Js} {fd:IB} {N:List Str} {n m:Nat} {g:L10.ef} {FF:L10.pc} (F:Lc K x qual st f fd) (S:JJ N ps (aq st)) (hn:ps.length=n) (hm:N.length=m) (hF:FF=L10.j4 m g)
  (KN:∀(Jr:Hg) (A:HM) (outer:List Env) (s:Hi) (H:Hp) (E:XK),N.Nodup->JW k (A.deeper (Ii qual (aq st) s.heap.objs.size f Jr))->(A.deeper (Ii qual (aq st) s.heap.objs.size f Jr)).units+64<cLine->(A.deeper (Ii qual (aq st) s.heap.objs.size f Jr)).units+1<cLine->(A.deeper (Ii qual (aq st) s.heap.objs.size f Jr)).units+65<cLine->
   ∃t,MS (dH ez P w K mg base N qual (aq st) f Jr A outer s H E).Q6 (bQ st) t/\L10.kl K E t g):FnOk P w K mg base ez (k+1) f fd ps (L10.wB K n FF):=
 L10.G4 F S hn hm hF fun Jr A outer s H E hr=>KN Jr A outer s H E S.nd hr hr.units (yM hr) (uK hr)
end
end L3
namespace L2
open PySem PySem.Spec PyProof.Rows
noncomputable def Ga (hi:Int) (n:Nat):It:=⟨fun i _=>i<n,fun i H x H'=>H'=H/\x= .int (hi - i),fun i _=>n<=i⟩
theorem vx {P:Hy} {w:HU} {K:Hf} {tg:HI} (it:Hj) (hi:Int) (n:Nat):Turn P w K tg (Ga hi n) [it] it (fun i h=>N5 h it (hi+(i:Nat)*(-1)) ((n:Int) - (i:Nat)) (-1)) where
 mem:=by simp
 obj:=fun i h st b hb=>by
  have e:b=it:=by simpa using hb
  subst e;exact⟨_,st,fun v z=>by have z':Tt.fields _=Tt.cell v:=z;cases z'⟩
 keep:=fun i h h' st k=>k it (by simp) _ st
 item:=by intro X hP hw hK hc i pins s σ H E I hf st hg;subst hP hw hK;obtain⟨f0,f1,f2,f3,f4,f5⟩:=hf it (by simp);have W:=V2.range (prog:=X.prog) (w:=X.w) (I.ok.hd hc) it hi (-1) n;refine W.item i s _ _ hg st fun v h' tk hv QG kk=> ?_;obtain⟨t,rfl⟩:=hv;have I1:Inv X pins σ H {s with heap:=h',toks:=tk}:=I.turned (fun b o hb e=>kk b o (by simpa using hb) e) f0 f1 f3 f4 f5;refine⟨_,rfl,uB (s:={s with heap:=h',toks:=tk}) (n:= "range_iterator") QG rfl rfl (by decide) ⟨.int (hi - i),H,I1,⟨t,?_⟩,⟨rfl,rfl⟩,QG,fun b hb=>(hf b hb).1⟩⟩;rw[show hi+(i:Int)*(-1)=hi - i by omega]
 done:=by intro X hP hw hK hc i pins s σ H E I hf st hg;subst hP hw hK;obtain⟨f0,f1,f2,f3,f4,f5⟩:=hf it (by simp);exact Qk (I.ok.hd hc) st (by have:n<=i:=hg;omega) fun h' eb=>⟨rfl,I.turned (t':=s.toks) (fun b o hb e=>eb b o hb e) f0 f1 f3 f4 f5⟩
 self:=fun _ _ _ _ _ st h=>Ql st h
theorem gI (a b:Int):Builtin.Range.rangeSize a b (-1)=if b<a then a - b else 0:=by unfold Builtin.Range.rangeSize;simp only[show¬((-1:Int)>0) by decide,if_false,Int.neg_neg,OD];split<;>omega
theorem tj {a b:Int} (ha: -(2^62)<=a) (Ti:a<2^62) (hb: -(2^62)<=b) (hb':b<2^62):Builtin.Range.small a b (-1)=true:=by unfold Builtin.Range.small;rw[gI];simp only[Builtin.Range.rangeFitsLong,Ip,Rh,decide_eq_true_eq,beq_iff_eq,show¬((-1:Int)>0) by decide,if_false];split<;>omega
section
variable {X:Cx} {tg:HI}
theorem vK {pins:List (Hj×Obj)} {σ:St} {H:Hp} {s:Hi} {R:It->Hp->Prop} {E:Hg->Hi->Prop} {hi lo:Int} {t u v:Tok} {tk:Nat} (I:Inv X pins σ H s) (h1: -(2^62)<=hi) (h2:hi<2^62) (h3: -(2^62)<=lo) (h4:lo<2^62)
  (q:R (Ga hi (hi - lo).toNat) H):wpAny (model X.prog X.w) X.A (pyIter (.ref s.heap.objs.size)) (GA X pins σ tg R) E {s with heap:=s.heap.push {cls:= .type "range",data:= .fields #[.int hi t,.int lo u,.int (-1) v]},toks:=tk}:=by
 refine R0 (IsRange.new ..) (tj h1 h2 h3 h4) ?_;have I1:Inv X pins σ H {s with heap:=s.heap.push {cls:= .type "range",data:= .fields #[.int hi t,.int lo u,.int (-1) v]},toks:=tk}:=I.kept fun b o e=>Heap.get?_push_of_some _ e;refine⟨(s.heap.push {cls:= .type "range",data:= .fields #[.int hi t,.int lo u,.int (-1) v]}).objs.size,[(s.heap.push {cls:= .type "range",data:= .fields #[.int hi t,.int lo u,.int (-1) v]}).objs.size],_,_,H,rfl,
  I1.kept (t':=tk) fun b o e=>Heap.get?_push_of_some _ e,vx _ hi (hi - lo).toNat,?_,fun b hb=> ?_,q⟩
 ·have e1:hi+((0:Nat):Int)*(-1)=hi:=by simp
  have e2:(((hi - lo).toNat:Nat):Int) - ((0:Nat):Int)=Builtin.Range.rangeSize hi lo (-1):=by rw[gI];split<;>omega
  show N5 _ _ (hi+((0:Nat):Int)*(-1)) ((((hi - lo).toNat:Nat):Int) - ((0:Nat):Int)) (-1);rw[e1,e2];exact Heap.get?_push_size _ rfl
 ·have e:b=(s.heap.push {cls:= .type "range",data:= .fields #[.int hi t,.int lo u,.int (-1) v]}).objs.size:=by simpa using hb
  subst e;exact I1.Ol (Ho _) (I1.IW.fresh (Ho _))
def B9 (ta:TA):TI:=fun σ H R=>ta σ H fun vs H1=>∃i j:Int,vs=[.int i,.int j,.int (-1)]/\(-(2^62)<=i/\i<2^62/\ -(2^62)<=j/\j<2^62)/\R (Ga i (i - j).toNat) H1
theorem vp {a b c:HI} {ta:TA} {p pos:Pos} (hg:Gl X "range") (hm:X.mg "range"=none) (ha:PA X [a,b,c] ta) (hs:HL [a,b,c] X.env=[(false,eval a X.env),(false,eval b X.env),(false,eval c X.env)]:=by rfl) (YH:HL [b,c] X.env=[(false,eval b X.env),(false,eval c X.env)]:=by rfl):
  PI X tg (.Call (.Name "range" p) [a,b,c] [] pos) (B9 ta):=by
 intro pins s σ H R I h;refine Call_ (io I hg hm boot_range (Je (bF (ha pos pins s σ H _ I h) fun us s1 ⟨vs,H1,I1,r1,q1⟩=> ?_) (by rw[hs,YH]) (by rw[YH];rfl)));obtain⟨i,j,e,⟨q1,q2,q3,q4⟩,q⟩:=q1;subst e;cases r1 with
 |cons r rr=>
  cases rr with
  |cons r' rr=>
   cases rr with
   |cons r'' rr=>cases rr;obtain⟨t,rfl⟩:=r;obtain⟨t',rfl⟩:=r';obtain⟨t'',rfl⟩:=r'';exact call_range_3 (by decide) (vK I1 q1 q2 q3 q4 q) (.inl (PyProof.noPylong_small (by omega)))
end
end L2
namespace L3
open PySem PySem.Spec PyProof.Rows L2
section
variable {K:Hf} {E:XK}
noncomputable def cR (hi:Int) (n:Nat):List D:=(HF n).map fun(k:Nat)=> .int (hi - (k:Int))
theorem AC {O:aX} {H:Hp} {hi:Int} {n:Nat}:vD K (Ga hi n) O H (cR hi n):=by
 intro O' H' e nn;have hl:(cR hi n).length=n:=by unfold cR;rw[Hk,HC]
 refine⟨fun i hi=> ?_,by show n<=_;rw[hl];exact Ho _⟩;rw[hl] at hi;refine⟨hi,?_⟩;rintro x Qj ⟨rfl,rfl⟩;exact⟨IX.refl _,.int (_ - i),by unfold cR;rw[Hv,Ma hi];rfl,.int _⟩
noncomputable def xJ:List D->Option (List D)
 |[.int i,.int j,.int (-1)]=>if cI i/\cI j then some (cR i (i - j).toNat) else none
 |_=>none
theorem Ag {ta:TA} {fa:FA} (h:AO K E ta fa):IO K E (B9 ta) (dM xJ fa):=by
 intro B H0 O σ H ρ R' R w;refine h B H0 O σ H ρ _ R (w.bind.imp fun a w1 O1 vs H1 e1 R1 p1=> ?_);obtain⟨ds,q,w1⟩:=w1.IJ;obtain⟨xs,qx,w1⟩:=w1.IJ;have px:=mW R1 p1 q;unfold xJ at qx;split at qx
 ·rename_i i j
  split at qx
  ·rename_i hj
   cases qx;cases px with
   |cons h1 h2=>
    cases h2 with
    |cons h2 h3=>
     cases h3 with
     |cons h3 h4=>cases h4;cases h1;cases h2;cases h3;exact⟨i,j,rfl,⟨hj.1.1,hj.1.2,hj.2.1,hj.2.2⟩,w1 O1 _ H1 e1 R1 AC⟩
  ·cases qx
 ·cases qx
end
end L3
namespace L10R
open PySem PySem.Calls PyProof.Rows
theorem DJ:typeLookup (.type "list_reverseiterator") "__len__"=pure none:=by rw[K2,JS];kernel_rfl
theorem wy:typeLookup (.type "list_reverseiterator") "__length_hint__"=pure (some (.builtin "list_reverseiterator.__length_hint__")):=by rw[K2,JS];kernel_rfl
section
variable {prog:Hy} {w:HU} {A:HM} {E:Hg->Hi->Prop} {s:Hi} {r l:Hj} {items:Array Hg}
theorem yo {Q:Bool->Hi->Prop} (hT:s.TypeIs (.ref r) "list_reverseiterator") (h:Q false s):wpAny (model prog w) A (Builtin.List.listLengthHint (.ref r)) Q E s:=by
 unfold Builtin.List.listLengthHint;refine Hh (N9 hT DJ ?_);dsimp only;refine Kj (fun Qx=>absurd Qx (by decide)) (fun _=> ?_);refine Kj (fun Qx=>absurd Qx (by decide)) (fun _=> ?_);refine Hh (N9 hT wy ?_);generalize Er:("list_reverseiterator.__length_hint__":String)=Y2
 wp_delta
 rw[show splitId Y2=some ("list_reverseiterator","__length_hint__") from by subst Er;decide+kernel];subst Er;refine Hh (TM (T:= "list_reverseiterator") (b:=true) hT (by rw[Wc];kernel_rfl) ?_);refine Kj (fun Qx=>absurd Qx (by decide)) (fun _=> ?_);refine Kj (fun _=> ?_) (fun Qx=>absurd (by decide+kernel) Qx);refine Kj (fun Qx=>absurd Qx (by decide+kernel)) (fun _=> ?_);exact Hq h
theorem sy {R:NN->Hi->Prop} (hh:A.handled=none) (LS:l≠r) (hl:s.heap.IsList l items) (hr:s.heap.IsRevIter r l ((items.size:Int) - 1)) (S:Hj) (UK:S≠r) (VF:S≠l) (res:Hg) (c₀:Nat) (hS:s.heap.get? S=some {cls:= .type "list",data:= .seq #[] c₀})
  (hR:∀h' tk Mh c',(∀b o,b≠S->b≠r->s.heap.get? b=some o->h'.get? b=some o)->h'.get? S=some {cls:= .type "list",dict:=none,data:= .seq Mh c',slots:= #[]}->Oa (fun i v=>items[items.size - 1 - i]? =some v) Mh items.size->R (.ok (.ret res)) {s with heap:=h',toks:=tk}) (hn:items.size<=Ht):
  wpAny (model prog w) A.in1 (Builtin.List.listExtendWith (.ref S) (.ref r) res)
   (fun fin s'=>match fin with| .done f=>R (.ok f) s'| .again c'=>c'.quiet=true/\codeAny (model prog w) A c' R s') (fun e s'=>R (.error e) s') s:=by
 have hSf:S∉[r,l]:=by simp only[Ie,Q2,or_false,not_or];exact⟨UK,VF⟩
 have W:=V2.listRev (prog:=prog) (w:=w) (A:=A.in1) hh r l LS items;have st:0<=items.size/\s.heap.IsRevIter r l ((items.size:Int) - 1 - ((0:Nat):Int))/\s.heap.IsList l items:=⟨Jq _,by rw[show(items.size:Int) - 1 - ((0:Nat):Int)=(items.size:Int) - 1 by omega];exact hr,hl⟩;have key:codeAny (model prog w) A (.builtin "list.extend.loop" ⟨[.ref S,.ref r,res],[]⟩) R s:=by
  refine codeAny_extend_loopS W.toS hn S hSf res items.size 0 _ #[] c₀ rfl (Jq _) st hS (Oa.nil _) fun s' Mh c' hm Ue QO=> ?_;rw[Moved.eq_with hm];refine hR s'.heap s'.toks Mh c' (fun b o hb Xm e=>hm.heap b o (fun SN=> ?_) e) Ue QO;rcases Ie.mp SN with e'|SN
  ·exact hb e'
  ·exact Xm (HZ.mp SN)
 unfold Builtin.List.listExtendWith;refine Hh (J6 (T:= "list_reverseiterator") hr.typeIs ?_);have h1:Builtin.List.listSameRef (.ref S) (.ref r)=false:=by simp[Builtin.List.listSameRef,UK]
 have h2:(Hg.type "list_reverseiterator"==Hg.type "list")=false:=by decide+kernel
 have h3:(Hg.type "list_reverseiterator"==Hg.type "tuple")=false:=by decide+kernel
 simp only[h1,h2,h3,R9,KS,if_false];refine Hh (wpAny_pyIter_revIter hr ?_);refine Hh (JA (yo hr.typeIs ?_));refine Kj (fun Qx=>absurd Qx (by decide+kernel)) (fun _=>Hq ⟨Pw PySem.F.plain_extend_loop _,key⟩)
theorem yR {R:NN->Hi->Prop} (hh:A.handled=none) (LS:l≠r) (hl:s.heap.IsList l items) (hr:s.heap.IsRevIter r l ((items.size:Int) - 1)) (S:Hj) (UK:S≠r) (VF:S≠l) (hS:s.heap.get? S=some {cls:= .type "list",data:= .seq #[]})
  (hR:∀h' tk Mh c',(∀b o,b≠S->b≠r->s.heap.get? b=some o->h'.get? b=some o)->h'.get? S=some {cls:= .type "list",dict:=none,data:= .seq Mh c',slots:= #[]}->Oa (fun i v=>items[items.size - 1 - i]? =some v) Mh items.size->R (.ok (.ret .none)) {s with heap:=h',toks:=tk}) (hn:items.size<=Ht):
  wpAny (model prog w) A.in1 (Builtin.«list.__init__» ⟨[.ref S,.ref r],[]⟩)
   (fun fin s'=>match fin with| .done f=>R (.ok f) s'| .again c'=>c'.quiet=true/\codeAny (model prog w) A c' R s') (fun e s'=>R (.error e) s') s:=by
 show wpAny _ _ (do let old<-Builtin.List.listItems (.ref S);Builtin.List.listUpdate (.ref S) (fun _=> #[]);letGo old.toList.reverse;Builtin.List.listExtendWith (.ref S) (.ref r) .none) _ _ s;refine Hh ?_;unfold Builtin.List.listItems;refine Hh (wpAny_seqItems hS rfl (Hq ?_));show wpAny _ _ (updateSeq S (fun _=> #[])>>=fun _=>letGo (#[]:Array Hg).toList.reverse>>=fun _=>Builtin.List.listExtendWith (.ref S) (.ref r) .none) _ _ s;refine Hh (wpAny_updateSeq hS rfl ?_);have hS₂:=Heap.get?_update_self (Obj.mapSeq (fun _=>(#[]:Array Hg))) hS rfl
 have Ng:∀b o,b≠S->s.heap.get? b=some o->(s.heap.update S (Obj.mapSeq (fun _=>(#[]:Array Hg)))).get? b=some o:=
  fun b o hb e=>(Heap.get?_update_other _ _ (Ne.symm hb)).trans e
 refine Hh (wpAny_letGo ?_);refine sy hh LS (hl.at fun o e=>Ng l o VF.symm e) (hr.at fun o e=>Ng r o UK.symm e) S UK VF .none _ hS₂ (fun h' tk Mh c' hk Ue QO=> ?_) hn;exact hR h' tk Mh c' (fun b o hb Xm e=>hk b o hb Xm (Ng b o hb e)) Ue QO
theorem QJ {Q:Hg->Hi->Prop} (hh:A.handled=none) (LS:l≠r) (hl:s.heap.IsList l items) (hr:s.heap.IsRevIter r l ((items.size:Int) - 1)) (hn:items.size<=Ht)
  (hQ:∀h' tk Mh c',(∀b o,b≠r->s.heap.get? b=some o->h'.get? b=some o)->h'.get? s.heap.objs.size=some {cls:= .type "list",dict:=none,data:= .seq Mh c',slots:= #[]}->Oa (fun i v=>items[items.size - 1 - i]? =some v) Mh items.size->Q (.ref s.heap.objs.size) {s with heap:=h',toks:=tk}):
  wpAny (model prog w) A (call (.type "list") [.ref r]) Q E s:=by
 refine We (Q₁:=fun obj s₁=>obj= .ref s.heap.objs.size/\s₁={s with heap:=s.heap.push {cls:= .type "list",data:= .seq #[]}}) PySem.F.called_list (PySem.F.typeCall_list_1 _) PySem.F.entry_list_init
  (code_list_new _ ⟨rfl,rfl⟩) fun obj s₁ h₁=> ?_
 obtain⟨rfl,rfl⟩:=h₁;have hS:(s.heap.push {cls:= .type "list",data:= .seq #[]}).get? s.heap.objs.size=some {cls:= .type "list",data:= .seq #[]}:=Heap.get?_push_size _ rfl;have lr:r<s.heap.objs.size:=by obtain⟨o,e,_⟩:=hr;exact Heap.lt_size e
 have ll:l<s.heap.objs.size:=by obtain⟨o,e,_⟩:=hl;exact Heap.lt_size e
 refine⟨⟨_,hS,rfl⟩,PySem.F.args_list_init_2 _ _,yR (A:=A.in1) hh LS (hl.at fun o e=>Heap.get?_push_of_some _ e) (hr.at fun o e=>Heap.get?_push_of_some _ e) _ (Jp lr) (Jp ll) hS (fun h' tk Mh c' hk Ue QO=> ?_) hn⟩;exact⟨rfl,hQ h' tk Mh c' (fun b o hb e=>hk b o (HK (Heap.lt_size e)) hb (Heap.get?_push_of_some _ e)) Ue QO⟩
end
end L10R
namespace L2
open PySem PySem.Spec PyProof.Rows
section
variable {X:Cx} {e:HI} {te:TE} {p q p1 p2:Pos}
def qZ (K:Hf) (te:TE):TE:=fun σ H Q=>te σ H fun x H1=>∃a xs,x= .ref a/\Lk K H1 a xs/\∀l,H1 l=none->Q (.ref l) (aY H1 l (.lst xs.reverse))
theorem tw:Iq "reversed"=some (.type "reversed"):=by rfl
theorem vO {xs:List V} {us:List Hg} (h:Vals xs us):Vals xs.reverse us.reverse:=by
 induction h with
 |nil=>exact .nil
 |cons h _ ih=>rw[Ji,Ji];exact ih.append (.cons h .nil)
theorem vJ {items acc:Array Hg} (h:Oa (fun i v=>items[items.size - 1 - i]? =some v) acc items.size):acc.toList=items.toList.reverse:=by
 apply Qq;intro j;by_cases hj:j<items.size
 ·have h1:j<acc.size:=by rw[h.1];exact hj
  have e:=h.2 j _ (NH h1);rw[Ot,NH h1,List.getElem?_reverse (by rw[IM];exact hj),IM,Ot];exact e.symm
 ·rw[Kr (by rw[IM,h.1];omega),Kr (by rw[IC,IM];omega)]
theorem yg {pins:List (Hj×Obj)} {σ:St} {H:Hp} {s:Hi} {e:Hj} {o:HO} (I:Inv X pins σ H s) (f:kO X pins H e) (n0:X.s₀.heap.get? e=none) (new:ObjOk X.prog X.w (aY H e o) s.heap e o):Inv X pins σ (aY H e o) s:=by
 obtain⟨ne,nL,_,_,nC,S8⟩:=f;have nS:∀b o,X.s₀.heap.get? b=some o->b≠e:=fun b o z y=>by rw[y,n0] at z;cases z
 have nT:∀b o,H b=some o->b≠e:=fun b o z y=>by rw[y,ne] at z;cases z
 have B:=I.base;refine⟨I.ok,I.os,I.bare,⟨B.keep,B.slot,fun b o z n x=> ?_,B.there,fun b xs z=> ?_,fun b o u z=> ?_,fun b ps z=> ?_⟩,I.loc,I.cell,?_,fun x c z=> ?_,fun p hp=> ?_,fun b u z=> ?_,I.len⟩
 ·rw[aj (nS b o z)];exact B.free b o z n x
 ·have:=B.MA b xs z;rw[aj (nT b _ this)];exact this
 ·have:=B.Ml b o u z;rw[aj (nT b _ this)];exact this
 ·obtain⟨more,y⟩:=B.Mr b ps z;exact⟨more,by rw[aj (nT b _ y)];exact y⟩
 ·rw[aj nL.symm];exact I.free
 ·rw[aj (nC x c z)];exact I.Kl x c z
 ·obtain⟨z,n,r⟩:=I.pin p hp;exact⟨z,by rw[aj (S8 p hp)];exact n,r⟩
 ·by_cases y:b=e
  ·subst y;rw[ar] at z;cases z;exact new
  ·rw[aj y] at z;exact(I.IW b u z).Lw (fun _ _ _ y=>y) (fun c y=>by rw[aj (nT c _ y)];exact y) fun c xs y=>by rw[aj (nT c _ y)];exact y
theorem tm (hc:X.calm=true) (hg1:Gl X "list") (Wk:X.mg "list"=none) (Y3:Gl X "reversed") (Ow:X.mg "reversed"=none) (he:PE X e te)
  (h1:HL [.Call (.Name "reversed" q) [e] [] p2] X.env=[(false,eval (.Call (.Name "reversed" q) [e] [] p2) X.env)]:=by rfl) (h2:HL [e] X.env=[(false,eval e X.env)]:=by rfl):
  PE X (.Call (.Name "list" p) [.Call (.Name "reversed" q) [e] [] p2] [] p1) (qZ X.K te):=by
 intro pins s σ H Q I h;refine JM (io I hg1 Wk xX ?_);refine Je ?_ h1 rfl;rw[h1];show wpAny _ _ (spliced ((false,eval (.Call (.Name "reversed" q) [e] [] p2) X.env)::[])) _ _ s;refine Calls.spliced_cons ?_;refine JM (io I Y3 Ow tw ?_);refine Je ?_ h2 rfl;rw[h2];show wpAny _ _ (spliced ((false,eval e X.env)::[])) _ _ s;refine Calls.spliced_cons (bF (he pins s σ H _ I h) fun u s1 ⟨x,H1,I1,r1,a,xs,ex,hl,q1⟩=>Calls.spliced_nil ?_);subst ex;obtain rfl:u=Hg.ref a:=r1;obtain⟨HW,rv,pl,hz⟩:=I1.list hl;have il:=pl.isList;refine call_reversed_list il (Calls.spliced_nil ?_);have la:a<s1.heap.objs.size:=by obtain⟨o,e,_⟩:=il;exact Heap.lt_size e
 have I2:Inv X pins σ H1 {s1 with heap:=s1.heap.push (revObj a ((HW.toArray.size:Int) - 1))}:=I1.kept (t':=s1.toks) fun b o e=>Heap.get?_push_of_some _ e;have hlen:HW.toArray.size<=Ht:=by rw[Hs,<-rv.length];exact hz
 refine L10R.QJ (r:=s1.heap.objs.size) (l:=a) (items:=HW.toArray) (I1.ok.hd hc) (HK la) (il.at fun o e=>Heap.get?_push_of_some _ e) ⟨_,Heap.get?_push_size _ rfl,rfl,rfl⟩ hlen fun h' tk acc c hk hL hi=> ?_;obtain⟨f0,f1,f2,f3,f4,f5⟩:=I1.Ol (Ho s1.heap.objs.size) (I1.IW.fresh (Ho _));have I3:Inv X pins σ H1 {s1 with heap:=h',toks:=tk}:=Inv.turned (s:={s1 with heap:=s1.heap.push (revObj a ((HW.toArray.size:Int) - 1))}) (t':=tk) (it:=s1.heap.objs.size) I2 (fun b o hb e=>hk b o hb e) f0 f1 f3 f4 f5;have ea:=vJ hi;have hn:H1 (s1.heap.push (revObj a ((HW.toArray.size:Int) - 1))).objs.size=none:=I2.IW.fresh (Ho _);refine⟨.ref (s1.heap.push (revObj a ((HW.toArray.size:Int) - 1))).objs.size,_,?_,rfl,q1 _ hn⟩;have f2:=I2.Ol (H':=H1) (Ho (s1.heap.push (revObj a ((HW.toArray.size:Int) - 1))).objs.size) hn;have n0:X.s₀.heap.get? (s1.heap.push (revObj a ((HW.toArray.size:Int) - 1))).objs.size=none:=by
  cases z:X.s₀.heap.get? (s1.heap.push (revObj a ((HW.toArray.size:Int) - 1))).objs.size with
  |none=>rfl
  |some o=>exact absurd (Hx (Heap.lt_size z) I2.sz) (IT _)
 refine yg I3 f2 n0 ⟨by rw[IC];exact hz,acc.toList,c,by rw[ea];exact vO rv,by rw[Array.toArray_toList];exact hL⟩
end
end L2
namespace L10
open PySem PySem.Spec PyProof.Rows L2 L3
theorem jA:typeLookup (.type "tuple") (dunderI "add")=pure none:=by rw[K2,JS];kernel_rfl
def wU (K:Hf):R2:=fun x y H Q=>∃(a b:Hj) (xs ys:List V),x= .ref a/\y= .ref b/\Lh K H a xs/\Lh K H b ys/\xs.length+ys.length<=Ht/\(xs=[]->Q (.ref b) H)/\(xs≠[]->ys=[]->Q (.ref a) H)/\(xs≠[]->ys≠[]->∀p,H p=none->Q (.ref p) (aY H p (.tup (xs++ys))))
theorem yy {X:Cx}:FW X .Add (wU X.K):=by
 intro pins s σ H x y v u Q I rx ry h;obtain⟨a,b,xs,ys,rfl,rfl,ha,hb,hz,q0,q1,q2⟩:=h;cases rx;cases ry;obtain⟨HW,r1,p1,_⟩:=I.tuple ha;obtain⟨L6,r2,p2,_⟩:=I.tuple hb;obtain⟨⟨cls,dd,data,sl⟩,ho,hc,n,hd⟩:=id p1;obtain⟨⟨TZ,RK,data2,Ob⟩,Pl,OJ,n2,hd2⟩:=id p2;simp only at hc hd OJ hd2;subst hc hd OJ hd2;have e1:HW=[]↔xs=[]:=by cases r1<;>simp
 have e2:L6=[]↔ys=[]:=by cases r2<;>simp
 by_cases hv:HW=[]
 ·exact LV ⟨_,ho,rfl⟩ ⟨_,Pl,rfl⟩ jA J5 KO (JB Jl ⟨_,ho,rfl⟩ Jf (Jb _ _)
   (tuple_addW0 a b HW.toArray L6.toArray n n2 dd RK sl Ob (by simp[hv])) ⟨ho,Pl,⟨.ref b,H,I,rfl,q0 (e1.mp hv)⟩⟩)
 ·by_cases hw:L6=[]
  ·exact LV ⟨_,ho,rfl⟩ ⟨_,Pl,rfl⟩ jA J5 KO (JB Jl ⟨_,ho,rfl⟩ Jf (Jb _ _)
    (tuple_addW1 a b HW.toArray L6.toArray n n2 dd RK sl Ob (by simpa using hv) (by simp[hw])) ⟨ho,Pl,⟨.ref a,H,I,rfl,q1 (fun z=>hv (e1.mpr z)) (e2.mp hw)⟩⟩)
  ·have X3:HW.length+L6.length<=Ht:=by rw[<-r1.length,<-r2.length];exact hz
   refine LV ⟨_,ho,rfl⟩ ⟨_,Pl,rfl⟩ jA J5 KO (JB Jl ⟨_,ho,rfl⟩ Jf (Jb _ _)
    (tuple_addW2 a b HW.toArray L6.toArray n n2 dd RK sl Ob (by simpa using hv) (by simpa using hw) (by rw[Hs,Hs];exact X3)) ⟨ho,Pl,?_⟩)
   have e:HW.toArray++L6.toArray=(HW++L6).toArray:=by simp
   rw[e];exact⟨.ref s.heap.objs.size,_,I.laid (t':=s.toks) (o:= .tup (xs++ys)) (fun b o e=>Heap.get?_push_of_some _ e) (Ho _) ⟨by rw[Hn];exact hz,HW++L6,r1.append r2,_,Heap.get?_push_size _ rfl,⟨⟨rfl,_,rfl⟩,rfl⟩⟩,rfl,q2 (fun z=>hv (e1.mpr z)) (fun z=>hw (e2.mpr z)) _ (I.IW.fresh (Ho _))⟩
noncomputable def jO:D->D->Option RV
 | .tuple xs,.tuple ys=>if xs.length+ys.length<=1000000 then some (.fz (.tuple (xs++ys))) else none
 |_,_=>none
theorem kA {K:Hf}:jg K (wU K) jO:=by
 intro O H x y dx dy rv Q n hx hy e q;unfold jO at e;split at e
 ·split at e
  ·rename_i hl
   cases e;obtain⟨a,xs,rfl,h1,h2⟩:=ri hx;obtain⟨b,ys,rfl,g1,g2⟩:=ri hy;refine⟨a,b,xs,ys,rfl,rfl,h1.1,g1.1,ld (by rw[h2.length,g2.length];exact hl),fun z=> ?_,fun _ z=> ?_,fun _ _=>Fin.Pa (h2.append g2) n q⟩
   ·have z':=h2.ne.mp z;subst z';exact q.at (.tup g1 g2)
   ·have z':=g2.ne.mp z;subst z';rw[Iv] at q;exact q.at (.tup h1 h2)
  ·cases e
 ·cases e
def BU:R2:=GW fun i j=>i - j
theorem AN {X:Cx}:FW X .Sub BU:=DK
theorem qv {K:Hf}:jg K BU lf:=by intro O H x y dx dy rv Q n hx hy e q;obtain⟨i,j,rfl,rfl,rfl⟩:=qJ e;cases hx;cases hy;exact⟨_,_,rfl,rfl,q.at (.int _)⟩
end L10
namespace L9
open PySem PySem.Spec PyProof.Rows L2 L3 L4
def Gi (v:V):Prop:=∃x:Str,v= .str x/\x.length<=400/\∀c∈x.cps.toList,c<16^8
section
variable {X:Cx} {e:HI} {es:List HI} {n:Nat} {te:TE} {t:L2.St->Hp->(Hp->Prop)->Prop} {pos:Pos}
theorem C3 (he:PE X e te) (hr:PJ X es n t):PJ X (.FormattedValue e 114 none pos::es) (n+5000) (fun σ H Q=>te σ H fun v H1=>Gi v/\t σ H1 Q):=by
 intro pins s σ H out Q I hl h;refine joinParts_consE (joinParts_cons (wpAny_FormattedValue_repr (bF (he pins s σ H _ I h) fun u s1 ⟨v,H1,I1,r,⟨x,ex,hx,hc⟩,q⟩=> ?_)));subst ex;obtain⟨tk,rfl⟩:=r;have hlen:=StrLaws.reprText_len x hc;have hsz:(reprText x).length<=Ht:=by rw[JL];omega
 have e:=XW out (reprText x);refine wpAny_pyReprObj_str (wpAny_formatField_str ?_ ?_ hsz) hsz
 ·exact⟨by rw[JL];omega,hr pins _ σ H1 _ Q (I1.tok _) (by omega) q⟩
 ·exact⟨by rw[JL];omega,hr pins _ σ H1 _ Q (I1.tok _) (by omega) q⟩
end
noncomputable def mX (C:Hj) (f:Str):Sp:=fun vs H Q _=>∃e v,vs=[.ref e,v]/\Gi v/\H e=some (.ext (A0 C e))/\∀p,H p=none->p≠e->Q .JD (aY (aY H e (.ext (En C e p))) p (.xd [(f,v)]))
end L9
namespace L2
open PySem PySem.Spec PyProof.Rows
def BF (K:Hf) (te:TE) (tk:TO):TE:=fun σ H Q=>te σ H fun x H1=>tk σ H1 fun o H2=>o=some (-1)/\∃a xs,x= .ref a/\Lk K H2 a xs/\∀p,H2 p=none->Q (.ref p) (aY H2 p (.lst xs.reverse))
theorem AE {X:Cx} {e st:HI} {p2 pos:Pos} {te:TE} {tk:TO} (he:PE X e te) (hk:PO X (some st) tk):PE X (.Subscript e (.Slice none none (some st) p2) pos) (BF X.K te tk):=by
 intro pins s σ H Q I h;refine Subscript_ (bF (he pins s σ H _ I h) fun v s1 ⟨x,H1,I1,r1,q1⟩=> ?_);refine Rg ?_;rw[MN];refine Hq ?_;refine Hq (bF (hk pins s1 σ H1 _ I1 q1) fun vk s3 ⟨o,H3,I3,pk,e3,a,xs,ea,hx,q3⟩=> ?_);subst e3 ea;cases r1;have I4:Inv X pins σ H3 {s3 with heap:=s3.heap.push {cls:= .type "slice",data:= .fields #[.none,.none,vk]}}:=I3.kept (t':=s3.toks) fun b ob q=>Heap.get?_push_of_some _ q;obtain⟨HW,r,pl,hz⟩:=I4.list hx;have ht:=pl.isList;have hlen:HW.toArray.size=xs.length:=by rw[Hs];exact r.length.symm
 show wpAny (model X.prog X.w) X.A (subscriptTail e (.Slice none none (some st) p2) (.ref a) (.ref s3.heap.objs.size)) (EP X pins σ Q) X.xe {s3 with heap:=s3.heap.push {cls:= .type "slice",data:= .fields #[.none,.none,vk]}};refine tail_any (ops:=[.ref a,.ref s3.heap.objs.size]) (Heap.IsList.typeIs (s:={s3 with heap:=s3.heap.push {cls:= .type "slice",data:= .fields #[.none,.none,vk]}}) ht) list_getitem_lookup ?_ (by with_unfolding_all rfl);refine Pr ht (Heap.IsSliceOf.new ..) .none .none pk (by decide) ?_ (by rw[hlen];exact hz);rw[PySem.W.krv_pick];refine⟨.ref _,_,I4.laid (t':=s3.toks) (o:= .lst xs.reverse) (fun b ob q=>Heap.get?_push_of_some _ q) (Ho _) ?_,rfl,q3 _ (I4.IW.fresh (Ho _))⟩;exact⟨by rw[IC];exact hz,HW.reverse,0,qW r,Heap.get?_push_size _ rfl⟩
end L2
namespace L3
open PySem L2
noncomputable def q5:D->Option RV
 | .list ds=>some (.ow ds.reverse)
 |_=>none
theorem Bo {K:Hf} {E:XK} {ta:TE} {fa:FE} (ha:EO K E ta fa):EO K E (BF K ta (uR (FZ (rU fun i=> .int (-i)) (tC (.int 1))))) (o9 q5 fa):=by
 intro B H0 O σ H ρ Q R w;refine ha B H0 O σ H ρ _ R (w.bind.imp fun a w1 O1 x H1 e1 R1 p1=> ?_);obtain⟨d,qd,w1⟩:=w1.IJ;obtain⟨rv,qf,w1⟩:=w1.IJ;have dx:=gc R1 p1 qd;unfold q5 at qf;split at qf
 ·cases qf;obtain⟨b,vs,rfl,k1,k2⟩:=wG dx;refine⟨1,rfl,-1,rfl,rfl,b,vs,rfl,k1.sq,?_⟩;exact Fin.new (L9.mQ k2) (fE (rv:= .ow _) R1 fun O4 v H4 e4 R4 p4=>w1 O4 v H4 (e1.trans e4) R4 p4)
 ·cases qf
end L3
namespace L10
open PySem PySem.Spec PyProof.Rows L2 L3
section
variable {B O O':aX} {K:Hf} {E:XK} {H H' H1 H2:Hp} {α α' α1 α2:List Hj} {Z Z' Z1 Z2:bH} {σ:L2.St} {ρ:bp} {v:V}
noncomputable def uf (fa:cy):cy:=fun ρ Z=>(fa ρ Z).bind fun x Z1=>(RS.IJ Z1 (eh Z1 x)).bind fun p Z2=> .ok (.rf Z2.length) (Z2++[.lst p.2.reverse])
theorem Co {β:Type} {R:V->β->Prop} {vs:List V} {xs:List β} (h:Paired R vs xs):Paired R vs.reverse xs.reverse:=by
 induction h with
 |nil=>exact .nil
 |cons h t ih=>rw[Ji,Ji];exact u7 ih h
theorem xF {te:TE} {fe:cy} (he:gR K E te fe):gR K E (qZ K te) (uf fe):=by intro B σ H α Z ρ Q s sl w;refine he B σ H α Z ρ _ s sl (w.bind.imp fun x α1 Z1 H1 e1 s1 w1 u hu=> ?_);obtain⟨⟨i,xs⟩,q,w1⟩:=WS.IJ w1;obtain⟨qi,a,vs,ha,rfl,h1,h2⟩:=nF s1 hu q;refine⟨a,vs,rfl,Lk.of h1,fun l hl=> ?_⟩;have sm:IX H1 (aY H1 l (.lst vs.reverse)):=bq hl _;have e:Ko α1 Z1 H1 (α1++[l]) (Z1++[.lst xs.reverse]) (aY H1 l (.lst vs.reverse)):=Ko.Oc s1.len sm hl;exact w1 _ _ e (s1.Oc sm hl (by rw[ar];simp) ⟨_,ar,Paired.Mi (Co h2) fun _ _ d=>d.Lp e⟩) _ ⟨l,by rw[<-s1.len];exact db,rfl⟩
theorem A7 {i:Nat} {fa:cy} {xs:List SV} (h:fa ρ Z= .ok (.rf i) Z1) (hl:Z1[i]? =some (.lst xs)):uf fa ρ Z= .ok (.rf Z1.length) (Z1++[.lst xs.reverse]):=by
 have e1:eh Z1 (.rf i)=some (i,xs):=by unfold eh;dsimp only;rw[hl]
 unfold uf;rw[h,RS.bind_ok,e1];rfl
theorem rY {i:Nat} {f:D->D->Option RV} {fe:cy} {x y:SV} {z:SV} {Z3:bH} (hx:ρ[i]? =some (some x)) (he:fe ρ Z= .ok y Z1) (hf:vV f x y Z1= .ok z Z2):l0 i f fe ρ Z= .ok (.nx (ρ.set i (some z))) Z2:=by unfold l0;rw[dc hx,RS.bind_ok,he,RS.bind_ok,hf,RS.bind_ok]
noncomputable def BP (x:Str):Bool:=decide (x.length<=400)&&x.cps.toList.all fun c=>decide (c<1114112)
noncomputable def fL (c f:Str) (fe:cy):ef:=fun ρ Z=>(fe ρ Z).bind fun x Z1=>match x with
 | .fz (.str y)=>if BP y=true then .er ⟨c,[(f,.str y)]⟩ Z1 else .bad
 |_=> .bad
theorem sg {c f:Str} {C:Hj} {te:TE} {fe:cy} (hc:HA K Hw c=some (some (.ref C))) (he:gR K E te fe):kl K E (L9.uv C (L9.mX C f) E (fy te l6)) (fL c f fe):=by
 intro B σ H α Z ρ D s sl w;refine he B σ H α Z ρ _ s sl (WS.imp (WS.bind w) fun x α1 Z1 H1 e1 s1 w1 v hv=> ?_)
 match x,hv,w1 with
 | .fz (.str y),hv,w1=>
  cases hv;dsimp only at w1;by_cases hy:BP y=true
  ·rw[if_pos hy] at w1
   have fw:L9.Gi (.str y):=by unfold BP at hy;rw[Ip,Jc] at hy;exact⟨y,rfl,of_decide_eq_true hy.1,fun k hk=>Hx (of_decide_eq_true (hy.2 k hk)) (by decide)⟩
   refine⟨by show 1<=Ht;decide,fun e hn=>⟨e,.str y,rfl,fw,ar,fun p hp Uv=>⟨rfl,p,?_,?_⟩⟩⟩
   ·rw[aj (Ne.symm Uv),ar]
   ·have hp1:H1 p=none:=by rw[aj Uv] at hp;exact hp
    have sm:IX H1 (L9.Eo (aY (aY (aY H1 e (.ext (L9.A0 C e))) e (.ext (L9.En C e p))) p (.xd [(f,.str y)])) e):=fun b o z=>by
     have n1:b≠e:=fun y=>by rw[y,hn] at z;cases z
     have n2:b≠p:=fun y=>by rw[y,hp1] at z;cases z
     rw[L9.fP n1,aj n2,aj n1,aj n1];exact z
    refine w1 (.ref C) (some p) α1 _ (Ko.same sm) (s1.grow sm) ⟨⟨C,rfl,hc⟩,[(f,.str y)],fun p' q=> ?_,fun f' d' l=>⟨(fun z=>nomatch z),?_⟩⟩
    ·cases q;rw[L9.fP Uv,ar]
    ·have l':(match f'==f with|true=>some (Hr.str y)|false=>Pg f' [])=some d':=l
     cases hb:f'==f with
     |true=>rw[hb] at l';cases l';refine⟨.str y,?_,.str y⟩;show(match f'==f with|true=>some (V.str y)|false=>Pg f' [])=some (.str y);rw[hb]
     |false=>rw[hb] at l';cases l'
  ·rw[if_neg hy] at w1;exact w1.elim
 | .fz .none,_,w1=>exact w1.elim
 | .fz (.bool _),_,w1=>exact w1.elim
 | .fz (.int _),_,w1=>exact w1.elim
 | .fz (.list _),_,w1=>exact w1.elim
 | .fz (.tuple _),_,w1=>exact w1.elim
 | .fz (.dict _),_,w1=>exact w1.elim
 | .rf _,_,w1=>exact w1.elim
 | .tp _,_,w1=>exact w1.elim
end
end L10
namespace L4
open PySem PySem.Spec PyProof.Rows L2 L3
def EH (X:Cx) (st:List Js) (σ:L2.St) (t:TS):Prop:=∀(pins:List (Hj×Obj)) (s:Hi) (H:Hp) (D:Ends),L2.Inv X pins σ H s->t D σ H->wpAny (model X.prog X.w) X.A (execs st X.env) (SP X pins D) X.xe s
def kg (X:Cx) (σ:L2.St) (E2:XK):Hg->Hi->Prop:=fun x s1=>∃H1 e c dx a0 T,x= .ref e/\L2.Inv X [] σ H1 s1/\zG s1.heap e c dx a0 (some T)/\Apart X e/\Apart X T/\H1 e=none/\H1 T=none/\E2 c dx H1
def B4 (E2:XK) (i:Nat) (tb ts:TS):TS:=fun D σ H=>tb D σ H/\∀c dx H1,E2 c dx H1->∀(e:Hj) (ob:Obj),H1 e=none->ob.cls=c->ob.dict=dx->M0 ob=true->
 ts {nx:=fun σ2 H2=>D.nx (σ2.set i none) H2,rt:=fun _ _=>False} (σ.set i (some (.ref e))) (aY H1 e (.frz ob (.own e)))
theorem vF {X:Cx} {σ:L2.St} {E2:XK} {K:Hf} {P:Hy} {w:HU} {mg:Str->Option Hg} {base:Heap} {k j n:Nat} {x:Str} {ps:List Str} {F:FN} {e:HI} {es:List HI} {t:TA} {p pos TX:Pos} (hex:X.ex=[]) (C:Bs P w K mg base k x ps n F) (hP:X.prog=P) (hw:X.w=w) (hK:X.K=K) (hm:X.mg=mg) (Z7:X.base=base) (hr:JW j X.A) (ha:PA (X.LY (kg X σ E2)) (e::es) t) (Xa:k<=j:=by decide) (hg:Gl X x:=by rfl)
  (OI:(x==("__debug__":Str))=false:=by decide) (he:HL (e::es) X.env=(false,eval e X.env)::HL es X.env:=by rfl) (Ov:(backTo pos (HL es X.env)).any (·.1)=false:=by rfl) (hs:Ja (.Call (.Name x p) (e::es) [] pos) none TX.line X.env=pure false:=by rfl):
  EH (X.LY (kg X σ E2)) [.Expr (.Call (.Name x p) (e::es) [] pos) TX] σ (qU (lx (ic K n F) [] E2 t)):=by
 subst hP hw hK hm Z7;obtain⟨f,fd,FF,b,kp,m⟩:=C;intro pins s H D I h;refine NM (bF (V0 (Q:=SP (X.LY (kg X σ E2)) pins D) ?_ I.quiet hs) fun fl s1 q=> ?_)
 ·refine JM (gM I hg m ?_ OI)
  refine OC (h₀:=X.base) I.ok.mod.Qv kp (bF (ha pos pins s σ H _ I h) fun us s1 ⟨vs,H1,I1,r,q⟩=>⟨I1.Mj,?_⟩) he Ov;have r2:Vals (vs++[]) (us++[]):=r.append .nil;have hl:(us++[]).length=ps.length:=by rw[<-r2.length];exact FF.len _ _ _ _ q
  refine MU (LU (FF.run X.A X.stack s1 H1 ⟨us,[]⟩ (us++[]) (vs++[]) _ E2 (hr.mono Xa) I1.Sj (b s1 us I1.Mj hl) r2 q) fun r s' hq=> ?_);cases r with
  |error ex=>obtain⟨e,c,dx,a0,T,H',rfl,le,lT,F,ne,nT,os,bare,un,IW,q⟩:=hq;have I0:=I1.K3;have I':=I0.RO (ch:=[]) os un IW bare (fun b z=>nomatch z);exact⟨H',e,c,dx,a0,T,rfl,I'.NZ (fun p z=>nomatch z),F,lW I0 hex le,lW I0 hex lT,ne,nT,q⟩
  |ok fl=>
   cases fl with
   |ret u=>obtain⟨v,H2,I2,rv,q2⟩:=I1.after hq;exact⟨σ,H2,I2,q2⟩
   |next=>exact False.elim hq
   |brk=>exact False.elim hq
   |cont=>exact False.elim hq
 ·cases fl with
  |next=>exact Ki q
  |ret v=>exact q
  |brk=>exact q
  |cont=>exact q
theorem Au {X:Cx} {body RL:List Js} {b0:Js} {tb ts:TS} {E2:XK} {U:Hj} {x n:Str} {i:Nat} {np WO pos:Pos} {mU:List Hg}
  (hex:X.ex=[]) (hN:X.N.Nodup) (OU:X.stack=X.env::X.outer) (Ph:X.env.frame=some X.env.locals) (hg:Gl X x) (hm:X.mg x=some (.ref U)) (hU:lA X.K U mU) (ZK:mU.contains (.type "BaseException")=true)
  (hi:X.N[i]? =some n) (S4:X.env.kindOf n=some .local) (hb:∀l σ,EH ((Cx.pinned X l).LY (kg (Cx.pinned X l) σ E2)) body σ tb) (hs:∀l e,MS (Cx.marked (Cx.pinned X l) e) (b0::RL) ts)
  (hE:∀c dx H,E2 c dx H->∃C m,c= .ref C/\lA X.K C m/\(Hg.ref C::m).contains (.ref U)=true) (OI:(x==("__debug__":Str))=false:=by decide):
  PS X (.Try body [.ExceptHandler (some (.Name x np)) (some n) (b0::RL) WO] [] [] pos) (B4 E2 i tb ts):=by
 intro pins s σ H D I ⟨h,hc⟩;have IY:=zS I;have Sy:(Cx.pinned X (X.pn++pins)).ex=[]:=hex;refine wpAny_Try_except (wpAny_mono (hb (X.pn++pins) σ [] s H D (IY.LY _) h) (fun f s1 hf=> ?_) (fun v s1 hx=> ?_))
 ·have hf:=SP.K3 hf
  cases f with
  |next=>obtain⟨σ1,H1,I1,q1⟩:=hf;exact Ki ⟨σ1,H1,fx I.ok I1,q1⟩
  |brk=>obtain⟨σ1,H1,I1,q1⟩:=hf;exact⟨σ1,H1,fx I.ok I1,q1⟩
  |cont=>obtain⟨σ1,H1,I1,q1⟩:=hf;exact⟨σ1,H1,fx I.ok I1,q1⟩
  |ret u=>obtain⟨v,σ1,H1,I1,r,q1⟩:=hf;exact⟨v,σ1,H1,fx I.ok I1,r,q1⟩
 ·obtain⟨H1,e,c,dx,a0,T,rfl,I1,F,aE,aT,ne,nT,q⟩:=hx
  obtain⟨C,mC,WL,⟨n1,q1,N1,b1,d1,t1,u1,a1,l1,x1,i0,i1,i2,i3,i5,Sv,kC⟩,Za⟩:=hE c dx H1 q;obtain⟨n2,q2,N2,b2,d2,t2,u2,a2,l2,x2,j0,j1,j2,j3,j5,Yq,kU⟩:=hU;have fr:X.A.frames=some (X.env::X.outer):=by rw[<-OU];exact I.ok.frames
  have ff:s1.heap.FunFrames X.base (X.env::X.outer):=by rw[<-OU];exact I1.stack
  refine Bm fr ff Ph F fun h2 T2 z2 F2 WZ=> ?_
  have I2:L2.Inv (Cx.pinned X (X.pn++pins)) [] σ H1 {s1 with heap:=h2}:=qp I1 (fun b=>b=e\/b=T) Sy (fun p hp y=>y.elim (aE.nP p hp) (aT.nP p hp))
   (fun b o z nS nf=>WZ.keep b o z (fun y=>nS (.inl y)) (fun y=>nS (.inr (HJ y).symm)) (by rw[<-OU];exact nf))
   (fun b o z nS=>WZ.slot b o z (fun y=>nS (.inl y)) (fun y=>nS (.inr (HJ y).symm))) WZ.here
   (fun b y=>y.elim (fun y=>by rw[y];exact aE.n0) (fun y=>by rw[y];exact aT.n0)) (fun y=>y.elim (fun y=>aE.nL y.symm) (fun y=>aT.nL y.symm))
   (fun y k z w=>w.elim (aE.nC y k z) (aT.nC y k z)) (fun b y=>y.elim (fun y=>by rw[y];exact ne) (fun y=>by rw[y];exact nT))
  have Vz:Apart (Cx.pinned X (X.pn++pins)) T2:=lW I1 Sy (Heap.get?_none_of_le z2);have nT2:H1 T2=none:=I1.IW.fresh z2;refine wpAny_handleBy_cons (codeAny_handlers_test (gM (X:=Cx.marked (Cx.pinned X (X.pn++pins)) e) (lL I2 e) hg hm ?_ OI)) (by intro y;cases y);have F2':=F2;obtain⟨ob,fs,qe,cE,dE,dF,_⟩:=F2';refine zB (I2.Mj _ _ kC) (I2.Mj _ _ kU) qe (cE.trans WL) ZK Za ?_;refine codeAny_handlers_suite_as (C5 F2 fun h3 F3 Ng hT3=> ?_);have neT:e≠T2:=fun y=>by obtain⟨_,_,_,_,_,_,_,_,w,_⟩:=F2;exact w y.symm
  have I3:L2.Inv (Cx.pinned X (X.pn++pins)) [] σ H1 {s1 with heap:=h3}:=qp (s:={s1 with heap:=h2}) I2 (fun b=>b=T2) Sy (fun p hp y=>Vz.nP p hp y)
   (fun b o z nS _=>(Ng b nS).trans z) (fun b o z nS=>⟨o.slots,(Ng b nS).trans z⟩)
   (fun b o z=>(Classical.em (b=T2)).elim (fun y=>by rw[y];exact hT3) (fun y=>⟨o,(Ng b y).trans z⟩)) (fun b y=>by rw[y];exact Vz.n0) (fun y=>Vz.nL y.symm) (fun y k z w=>Vz.nC y k z w) (fun b y=>by rw[y];exact nT2)
  have I4:=wk I3 aE.nP ((Ng e neT).trans qe) ne aE.n0 aE.nL aE.nC;refine jc (X:=Cx.marked (Cx.pinned X (X.pn++pins)) e) (lL I4 e) hN hi (.inl S4) (v:= .ref e) rfl (fun s4 I5=> ?_) (.inr S4);have w:=hc c dx H1 q e ob ne cE dE (by unfold M0;rw[dF]);refine wpAny_mono (hs (X.pn++pins) e [] s4 _ _ _ I5 w) (fun f s5 hf=> ?_) (fun y s5 z=>z.elim);cases f with
  |next=>obtain⟨σ2,H2,I6,q6⟩:=hf;exact wn (sV IY.ok I6) hN hi S4 fun s6 I7=>⟨_,_,fx I.ok I7,q6⟩
  |brk=>obtain⟨σ2,H2,I6,q6⟩:=hf;exact q6.elim
  |cont=>obtain⟨σ2,H2,I6,q6⟩:=hf;exact q6.elim
  |ret u=>obtain⟨v,σ2,H2,I6,r,q6⟩:=hf;exact q6.elim
end L4
namespace L3
open PySem L2
theorem NI.W2 {P:Hy} {w:HU} {K:Hf} {mg:Str->Option Hg} {base h:Heap} {f:Hj} {n:Str} {t:Js} {ps:List Str} {lv m:Nat} {F:FN} (i:NI K f n t) (X:K.In h) (G:h.Ns Hw mg) (hb:BA n n t ps) (ok:∀fd,Lc K n n t f fd->FnOk P w K mg base (L4.pz P w) lv f fd ps (ic K m F)):L4.Bs P w K mg base lv n ps m F:=
 let⟨fd,z⟩:=i.F;⟨f,fd,ok fd z,z.binds hb,z.kp,IH X G i.a⟩
end L3
local macro_rules| `(tactic|walk_at "px")=> `(tactic|simp only[L3.dD,L3.ak,L3.ig,L3.aJ,L3.bU,L3.Yg,L3.cC,L3.bO,L3.dY,L3.W4,L3.Yc,L3.Wj,L3.Wt,L3.Xg,L3.VL,L3.VY,L3.am,L3.o9,L3.tG,L3.yF,L3.xP,L3.pC,L3.fR,L3.aZ,L3.ck,L3.cH,L3.aC,L3.p0,L3.pOr,L3.ww,L3.pIf,L3.iJ,L3.bh,L3.cn,
 L3.we,L3.l7,L3.gh,L3.cF,L3.ah,L3.ac,L3.dM,L3.gf,L3.Yp,L3.Yh,L3.Yk,L3.Yf,L3.gT,L3.Ad,L3.rh,L3.gIx,L3.gH,L3.abF,L3.eC,L3.Tq,L3.Si,L3.iB,L3.wS,
 L3.Xq,L3.Wl,L3.Xt,L3.WW,L3.XQ,L3.XG,L3.WI,L3.Xi,L3.W5,L3.W7,L3.UH,L3.VR,L3.Vp,L3.T9,L3.Vs,L3.VA,L3.Tr,L3.Td,L3.Ta,L3.qw,L3.ul,L3.Vw,L3.S6,L3.Tc,L3.jn,L3.qm,L3.YE,L3.X8,L3.Res.bind_ok,L3.aF,L3.cv,L3.T6,L3.TV,L3.Se,L3.jL,L3.SK,
 L3.QN,L3.QX,L3.j8,L3.vn,L3.jt,L3.xK,L3.Uy,L3.zD,L3.Cc,L3.oZ,L3.zo,L3.fY,L3.Ri,L3.QV,L3.QM,
 HH,ME,MP,Nl,Iv,Im,List.replicate_zero,HP,Jw,List.getElem?_cons_zero,List.getElem?_cons_succ,Qe,Qf,Nat.reduceSub,Nat.reduceAdd,Nat.reduceLeDiff,Nat.reduceLT,OE,OH,Jq,reduceIte,Option.map_some,Option.map_none,Bool.not_true,Bool.not_false,KS,if_true,if_false,ite_true,ite_false])
local macro_rules| `(tactic|walk_at "nm")=> `(tactic|first|((simp only[Qe,Qf]);rfl)|rfl)
local macro_rules| `(tactic|walk_at "evf")=> `(tactic|first|with_reducible assumption|with_reducible exact L3.oZ _ _|with_reducible exact L3.zo _ _|with_reducible exact L3.xK _ _|with_reducible exact L3.Uy _ _|with_reducible exact L3.zD _ _|with_reducible exact L3.Cc _ _|with_reducible exact L3.Xy _ _|with_reducible exact L3.Xo _ _|with_reducible exact L3.fY _ _|with_reducible exact L3.Ri _ _|with_reducible exact L3.QV _ _|with_reducible exact L3.QM _ _|with_reducible exact L3.Vi _ _|with_reducible exact L3.VH _ _|with_reducible exact L3.Ve _ _|with_reducible exact L3.Vu _ _|with_reducible exact L3.Vk _ _|with_reducible exact L3.UG _ _|with_reducible exact L3.VJ _ _|with_reducible exact L3.Ud _ _|with_reducible exact L3.UQ _ _|with_reducible exact L3.Vb _ _|with_reducible exact L3.WQ _ _|with_reducible exact L3.xy|with_reducible exact L3.Zz|with_reducible exact L3.Zg|with_reducible exact L3.yW|with_reducible exact L3.Y1|with_reducible exact L3.yX|with_reducible exact L3.QN _|with_reducible exact L3.QX _|(with_reducible rfl))
local macro_rules| `(tactic|walk_at "ev")=> `(tactic|first
 |with_reducible exact L3.cj
 |((with_reducible apply L3.ai);rfl)
 |((with_reducible apply L3.cu);rfl)
 |with_reducible exact L3.aB
 |with_reducible exact L3.gn
 |((with_reducible apply L3.a5);(·walk_at "ev");(·walk_at "ev");(·rfl);(·rfl);(·walk_at "evf"))
 |((with_reducible apply L3.tS);(·walk_at "ev");(·rfl);(·rfl))
 |((with_reducible apply L3.ag);(·walk_at "ev");(·walk_at "ev"))
 |((with_reducible apply L3.a9);(·walk_at "ev");(·rfl))
 |((with_reducible apply L3.eN);(·walk_at "ev");(·rfl);(·first|walk_at "evf"|rfl))
 |((with_reducible apply L3.a8);(·walk_at "ev");(·rfl);(·rfl);(·with_reducible assumption))
 |((with_reducible apply L3.om);(·walk_at "ev");(·rfl);(·exact HQ rfl))
 |((with_reducible apply L3.nU);(·walk_at "ev");(·rfl);(·exact HQ rfl))
 |((with_reducible apply L3.kN);(·walk_at "ev");(·rfl);(·rfl))
 |((with_reducible apply L3.d7);(·walk_at "ev");(·rfl))
 |((with_reducible apply L3.mq);(·walk_at "ev");(·walk_at "ev");(·walk_at "ev");(·rfl);(·first|with_reducible assumption|rfl))
 |((with_reducible apply L3.dl);(·walk_at "ev"))
 |((with_reducible apply L3.A9);(·walk_at "ev");(·intro _;walk_at "ev"))
 |((with_reducible apply L3.sx);(·walk_at "ev");(·intro _;walk_at "ev"))
 |((with_reducible apply L3.tW);(·walk_at "ev"))
 |((with_reducible apply L3.kj);(·walk_at "ev");(·intro _;walk_at "ev"))
 |((with_reducible apply L3.Sl);(·walk_at "ev");(·intro _;walk_at "ev"))
 |((with_reducible apply L3.ka);(·walk_at "ev");(·rfl);(·first|with_reducible assumption|rfl))
 |((with_reducible apply L3.VQ);(·walk_at "ev");(·rfl);(·rfl))
 |((with_reducible apply L3.Ub);(·walk_at "ev");(·rfl);(·rfl))
 |((with_reducible apply L3.iq);(·rfl);(·walk_at "ev");(·rfl);(·rfl);(·first|with_reducible assumption|(simp only[Jw,HP,L3.dj] at*;omega));(·walk_at "nm"))
 |((with_reducible apply L3.WE);(·rfl);(·walk_at "ev");(·rfl);(·rfl);(·with_reducible assumption);(·with_reducible assumption);(·with_reducible assumption);(·walk_at "nm"))
 |((with_reducible apply L3.nY);(·walk_at "ev");(·rfl);(·walk_at "nm"))
 |((with_reducible apply L3.oy);(·walk_at "ev"))
 |((with_reducible apply L3.sA);(·walk_at "ev");(·rfl)))
local macro_rules| `(tactic|walk_at "evb")=> `(tactic|first
 |((with_reducible apply L3.df);(·walk_at "ev");(·walk_at "ev");(·rfl);(·rfl);(·walk_at "evf"))
 |((with_reducible apply L3.fJ);(·walk_at "ev");(·rfl);(·rfl);(·with_reducible assumption))
 |((with_reducible apply L3.sf);(·walk_at "ev");(·rfl);(·first|walk_at "evf"|rfl))
 |walk_at "ev")
local macro_rules| `(tactic|walk_at "ev")=> `(tactic|first
 |with_reducible assumption
 |((with_reducible apply L3.kj);(·walk_at "ev");(·intro _;walk_at "evb"))
 |((with_reducible apply L3.Sl);(·walk_at "ev");(·intro _;walk_at "evb"))
 |((with_reducible apply L3.Ui);(·walk_at "ev");(·walk_at "ev");(·walk_at "ev");(·rfl);(·rfl);(·rfl);(·walk_at "evf");(·intro _;walk_at "evf"))
 |((with_reducible apply L3.VO);(·walk_at "ev");(·rfl);(·rfl);(·rfl)))
local macro_rules| `(tactic|walk_at "go")=> `(tactic|first
 |((with_reducible apply L3.aH);(·walk_at "ev");(·rfl);(·walk_at "nm");try walk_at "go")
 |((with_reducible apply L3.oX);(·walk_at "ev");try walk_at "go")
 |((with_reducible apply L3.yx);try walk_at "go")
 |((with_reducible apply L3.bL);try walk_at "go")
 |((with_reducible apply L3.lO);(·walk_at "ev");(·rfl))
 |((with_reducible apply L3.dW);(·walk_at "ev"))
 |((with_reducible apply L3.rz);(·walk_at "ev");(·rfl);(·walk_at "nm"))
 |((with_reducible apply L3.fV);(·walk_at "ev"))
 |((with_reducible apply L3.ce);(·walk_at "ev");(·rfl))
 |((with_reducible apply L3.pO);(·walk_at "ev"))
 |(with_reducible apply L3.iK))
local macro_rules| `(tactic|walk_at "evp")=> `(tactic|((apply Eq.trans);(·walk_at "ev");(·rfl)))
local macro_rules| `(tactic|walk_at "sv")=> `(tactic|first
 |with_reducible assumption
 |((with_reducible apply L10.dc);rfl)
 |with_reducible exact L10.rB
 |((with_reducible apply L10.km);(·walk_at "sv");(·walk_at "sv"))
 |((with_reducible apply L10.bj);walk_at "ev")
 |((with_reducible apply L10.gu);walk_at "ev")
 |((with_reducible apply L10.VG);(·walk_at "sv");(·walk_at "sv");(·walk_at "evf"))
 |((with_reducible apply L10.YB);(·walk_at "sv");(·walk_at "sv");(·(with_reducible apply L10.oY);walk_at "evf"))
 |((with_reducible apply L10.eO);walk_at "sv")
 |((with_reducible apply L10.Vd);walk_at "sv"))
namespace K62
open PySem L2 L3
noncomputable def gr:FS:=(bU (am cN (am bE (iJ FX (aa 0) (bh (aa 1)) (bh (am bE (aa 1) (pC (.int 1))))) (cH (ac (pC (.int 0)) ah))) (pC (.int 0))))
noncomputable def aI:FN:=dD 2 gr
noncomputable def cY:FS:=(ak (aJ (am bE (am aM (aa 0) (pC (.int 1000000007))) (am dC (pC (.int 13)) (aa 1))) (gN 2))
 (ak (aJ (am aM (am bE (am bE (am dC (aa 2) (am bE (am bE (aa 2) (am dC (aa 1) (aa 1))) (pC (.int 11)))) (am dC (pC (.int 40487)) (aa 1))) (pC (.int 7))) (pC (.int 1000000033))) (gN 2))
 (bU (am bN (am aM (am bE (am dC (aa 2) (am bE (am bN (aa 2) (pC (.int 7))) (pC (.int 31)))) (pC (.int 90001))) (pC (.int 999999937))) (pC (.int 3))))))
noncomputable def bg:FN:=dD 3 cY
noncomputable def dh:FS:=(ak (aJ (cH ah) (gN 2))
 (ak (aJ (fR mw (ac (aa 0) (ac (am lf (pC (.int 0)) (aa 0)) ah))) (gN 3))
 (ak (dY (dM cK (ac (aa 1) ah)) (gN 4) (ak (aJ (pC (.int 0)) (gN 5))
 (ak (dY (dM cK (ac (pC (.int 3)) ah)) (gN 6) (aJ (am bE (am dC (aa 5) (am jR (pC (.int 10)) (pC (.int 8)))) (am aM (aZ bg 2 (ac (aa 0) (ac (am bE (am dC (pC (.int 3)) (aa 4)) (aa 6)) ah))) (am jR (pC (.int 10)) (pC (.int 8))))) (gN 5)))
 (ak (ig (we (aC (am CN (aa 3) (pC (.int 0)))) (l7 (aC (am El (aa 0) (pC (.int 0)))) (aC (am EE (aa 0) (am jR (pC (.int 10)) (pC (.int 18))))))) (ak (aJ (am aM (aa 3) (am jR (pC (.int 10)) (pC (.int 24)))) (gN 5))
 (aJ (am bN (aa 3) (am jR (pC (.int 10)) (pC (.int 24)))) (gN 3))) bO)
 (cC (gH 2 (aa 5)))))))
 (bU (aa 2)))))
noncomputable def dm:FN:=dD 7 dh
noncomputable def cT:FS:=(ak (aJ (pC (.str "")) (gN 1))
 (ak (aJ (am bE (pC (.int 1)) (am aM (aa 0) (pC (.int 8)))) (gN 2))
 (ak (aJ (am bN (aa 0) (pC (.int 8))) (gN 0))
 (ak (dY (dM cK (ac (aa 2) ah)) (gN 3) (ak (aJ (am g8 (aa 1) (am Ej (pC (.str "abcdefghijklmnopqrstuvwxyz")) (am aM (aa 0) (pC (.int 26))))) (gN 1))
 (aJ (am bN (aa 0) (pC (.int 26))) (gN 0))))
 (bU (aa 1))))))
noncomputable def cS:FN:=dD 4 cT
noncomputable def bR:FS:=(ak (aJ (am bE (pC (.int 1)) (aa 0)) (gN 1))
 (ak (aJ (cH ah) (gN 2))
 (ak (dY (dM cK (ac (pC (.int 12)) ah)) (gN 3) (ak (ig (aC (am j7 (am aM (aa 1) (pC (.int 2))) (pC (.int 1)))) (cC (gH 2 (aa 3))) bO)
 (aJ (am bN (aa 1) (pC (.int 2))) (gN 1))))
 (bU (fR j8 (ac (aa 2) ah))))))
noncomputable def cw:FN:=dD 4 bR
noncomputable def cx:FS:=(ak (aJ (cH ah) (gN 1))
 (ak (dY (dM cK (ac (am bE (pC (.int 1)) (am aM (am cN (aa 0) (pC (.int 0))) (pC (.int 20)))) ah)) (gN 2) (ak (aJ (aZ cS 1 (ac (am cN (aa 0) (am bE (pC (.int 1)) (am dC (pC (.int 2)) (aa 2)))) ah)) (gN 3))
 (ak (aJ (cH ah) (gN 4))
 (ak (aJ (am bN (am cN (aa 0) (am bE (pC (.int 2)) (am dC (pC (.int 2)) (aa 2)))) (pC (.int 6))) (gN 5))
 (ak (dY (dM cK (ac (am bE (pC (.int 1)) (am aM (am cN (aa 0) (am bE (pC (.int 2)) (am dC (pC (.int 2)) (aa 2)))) (pC (.int 6)))) ah)) (gN 6) (ak (cC (gH 4 (aZ cw 1 (ac (am aM (aa 5) (pC (.int 4095))) ah))))
 (aJ (am bN (aa 5) (pC (.int 4095))) (gN 5))))
 (ig (aC (am Aj (aa 3) (eC 2 [] (xn 1) (gT 2 (rh (gN 0) (rh (gN 1) Ad))) cF (aa 0)))) (cC (gH 1 (ck (ac (aa 3) (ac (fR j8 (ac (aa 4) ah)) ah))))) bO))))))
 (bU (fR j8 (ac (aa 1) ah)))))
noncomputable def cz:FN:=dD 7 cx
noncomputable def dw:FS:=(ak (ig (l7 (aC (am El (aa 0) (pC (.int 0)))) (aC (am EE (aa 0) (am jR (pC (.int 10)) (pC (.int 18)))))) (bU (fR mw (ac (aa 0) (ac (am lf (pC (.int 0)) (aa 0)) ah)))) bO)
 (bU (aZ bg 2 (ac (aZ bg 2 (ac (aa 0) (ac (aa 1) ah))) (ac (pC (.int 3)) ah)))))
noncomputable def a7:FN:=dD 2 dw
noncomputable def dL:FS:=(ak (aJ (pC (.str "abcdefghijklmnopqrstuvwxyz")) (gN 2))
 (ak (aJ (am Ej (aa 2) (am aM (am bN (aa 0) (pC (.int 3))) (pC (.int 26)))) (gN 3))
 (ak (ig (we (aC (am j7 (am aM (aa 0) (pC (.int 3))) (pC (.int 0)))) (aC (am El (aa 1) (pC (.int 9))))) (bU (eC 1 [3] (dM cK (ac (aa 1) ah)) (gN 0) cF (am L9.sr (aa 1) (am bE (aa 0) (pC (.int 1)))))) bO)
 (ak (aJ (am aM (am bN (aa 0) (pC (.int 78))) (pC (.int 8))) (gN 4))
 (ak (aJ (am aM (am bN (aa 0) (pC (.int 624))) (am bE (aa 4) (pC (.int 1)))) (gN 5))
 (ak (aJ (cH ah) (gN 6))
 (ak (dY (dM cK (ac (aa 1) ah)) (gN 7) (ak (aJ (am Ej (aa 2) (am aM (am bE (am dC (aa 7) (pC (.int 7))) (am bN (aa 0) (pC (.int 5616)))) (pC (.int 26)))) (gN 8))
 (cC (gH 6 (am g8 (am g8 (am L9.sr (aa 3) (aa 5)) (aa 8)) (am L9.sr (aa 3) (am lf (aa 4) (aa 5))))))))
 (bU (aa 6)))))))))
noncomputable def cQ:FN:=dD 9 dL
noncomputable def dk:FS:=(ak (aJ (cH (ac (ck (ac (pC (.int 0)) ah)) (ac (ck (ac (pC (.int 1)) ah)) (ac (ck (ac (pC (.int 0)) (ac (pC (.int 1)) ah))) (ac (ck (ac (pC (.int 2)) (ac (pC (.int 11)) ah))) ah))))) (gN 2))
 (ak (ig (aC (aa 1)) (ak (aJ (am bN (aa 0) (pC (.int 4))) (gN 3))
 (ak (aJ (cH ah) (gN 4))
 (ak (dY (dM cK (ac (pC (.int 12)) ah)) (gN 5) (ak (ig (aC (am j7 (am aM (aa 3) (pC (.int 2))) (pC (.int 1)))) (cC (gH 4 (aa 5))) bO)
 (aJ (am bN (aa 3) (pC (.int 2))) (gN 3))))
 (ig (aC (am CN (fR dR (ac (aa 4) ah)) (pC (.int 0)))) (bU (fR j8 (ac (aa 4) ah))) bO)))) bO)
 (bU (am cN (aa 2) (am aM (aa 0) (pC (.int 4)))))))
noncomputable def bu:FN:=dD 6 dk
noncomputable def eD:FS:=(ak (aJ (aZ aI 2 (ac (aa 0) (ac (aa 1) ah))) (gN 2))
 (ak (ig (l7 (aC (am El (aa 2) (pC (.int 0)))) (aC (am EE (aa 2) (am jR (pC (.int 10)) (pC (.int 18)))))) (bU (aZ cz 1 (ac (aZ dm 2 (ac (aa 2) (ac (pC (.int 41)) ah))) ah))) bO)
 (ak (aJ (aZ a7 2 (ac (aa 2) (ac (pC (.int 1)) ah))) (gN 2))
 (ak (aJ (am aM (am bN (aa 2) (pC (.int 6))) (pC (.int 4))) (gN 3))
 (ak (aJ (am bE (pC (.int 1)) (am aM (aa 2) (pC (.int 6)))) (gN 4))
 (ak (aJ (pC (.int 4)) (gN 5))
 (ak (ig (aC (am j7 (am aM (am bN (aa 2) (pC (.int 24))) (pC (.int 8))) (pC (.int 3)))) (ak (aJ (am bE (pC (.int 12)) (am aM (am bN (aa 2) (pC (.int 192))) (pC (.int 9)))) (gN 4))
 (aJ (pC (.int 6)) (gN 5))) bO)
 (ak (aJ (aZ cQ 2 (ac (aZ a7 2 (ac (aZ aI 2 (ac (aa 0) (ac (am bE (aa 1) (pC (.int 1))) ah))) (ac (pC (.int 2)) ah))) (ac (aa 4) ah))) (gN 6))
 (ak (aJ (cH ah) (gN 7))
 (ak (dY (dM cK (ac (aa 4) ah)) (gN 8) (ak (aJ (aZ a7 2 (ac (aZ aI 2 (ac (aa 0) (ac (am bE (am bE (aa 1) (pC (.int 2))) (am aM (aa 8) (pC (.int 6)))) ah))) (ac (am bE (pC (.int 3)) (aa 8)) ah))) (gN 9))
 (ak (aJ (cH ah) (gN 10))
 (ak (dY (dM cK (ac (am bE (pC (.int 1)) (am aM (aa 9) (aa 5))) ah)) (gN 11) (ak (aJ (am bN (aa 9) (pC (.int 4))) (gN 9))
 (cC (gH 10 (aZ bu 2 (ac (am cN (cH (ac (am aM (aa 9) (pC (.int 2))) (ac (aa 9) (ac (aa 9) (ac (aa 9) ah))))) (aa 3)) (ac (am j7 (aa 3) (pC (.int 1))) ah)))))))
 (cC (gH 7 (ck (ac (am cN (aa 6) (aa 8)) (ac (fR j8 (ac (aa 10) ah)) ah)))))))))
 (bU (fR j8 (ac (aa 7) ah)))))))))))))
noncomputable def eP:FN:=dD 12 eD
section
open L10
noncomputable def li:ef:=(bC (fA (lK (aA (aa 0))) (jh 2))
 (bC (fA (aA (ck ah)) (jh 3))
 (bC (kR (gA (gf (aa 1))) (jh 4) (bC (fu (gb (eS true (aA (aa 4)) (ci 2))) Ey fC)
 (l0 3 jO (gm (ci 2) (aA (aa 4))))))
 (ly (aA (aa 3))))))
noncomputable def fK:pc:=j4 5 li
end
noncomputable def de:FN:=L10.w9 fK
noncomputable def fM:FS:=(bU (p0 (iB "int" (aa 0)) (ww (iB "bool" (aa 0)))))
noncomputable def bZ:FN:=dD 1 fM
noncomputable def eg:FS:=(ak (ig (gh (aC (iB "tuple" (aa 0)))) (bU (pC (.bool false))) bO)
 (ak (dY (gf (aa 0)) (gN 1) (ig (l7 (gh (aC (iB "tuple" (aa 1)))) (gh (aC (fR pi (ac (eC 1 [] (gf (aa 1)) (gN 0) cF (aZ bZ 1 (ac (aa 0) ah))) ah))))) (bU (pC (.bool false))) bO))
 (bU (pC (.bool true)))))
noncomputable def bS:FN:=dD 2 eg
noncomputable def dU:FS:=(ak (aJ (ck ah) (gN 2))
 (ak (dY (gf (aa 1)) (gN 3) (dY (gf (aa 0)) (gT 2 (rh (gN 4) (rh (gN 5) Ad))) (ig (aC (am j7 (aa 4) (aa 3))) (aJ (am c8 (aa 2) (aa 5)) (gN 2)) bO)))
 (bU (aa 2))))
noncomputable def aO:FN:=dD 6 dU
section
open L10
noncomputable def dG:ef:=(bC (fA (ma [((aA (pC (.int 0))),(aA (pC .none)))]) (jh 2))
 (bC (kR (gA (dM cK (ac (fR dR (ac (aa 1) ah)) ah))) (jh 3) (fu (gb (eS false (aA (aa 3)) (ci 2))) (kR (gA (gf (aa 0))) (GL 2 (yT (jh 4) (yT (jh 5) DD))) (bC (fA (aA (am bE (aa 3) (fR dR (ac (aa 5) ah)))) (jh 6))
 (fu (lV (aC (am j7 (iJ i6 (aa 1) (bh (aa 3)) (bh (aa 6))) (aa 5)))) (qI (ci 2) (aA (aa 6)) (aA (aa 4))) fC))) fC))
 (ly (ci 2))))
noncomputable def bD:pc:=j4 7 dG
noncomputable def dI:ef:=(bC (fA (lK (aA (aa 0))) (jh 2))
 (bC (fA (ur bD 2 (jN (aA (aa 0)) (jN (aA (aa 1)) xM))) (jh 3))
 (bC (fA (aA (fR dR (ac (aa 1) ah))) (jh 4))
 (bC (fu (gb (eS true (aA (aa 4)) (ci 3))) (ly (aA (pC .none))) fC)
 (bC (fA (aA (cH ah)) (jh 5))
 (bC (xp (lV (aC (am CN (aa 4) (pC (.int 0))))) (bC (fA (gm (ci 3) (aA (aa 4))) (jh 6))
 (bC (mM (A1 (ci 5) (aA (aa 6))))
 (l0 4 lf (F5 dR (jN (gm (ci 2) (aA (aa 6))) xM))))))
 (ly (uf (ci 5)))))))))
noncomputable def cb:pc:=j4 7 dI
end
noncomputable def aQ:FN:=L10.w9 cb
section
open L10
noncomputable def gJ:ef:=(bC (fA (ma [((aA (fR dR (ac (aa 1) ah))),(aA (pC (.bool true))))]) (jh 2))
 (bC (kR (gA (dM xJ (ac (am lf (fR dR (ac (aa 1) ah)) (pC (.int 1))) (ac (o9 jt (pC (.int 1))) (ac (o9 jt (pC (.int 1))) ah))))) (jh 3) (kR (gA (gf (aa 0))) (GL 2 (yT (jh 4) (yT (jh 5) DD))) (fu (v7 (gb (eS false (aA (am bE (aa 3) (fR dR (ac (aa 5) ah)))) (ci 2))) (lV (aC (am j7 (iJ i6 (aa 1) (bh (aa 3)) (bh (am bE (aa 3) (fR dR (ac (aa 5) ah))))) (aa 5))))) (qI (ci 2) (aA (aa 3)) (aA (pC (.bool true)))) fC)))
 (ly (eS false (aA (pC (.int 0))) (ci 2)))))
noncomputable def eR:pc:=j4 6 gJ
end
noncomputable def ej:FN:=L10.w9 eR
noncomputable def iu:FS:=(ak (ig (gh (aC (iB "list" (aa 0)))) (bU (pC (.bool false))) bO)
 (bU (fR pi (ac (eC 1 [1] (gf (aa 0)) (gN 0) cF (p0 (iB "str" (aa 0)) (am wC (aa 0) (eC 2 [] (gf (aa 1)) (gT 2 (rh (gN 0) (rh (gN 1) Ad))) cF (aa 0))))) ah))))
noncomputable def dg:FN:=dD 2 iu
noncomputable def gL:FS:=(ak (dY (dM cK (ac (pC (.int 2)) ah)) (gN 2) (ak (aJ (aZ aQ 2 (ac (aa 0) (ac (aa 1) ah))) (gN 3))
 (ak (ig (aC (am wb (aa 3) (pC .none))) (bU (p0 (ww (aZ ej 2 (ac (aa 0) (ac (aa 1) ah)))) (am wb (aZ aQ 2 (ac (aa 0) (ac (aa 1) ah))) (pC .none)))) bO)
 (ak (ig (l7 (gh (aC (kW dg 2 (ac (aa 3) (ac (aa 0) ah))))) (aC (am re (kW aO 2 (ac (aa 0) (ac (aa 3) ah))) (aa 1)))) (bU (pC (.bool false))) bO)
 (cC (gH 3 (am cN (am cN (aa 0) (pC (.int 0))) (pC (.int 0)))))))))
 (bU (pC (.bool true))))
noncomputable def bv:FN:=dD 4 gL
section
open L10
noncomputable def eK:ef:=(bC (fA (lK (aA (aa 0))) (jh 2))
 (bC (fA (aA (ck ah)) (jh 3))
 (bC (kR (gA (gf (aa 1))) (jh 4) (bC (fu (gb (eS true (aA (aa 4)) (ci 2))) (fL "NoWord" "word" (aA (aa 4))) fC)
 (l0 3 jO (gm (ci 2) (aA (aa 4))))))
 (ly (aA (aa 3))))))
noncomputable def gz:pc:=j4 5 eK
end
noncomputable def cL:FN:=L10.w9 gz
noncomputable def aV:FN
 |[b,ws]=>(match cL [b,ws] with
  | .er x=>if x.cls= "NoWord" then(match x.fs with
   |[(f,.str y)]=>if f= "word" then(match wC (.str y) ws with
    |some (.fz (.bool true))=> .ok (.fz (.str y))
    |_=> .bad) else .bad
   |_=> .bad) else .bad
  |_=> .bad)
 |_=> .bad
noncomputable def wM:FS:=(ak (aJ (aZ eP 2 (ac (aa 0) (ac (pC (.int 0)) ah))) (gN 1))
 (ak (aJ (eC 1 [1] (gf (iJ i6 (aa 0) (bh (pC (.int 14))) (bh (pC (.int 30))))) (gN 0) cF (am cN (am cN (aa 1) (am aM (aa 0) (fR dR (ac (aa 1) ah)))) (pC (.int 0)))) (gN 2))
 (ak (aJ (fR vn (ac (aa 2) ah)) (gN 3))
 (ak (aJ (aZ de 2 (ac (aa 1) (ac (aa 3) ah))) (gN 4))
 (ak (ig (l7 (gh (aC (aZ bS 1 (ac (aa 4) ah)))) (l7 (aC (am re (aa 4) (aZ aO 2 (ac (aa 1) (ac (aa 2) ah))))) (aC (am re (aZ de 2 (ac (aa 1) (ac (cH ah) ah))) (ck ah))))) (bU (pC (.bool false))) bO)
 (ak (ig (l7 (aC (am re (aa 3) (aa 2))) (gh (aC (aZ bv 2 (ac (o9 L9.xg (aa 1)) (ac (aZ aO 2 (ac (aa 1) (ac (o9 q5 (aa 2)) ah))) ah)))))) (bU (pC (.bool false))) bO)
 (ak (aJ (aZ a7 2 (ac (aZ aI 2 (ac (aa 0) (ac (pC (.int 9)) ah))) (ac (pC (.int 30)) ah))) (gN 5))
 (ak (aJ (am aM (am bN (aa 5) (pC (.int 21))) (am c8 (fR dR (ac (aa 4) ah)) (pC (.int 1)))) (gN 6))
 (ak (aJ (aZ bu 2 (ac (aZ a7 2 (ac (aZ aI 2 (ac (aa 0) (ac (pC (.int 10)) ah))) (ac (pC (.int 31)) ah))) (ac (pC (.bool false)) ah))) (gN 7))
 (ak (aJ (am cN (cH (ac (am c8 (iJ i6 (aa 4) cn (bh (aa 6))) (iJ i6 (aa 4) (bh (am c8 (aa 6) (pC (.int 1)))) cn)) (ac (am c8 (am c8 (iJ i6 (aa 4) cn (bh (aa 6))) (ck (ac (aa 7) ah))) (iJ i6 (aa 4) (bh (aa 6)) cn)) (ac (aa 4) ah)))) (am aM (aa 5) (pC (.int 3)))) (gN 8))
 (ak (ig (aC (am j7 (am aM (aa 5) (pC (.int 7))) (pC (.int 3)))) (aJ (am c8 (am c8 (iJ i6 (aa 4) cn (bh (aa 6))) (ck (ac (aa 7) ah))) (iJ i6 (aa 4) (bh (am c8 (aa 6) (pC (.int 1)))) cn)) (gN 8)) bO)
 (ak (ig (l7 (gh (aC (aZ bv 2 (ac (aa 1) (ac (aa 4) ah))))) (l7 (gh (aC (aZ bv 2 (ac (aa 1) (ac (aa 8) ah))))) (aC (am re (aZ aQ 2 (ac (aa 1) (ac (ck ah) ah))) (cH ah))))) (bU (pC (.bool false))) bO)
 (ak (aJ (am cN (cH (ac (am g8 (am cN (am cN (aa 1) (pC (.int 0))) (pC (.int 0))) (pC (.str "qqqqqqqq"))) (ac (pC (.str "")) (ac (am g8 (iJ ip (am cN (am cN (aa 1) (pC (.int 0))) (pC (.int 0))) cn (bh (o9 jt (pC (.int 1))))) (pC (.str "A"))) ah)))) (am aM (aZ aI 2 (ac (aa 0) (ac (pC (.int 11)) ah))) (pC (.int 3)))) (gN 9))
 (ak (aJ (fR vn (ac (aa 2) ah)) (gN 10))
 (ak (cC (wK 10 (am aM (aZ aI 2 (ac (aa 0) (ac (pC (.int 12)) ah))) (am c8 (fR dR (ac (aa 2) ah)) (pC (.int 1)))) (aa 9)))
 (bU (am j7 (aZ aV 2 (ac (aa 1) (ac (aa 10) ah))) (aa 9))))))))))))))))))
noncomputable def F_law:FN:=dD 11 wM
end K62
namespace K62
open PySem L2 L3 L10
noncomputable def kH (ns:List Int) (lo hi:Option Int):List Int:=(ns.drop (HT.sIx ns.length 0 lo)).take (HT.sIx ns.length ns.length hi - HT.sIx ns.length 0 lo)
theorem kb (ns:List Int) (k:Int) (hk:0<=k) (hl:ns.length<=63):∃c:Int,aI [.list (ns.map .int),.int k]= .ok (.fz (.int c)):=by
 unfold aI gr;have e1:FX (.list (ns.map .int)) (some k) (some (k+1))=some (.ow (eX (ns.map .int) (some k) (some (k+1)))):=rfl;have hc:eX (ns.map Hr.int) (some k) (some (k+1))=(kH ns (some k) (some (k+1))).map .int:=by unfold eX kH;rw[Hk,La,Lb]
 rw[hc] at e1;have XJ:(kH ns (some k) (some (k+1))).length<=63:=by unfold kH;rw[Ig,HY];omega
 generalize kH ns (some k) (some (k+1))=cs at e1 XJ;have e2:bE (.list (cs.map .int)) (.list [.int 0])=some (.ow (cs.map .int++[.int 0])):=by show(if(cs.map Hr.int).length+1<=1000000 then _ else _)=_;rw[Hk,if_pos (by omega)]
 cases cs with
 |nil=>have e3:cN (.list (([]:List Int).map Hr.int++[.int 0])) (.int 0)=some (.fz (.int 0)):=yW;exact⟨0,gv (ρ:=[some (.fz (.list (ns.map .int))),some (.fz (.int k))]) rfl (ce (by walk_at "ev") rfl rfl)⟩
 |cons c r=>have e3:cN (.list ((c::r).map Hr.int++[.int 0])) (.int 0)=some (.fz (.int c)):=yW;exact⟨c,gv (ρ:=[some (.fz (.list (ns.map .int))),some (.fz (.int k))]) rfl (ce (by walk_at "ev") rfl rfl)⟩
theorem iw (c s:Int) (h0:0<=s) (h1:s<=1000):∃r:Int,0<=r/\bg [.int c,.int s]= .ok (.fz (.int r)):=by unfold bg cY;have b1:0<=c % 1000000007/\c % 1000000007<1000000007:=⟨Hz _ (by decide),HB _ (by decide)⟩;have m1:aM (.int c) (.int 1000000007)=some (.fz (.int (c % 1000000007))):=a4 (by decide);have m2:dC (.int 13) (.int s)=some (.fz (.int (13*s))):=dZ ⟨by omega,by omega⟩;generalize c % 1000000007=x at b1 m1;have m3:dC (.int s) (.int s)=some (.fz (.int (s*s))):=dZ ⟨by omega,by omega⟩;generalize s*s=ss at m3;have m4:dC (.int (x+13*s)) (.int (x+13*s+ss+11))=some (.fz (.int ((x+13*s)*(x+13*s+ss+11)))):=dZ ⟨by omega,by omega⟩;generalize (x+13*s)*(x+13*s+ss+11)=y at m4;have m5:dC (.int 40487) (.int s)=some (.fz (.int (40487*s))):=dZ ⟨by omega,by omega⟩;have b2:0<=(y+40487*s+7) % 1000000033/\(y+40487*s+7) % 1000000033<1000000033:=⟨Hz _ (by decide),HB _ (by decide)⟩;have m6:aM (.int (y+40487*s+7)) (.int 1000000033)=some (.fz (.int ((y+40487*s+7) % 1000000033))):=a4 (by decide);generalize (y+40487*s+7) % 1000000033=z at b2 m6;have m7:bN (.int z) (.int 7)=some (.fz (.int (z/7))):=bW ⟨by omega,by omega⟩;have m8:dC (.int z) (.int (z/7+31))=some (.fz (.int (z*(z/7+31)))):=dZ ⟨by omega,by omega⟩;generalize z*(z/7+31)=u at m8;have b3:0<=(u+90001) % 999999937:=Hz _ (by decide);have m9:aM (.int (u+90001)) (.int 999999937)=some (.fz (.int ((u+90001) % 999999937))):=a4 (by decide);have m10:bN (.int ((u+90001) % 999999937)) (.int 3)=some (.fz (.int ((u+90001) % 999999937/3))):=bW ⟨by omega,by omega⟩;refine⟨(u+90001) % 999999937/3,by omega,gv (ρ:=[some (.fz (.int c)),some (.fz (.int s)),none]) rfl (oa (yQ (by walk_at "ev") rfl (oa (yQ (by walk_at "ev") rfl (ce (by walk_at "ev") rfl rfl)))))⟩
theorem za (c:Int):0<=if 0 - c>c then 0 - c else c:=by split<;>omega
theorem jd (c s:Int) (h0:0<=s) (h1:s<=1000):∃r:Int,0<=r/\a7 [.int c,.int s]= .ok (.fz (.int r)):=by
 unfold a7 dw;obtain⟨r,hr,er⟩:=iw c s h0 h1;obtain⟨q,hq,eq⟩:=iw r 3 (by decide) (by decide);have em:mw [.int c,.int (0 - c)]=some (.fz (.int (if 0 - c>c then 0 - c else c))):=rfl;have nn:=za c;generalize (if 0 - c>c then 0 - c else c)=mx at em nn;obtain⟨rv,e,t⟩:=fT (ds:=[.int c,.int s]) (ρ:=[some (.fz (.int c)),some (.fz (.int s))]) (n:=2) (g:=dw) (T:=fun v=>∃r:Int,0<=r/\v= .fz (.int r)) rfl
  (oa (pO (by walk_at "ev") (fun _=>ce (by walk_at "ev") rfl ⟨mx,nn,rfl⟩) (fun _=>iK (ce (by walk_at "ev") rfl ⟨q,hq,rfl⟩))))
 obtain⟨r,h,rfl⟩:=t;exact⟨r,h,e⟩
theorem vq (c:Int):∃xs:List Int,xs.length=41/\(∀x∈xs,0<=x)/\dm [.int c,.int 41]= .ok (.ow (xs.map .int)):=by
 have nn:=za c;have em:mw [.int c,.int (0 - c)]=some (.fz (.int (if 0 - c>c then 0 - c else c))):=rfl;generalize (if 0 - c>c then 0 - c else c)=mx at em nn;have p8:=Gh;have p24:=Fk;have r20:cK [.int 41]=some (jP (HF 41)):=gp (n:=41) (by decide) (by decide);have r3:cK [.int 3]=some (jP (HF 3)):=gp (n:=3) (by decide) (by decide);obtain⟨rv,e,xs,h1,h2,rfl⟩:=fT (ds:=[.int c,.int 41]) (ρ:=[some (.fz (.int c)),some (.fz (.int 41)),none,none,none,none,none]) (n:=7) (g:=dh) (T:=fun v=>∃xs:List Int,xs.length=41/\(∀x∈xs,0<=x)/\v= .ow (xs.map .int)) rfl (by
  unfold dh;walk_at "go"
  with_reducible apply cX (fun i ρ=>∃(xs:List Int) (l:Int) (t4 t5 t6:Option PV),ρ=[some (.fz (.int c)),some (.fz (.int 41)),some (.ow (xs.map .int)),some (.fz (.int l)),t4,t5,t6]/\xs.length=i/\(∀x∈xs,0<=x)/\0<=l)
  ·walk_at "ev"
  ·exact⟨[],mx,none,none,none,rfl,rfl,fun x h=>(by cases h),nn⟩
  ·rintro i d ρ hi ⟨xs,l,t4,t5,t6,rfl,WT,hx,hl⟩
   obtain⟨k,hk,rfl⟩:=cZ hi;have Z9:k<41:=Jd.mp (HX hk);have Zq:i<41:=by have:=(Hm.mp hk).1;simpa using this
   refine⟨_,rfl,?_⟩;walk_at "go"
   with_reducible apply cX (fun i ρ=>∃(x:Int) (t6:Option PV),ρ=[some (.fz (.int c)),some (.fz (.int 41)),some (.ow (xs.map .int)),some (.fz (.int l)),some (.fz (nd k)),some (.fz (.int x)),t6]/\0<=x)
   ·walk_at "ev"
   ·exact⟨0,t6,rfl,by decide⟩
   ·rintro j d ρ hj ⟨x,t6,rfl,UN⟩;obtain⟨jj,UO,rfl⟩:=cZ hj;have hj3:jj<3:=Jd.mp (HX UO);obtain⟨r,hr,er⟩:=iw c (3*(k:Int)+(jj:Int)) (by omega) (by omega);have m1:dC (.int 3) (nd k)=some (.fz (.int (3*(k:Int)))):=dZ ⟨by omega,by omega⟩;have m2:dC (.int x) (.int (10^8))=some (.fz (.int (x*10^8))):=pf ⟨by decide,by decide⟩;have m3:aM (.int r) (.int (10^8))=some (.fz (.int (r % 10^8))):=a4 (by decide);have n3:0<=r % 10^8:=Hz _ (by decide);refine⟨_,rfl,?_⟩;walk_at "go";refine⟨x*10^8+r % 10^8,_,rfl,?_⟩;have:0<=x*10^8:=Int.mul_nonneg UN (by decide);omega
   ·rintro ρ ⟨x,t6,rfl,UN⟩
    have m3:aM (.int l) (.int (10^24))=some (.fz (.int (l % 10^24))):=a4 (by decide);have m4:bN (.int l) (.int (10^24))=some (.fz (.int (l/10^24))):=bW ⟨by decide,by decide⟩;have n3:0<=l % 10^24:=Hz _ (by decide);have n4:0<=l/10^24:=JK hl (by decide)
    have fin:∀(x l:Int) (t6:Option PV),0<=x->0<=l->Go (cC (gH 2 (aa 5)) [some (.fz (.int c)),some (.fz (.int 41)),some (.ow (xs.map .int)),some (.fz (.int l)),some (.fz (nd k)),some (.fz (.int x)),t6])
      (fun ρ=>∃(xs:List Int) (l:Int) (t4 t5 t6:Option PV),ρ=[some (.fz (.int c)),some (.fz (.int 41)),some (.ow (xs.map .int)),some (.fz (.int l)),t4,t5,t6]/\xs.length=i+1/\(∀x∈xs,0<=x)/\0<=l)
      (fun ρ=>∃(xs:List Int) (l:Int) (t4 t5 t6:Option PV),ρ=[some (.fz (.int c)),some (.fz (.int 41)),some (.ow (xs.map .int)),some (.fz (.int l)),t4,t5,t6]/\xs.length=i+1/\(∀x∈xs,0<=x)/\0<=l)
      (fun v=>∃xs:List Int,xs.length=41/\(∀x∈xs,0<=x)/\v= .ow (xs.map .int)):=fun x l t6 h0 h1=>by
     have hlen:(xs.map Hr.int).length<1000000:=by rw[Hk];omega
     refine fV (by walk_at "ev") ⟨xs++[x],l,_,_,_,by rw[HV];rfl,by rw[Hn,WT];rfl,fun y hy=> ?_,h1⟩;rcases Ih.mp hy with z|z
     ·exact hx y z
     ·rw[HZ.mp z];exact h0
    have p18:=yX;walk_at "go"
    ·intro _;walk_at "go";exact fin _ _ _ n3 n4
    ·intro _;exact bL (fin _ _ _ UN hl)
  ·rintro ρ ⟨xs,l,t4,t5,t6,rfl,WT,hx,hl⟩;exact ce (by walk_at "ev") rfl ⟨xs,WT,hx,rfl⟩)
 exact⟨xs,h1,h2,e⟩
noncomputable def tx (l:List Nat):Str:=⟨l.toArray⟩
theorem CY (a b:List Nat):tx a++tx b=tx (a++b):=by show(⟨a.toArray++b.toArray⟩:Str)=⟨(a++b).toArray⟩;rw[List.append_toArray]
theorem ij (l:List Nat):(tx l).length=l.length:=by show l.toArray.size=_;rw[Hs]
theorem qO {l:List Nat} (h:∀c∈l,c<1114112):Hr.strOk (tx l)=true:=by show l.toArray.all (fun c=>decide (c<0x110000))=true;rw[<-Qr,Jc];exact fun c hc=>decide_eq_true (h c hc)
theorem yP {a b:List Nat} (h:tx a=tx b):a=b:=congrArg (fun z:Str=>z.cps.toList) h
theorem iy {a b:List Nat} (h:a.length+b.length<=1000):g8 (.str (tx a)) (.str (tx b))=some (.fz (.str (tx (a++b)))):=by show(if(tx a).length+(tx b).length<=1000000 then some (RV.fz (.str (tx a++tx b))) else none)=_;rw[ij,ij,if_pos (by omega),CY]
theorem vc (c:Nat):∀(n:Nat) (a:Array Nat),(Hl n (#[c]:Array Nat)).foldl (·++·) a=a++(Hl n c).toArray
 |0,a=>by simp
 |n+1,a=>by rw[Im,Nk,vc c n,Im];apply Qp.mp;simp
theorem DY (c:Nat) (n:Nat):Txt.mul (tx [c]) (n:Int)=tx (Hl n c):=by
 unfold Txt.mul;by_cases h0:n=0
 ·subst h0;rfl
 rw[if_neg (by omega)];by_cases h1:n=1
 ·subst h1;rfl
 rw[if_neg (by intro z;have z:(((n:Int)==1)||((tx [c]).length==0))=true:=z;rw[ij] at z;simp at z;omega)];show(⟨(Hl (n:Int).toNat (#[c]:Array Nat)).foldl (·++·) #[]⟩:Str)=_;rw[vc,IV];simp;rfl
theorem oH {c:Nat} {i:Int} (h0:0<=i) (h1:i<=1000):L9.sr (.str (tx [c])) (.int i)=some (.fz (.str (tx (Hl i.toNat c)))):=by show(if(tx [c]).length<=1000/\0<=i/\i<=1000 then some (RV.fz (.str (Txt.mul (tx [c]) i))) else none)=_;rw[if_pos ⟨by rw[ij];exact HQ rfl,h0,h1⟩];obtain⟨n,rfl⟩:∃n:Nat,i=(n:Int):=⟨i.toNat,by omega⟩;rw[DY,IV]
theorem vw (x:Str) (l u:Option Int):∀c∈(Txt.slice x l u).cps.toList,c∈x.cps.toList:=by
 unfold Txt.slice;split
 ·exact fun c h=>h
 ·intro c h;obtain⟨i,_,hi⟩:=Mn.mp (show c∈List.filterMap (fun i=>x.cps[i]?) _ from h);exact OA.mpr (Array.mem_of_getElem? hi)
theorem vM {l:List Nat} (h:l.length<=1000) (lo hi:Option Int):∃m:List Nat,m.length<=l.length/\(∀c∈m,c∈l)/\ip (.str (tx l)) lo hi=some (.fz (.str (tx m))):=by
 refine⟨(Txt.slice (tx l) lo hi).cps.toList,?_,vw (tx l) lo hi,?_⟩
 ·have:=Txt.slice_le (tx l) lo hi;rw[ij] at this;exact this
 ·show(if(tx l).length<=1000000 then some (RV.fz (.str (Txt.slice (tx l) lo hi))) else none)=_;rw[ij,if_pos (by omega)];rfl
abbrev Wd:=List Nat×List (List Int)
noncomputable def kD (ks:List Int):D:= .tuple (ks.map .int)
noncomputable def wD (e:Wd):D:= .tuple [.str (tx e.1),.tuple (e.2.map kD)]
noncomputable def aG (B:List Wd):D:= .tuple (B.map wD)
theorem nu {α:Type} {f g:α->D} {gt:FG} {fe:FE} {ρ0:aw} (I:aw->Prop) (xs:List α) (hl:xs.length<=1000000) (h0:I ρ0) (hs:∀x∈xs,∀ρ,I ρ->∃ρ',jL gt cF fe (f x) ρ= .ok (some (g x),ρ')/\I ρ'):ik (cD gt cF fe (xs.map f) ρ0 [])= .ok (xs.map g):=by
 obtain⟨ys,h1,h2,h3⟩:=wO (gt:=gt) (ft:=cF) (fe:=fe) (ds:=xs.map f) (ρ:=ρ0) I (fun i y=>∃x,xs[i]? =some x/\y=g x) h0 (by rw[Hk];exact hl) (by
  intro i d hi ρ hI;rw[Hv] at hi;cases q:xs[i]? with
  |none=>rw[q] at hi;cases hi
  |some x=>
   obtain rfl:d=f x:=by rw[q] at hi;exact(HJ hi).symm
   obtain⟨ρ',e,hI'⟩:=hs x (HX q) ρ hI;exact⟨_,_,e,hI',x,rfl,rfl⟩)
 rw[h1];congr 1;refine Qq fun i=> ?_;rw[Hv];cases q:ys[i]? with
 |none=>
  have:xs.length<=i:=by have:=List.getElem?_eq_none_iff.mp q;rw[h2,Hk] at this;exact this
  rw[Kr this];rfl
 |some y=>obtain⟨x,h4,rfl⟩:=h3 i y q;rw[h4];rfl
theorem kx {α:Type} {f g:α->D} {fe:FE} {cp:aw} (xs:List α) (hl:xs.length<=1000000) (hc:cv cp=cp) (he:∀x∈xs,fe (some (.fz (f x))::cp)= .ok (.fz (g x),some (.fz (f x))::cp)):ik (cD (gN 0) cF fe (xs.map f) (none::cp) [])= .ok (xs.map g):=by
 refine nu (fun ρ=>∃o,ρ=o::cp) xs hl ⟨none,rfl⟩ ?_;rintro x hx ρ ⟨o,rfl⟩;have fg:cv (some (PV.fz (f x))::cp)=some (.fz (f x))::cp:=by show vf _::cv cp=_;rw[hc];rfl
 exact⟨_,Cq rfl rfl (he x hx) rfl fg,_,rfl⟩
theorem qN {α:Type} (p:α->Bool):∀l:List α,oE (l.map fun c=>Hr.bool (p c))=some (l.map p)
 |[]=>rfl
 |c::r=>by show(oE (r.map fun c=>Hr.bool (p c))).map (p c::·)=_;rw[qN p r];rfl
theorem p9 {α:Type} (p:α->Bool) (l:List α):pi [.list (l.map fun c=>Hr.bool (p c))]=some (.fz (.bool (l.all p))):=by show(oE _).map (fun bs=>RV.fz (.bool (bs.all id)))=_;rw[qN];show some (RV.fz (.bool _))=_;rw[List.all_map];rfl
noncomputable def vo (ks:List Int):Bool:=(ks.zip (ks.drop 1)).all fun p=>decide (p.1<p.2)
noncomputable def G2 (k:Int):Bool:=decide (0<=k)&&decide (k<12)
noncomputable def wA (ks:List Int):Bool:=decide ((ks.length:Int)≥1)&&(vo ks&&ks.all G2)
theorem um (a b:List Nat):Hr.eqv (.str (tx a)) (.str (tx b))=decide (a=b):=by show decide (tx a=tx b)=_;exact decide_eq_decide.mpr ⟨yP,fun h=>by rw[h]⟩
theorem ko:∀{L:List (List Nat)},(∀l∈L,∀c∈l,c<1114112)->Hr.canLayAll0 (L.map fun l=>Hr.str (tx l))=true
 |[],_=>rfl
 |l::r,h=>by show(Hr.strOk (tx l)&&Hr.canLayAll0 (r.map fun l=>Hr.str (tx l)))=true;rw[qO (h l Ik),ko fun m hm=>h m (Ic _ hm)];rfl
theorem nr (w:List Nat):∀L:List (List Nat),((L.map fun l=>Hr.str (tx l)).any fun e=>Hr.eqv e (.str (tx w)))=decide (w∈L)
 |[]=>rfl
 |l::r=>by
  rw[HH,Kz,nr w r,um];by_cases h:l=w
  ·subst h;simp
  ·have:¬w=l:=fun z=>h z.symm;simp[h,this]
theorem xO {w:List Nat} {L:List (List Nat)} (hw:∀c∈w,c<1114112) (hL:∀l∈L,∀c∈l,c<1114112):wC (.str (tx w)) (.list (L.map fun l=>Hr.str (tx l)))=some (.fz (.bool (decide (w∈L)))):=by show(if((Hr.strOk (tx w)&&decide (0<=64))&&Hr.canLayAll0 (L.map fun l=>Hr.str (tx l)))=true then some (RV.fz (.bool ((L.map fun l=>Hr.str (tx l)).any fun e=>Hr.eqv e (.str (tx w))))) else none)=_;rw[qO hw,ko hL,nr];rfl
theorem zW {w:List Nat} {L:List (List Nat)} (hw:∀c∈w,c<1114112) (hL:∀l∈L,∀c∈l,c<1114112):Aj (.str (tx w)) (.list (L.map fun l=>Hr.str (tx l)))=some (.fz (.bool (!decide (w∈L)))):=by show(if((Hr.strOk (tx w)&&decide (0<=64))&&Hr.canLayAll0 (L.map fun l=>Hr.str (tx l)))=true then some (RV.fz (.bool (!(L.map fun l=>Hr.str (tx l)).any fun e=>Hr.eqv e (.str (tx w))))) else none)=_;rw[qO hw,ko hL,nr];rfl
section
variable {n:Nat} {B:List Wd}
theorem GP (B:List Wd):dR [aG B]=some (.fz (.int (B.length:Int))):=by show some (RV.fz (.int ((B.map wD).length:Int)))=_;rw[Hk]
end
theorem pH:∀ks:List Int,vo ks=true↔ks.Pairwise (·<·)
 |[]=>by simp[vo]
 |[a]=>by simp[vo]
 |a::b::r=>by
  have ih:=pH (b::r);have e:vo (a::b::r)=(decide (a<b)&&vo (b::r)):=rfl;rw[e,Ip,decide_eq_true_iff,ih];constructor
  ·rintro⟨h1,h2⟩
   refine KU.mpr ⟨fun x hx=> ?_,h2⟩;rcases Ie.mp hx with rfl|hx
   ·exact h1
   ·exact Int.lt_trans h1 ((KU.mp h2).1 x hx)
  ·exact fun h=>have z:=KU.mp h;⟨z.1 b Ik,z.2⟩
theorem GS:∀ks:List Int,Hr.canLayAll0 (ks.map Hr.int)=true
 |[]=>rfl
 |k::r=>by show(true&&Hr.canLayAll0 (r.map Hr.int))=true;rw[GS r];rfl
theorem ED:∀ks:List Int,Hr.depthAll (ks.map Hr.int)=0
 |[]=>rfl
 |k::r=>by show max 0 (Hr.depthAll (r.map Hr.int))=0;rw[ED r];rfl
theorem Fs:∀a b:List Int,Hr.eqvAll (a.map Hr.int) (b.map Hr.int)=decide (a=b)
 |[],[]=>rfl
 |[],_::_=>rfl
 |_::_,[]=>rfl
 |x::r,y::t=>by show(decide (x=y)&&Hr.eqvAll (r.map Hr.int) (t.map Hr.int))=_;rw[Fs r t];by_cases h:x=y<;>by_cases g:r=t<;>simp[h,g]
section
variable {n:Nat} {B:List Wd}
theorem sk:∀ss:List (List Int),Hr.canLayAll0 (ss.map kD)=true
 |[]=>rfl
 |ks::r=>by show(Hr.canLayAll0 (ks.map Hr.int)&&Hr.canLayAll0 (r.map kD))=true;rw[GS,sk r];rfl
theorem wX:∀ss:List (List Int),Hr.depthAll (ss.map kD)<=1
 |[]=>Jq _
 |ks::r=>by show max (Hr.depthAll (ks.map Hr.int)+1) (Hr.depthAll (r.map kD))<=1;rw[ED];have:=wX r;omega
end
theorem oW {i:Int} (h0:0<=i) (h1:i<26):Ej (.str "abcdefghijklmnopqrstuvwxyz") (.int i)=some (.fz (.str (tx [97+i.toNat]))):=by
 have tab:∀c,c<26->(("abcdefghijklmnopqrstuvwxyz":Str).cps.toList)[c]? =some (97+c):=by decide+kernel
 have ln:("abcdefghijklmnopqrstuvwxyz":Str).length<=1000000:=by decide+kernel
 show(if("abcdefghijklmnopqrstuvwxyz":Str).length<=1000000 then(lX ("abcdefghijklmnopqrstuvwxyz":Str).cps.toList i).map (fun c=>RV.fz (.str ⟨#[c]⟩)) else none)=_;rw[if_pos ln,oA h0 (tab i.toNat (by omega))];rfl
def wY (l:List Nat):Prop:=∀c∈l,97<=c/\c<=122
theorem oz {a b:List Nat} (h:wY a) (g:wY b):wY (a++b):=fun c hc=>by
 rcases Ih.mp hc with z|z
 ·exact h c z
 ·exact g c z
theorem ua {i:Int} (h0:0<=i) (h1:i<26):wY [97+i.toNat]:=fun c hc=>by rw[HZ.mp hc];omega
theorem AI {i:Int} (h0:0<=i) (h1:i<26) (n:Nat):wY (Hl n (97+i.toNat)):=fun c hc=>by rw[(List.mem_replicate.mp hc).2];omega
theorem uX:(Hr.str "")= .str (tx []):=by
 have:("":Str)=tx []:=by decide+kernel
 rw[this]
theorem ro {x:Int} (hx:0<=x):∃l:List Nat,wY l/\1<=l.length/\l.length<=8/\cS [.int x]= .ok (.fz (.str (tx l))):=by
 have b1:0<=x % 8/\x % 8<8:=⟨Hz _ (by decide),HB _ (by decide)⟩;have m1:aM (.int x) (.int 8)=some (.fz (.int (x % 8))):=a4 (by decide);have m2:bN (.int x) (.int 8)=some (.fz (.int (x/8))):=bW ⟨by decide,by decide⟩;have r1:cK [.int (1+x % 8)]=some (jP (HF (1+x % 8).toNat)):=gp (by omega) (by omega);have n2:0<=x/8:=JK hx (by decide);generalize x/8=x8 at m2 n2;generalize x % 8=xm at m1 b1 r1;obtain⟨rv,e,l,h1,h2,h3,rfl⟩:=fT (ds:=[.int x]) (ρ:=[some (.fz (.int x)),none,none,none]) (n:=4) (g:=cT) (T:=fun v=>∃l:List Nat,wY l/\1<=l.length/\l.length<=8/\v= .fz (.str (tx l))) rfl (by
  unfold cT;rw[uX];walk_at "go"
  with_reducible apply cX (fun i ρ=>∃(y:Int) (l:List Nat) (t3:Option PV),ρ=[some (.fz (.int y)),some (.fz (.str (tx l))),some (.fz (.int (1+xm))),t3]/\l.length=i/\wY l/\0<=y)
  ·walk_at "ev"
  ·exact⟨x8,[],none,rfl,rfl,(fun c h=>by cases h),n2⟩
  ·rintro i d ρ hi ⟨y,l,t3,rfl,hl,hL,hy⟩
   obtain⟨k,hk,rfl⟩:=cZ hi;have hi8:i<(1+xm).toNat:=by have:=(Hm.mp hk).1;simpa using this
   have b2:0<=y % 26/\y % 26<26:=⟨Hz _ (by decide),HB _ (by decide)⟩;have m3:aM (.int y) (.int 26)=some (.fz (.int (y % 26))):=a4 (by decide);have m4:bN (.int y) (.int 26)=some (.fz (.int (y/26))):=bW ⟨by decide,by decide⟩;have n4:0<=y/26:=JK hy (by decide);have al:=oW b2.1 b2.2;have o1:=ua b2.1 b2.2;have ad:=iy (a:=l) (b:=[97+(y % 26).toNat]) (by rw[IE];omega);generalize 97+(y % 26).toNat=c at al o1 ad;refine⟨_,rfl,?_⟩;walk_at "go";exact⟨y/26,l++[c],_,rfl,by rw[Hn,hl];rfl,oz hL o1,n4⟩
  ·rintro ρ ⟨y,l,t3,rfl,hl,hL,hy⟩;rw[dj,HC] at hl;exact ce (ai rfl) rfl ⟨l,hL,by omega,by omega,rfl⟩)
 exact⟨l,h1,h2,h3,e⟩
structure Pj (i:Nat) (ks:List Int):Prop where
 pw:ks.Pairwise (·<·)
 lo:∀k∈ks,0<=k/\k<i
theorem Pj.nil:Pj 0 []:=⟨ND,fun k h=>by cases h⟩
theorem Pj.same {i:Nat} {ks:List Int} (h:Pj i ks):Pj (i+1) ks:=⟨h.pw,fun k hk=>by have:=h.lo k hk;omega⟩
theorem Pj.snoc {i:Nat} {ks:List Int} (h:Pj i ks):Pj (i+1) (ks++[(i:Int)]):=by
 refine⟨List.pairwise_append.mpr ⟨h.pw,List.pairwise_singleton _ _,fun a ha b hb=> ?_⟩,fun k hk=> ?_⟩
 ·rw[HZ.mp hb];exact(h.lo a ha).2
 ·rcases Ih.mp hk with z|z
  ·have:=h.lo k z;omega
  ·rw[HZ.mp z];omega
theorem yD:∀{ks:List Int} {a b:Int},ks.Pairwise (·<·)->(∀k∈ks,a<=k/\k<b)->a<=b->(ks.length:Int)<=b - a
 |[],a,b,_,_,h=>by rw[Jw];omega
 |k::r,a,b,hp,hk,h=>by obtain⟨h1,h2⟩:=KU.mp hp;have h3:=hk k Ik;have:=yD (a:=k+1) (b:=b) h2 (fun x hx=>⟨by have:=h1 x hx;omega,(hk x (Ic _ hx)).2⟩) (by omega);rw[HP];omega
theorem Pj.len {i:Nat} {ks:List Int} (h:Pj i ks):ks.length<=i:=by have:=yD h.pw h.lo (by omega);omega
theorem Pj.st {ks:List Int} (h:Pj 12 ks) (LS:1<=ks.length):wA ks=true:=by
 unfold wA;rw[decide_eq_true (by omega),(pH ks).mpr h.pw,Jc.mpr fun k hk=> ?_]
 ·rfl
 ·have:=h.lo k hk;unfold G2;rw[decide_eq_true this.1,decide_eq_true (show k<12 by omega)];rfl
theorem FL (m:Int):j7 (.int (m % 2)) (.int 1)=some (.fz (.bool (decide (m % 2=1)))):=fY _ _
theorem nB {x:Int} (hx:0<=x) (Q7:x<4095):∃ks:List Int,wA ks=true/\ks.length<=12/\cw [.int x]= .ok (.fz (kD ks)):=by
 have r1:cK [.int 12]=some (jP (HF 12)):=gp (n:=12) (by decide) (by decide);obtain⟨rv,e,ks,h1,h2,rfl⟩:=fT (ds:=[.int x]) (ρ:=[some (.fz (.int x)),none,none,none]) (n:=4) (g:=bR) (T:=fun v=>∃ks:List Int,wA ks=true/\ks.length<=12/\v= .fz (kD ks)) rfl (by
  unfold bR;walk_at "go"
  with_reducible apply cX (fun i ρ=>∃(m:Int) (ks:List Int) (t3:Option PV),ρ=[some (.fz (.int x)),some (.fz (.int m)),some (.ow (ks.map .int)),t3]/\Pj i ks/\0<=m/\m<2^(12 - i)/\(1<=ks.length\/1<=m))
  ·walk_at "ev"
  ·exact⟨1+x,[],none,rfl,.nil,by omega,by show 1+x<4096;omega,.inr (by omega)⟩
  ·rintro i d ρ hi ⟨m,ks,t3,rfl,hU,h0,hm,LS⟩
   obtain⟨k,hk,rfl⟩:=cZ hi;obtain⟨hl,e⟩:=Hm.mp hk;rw[JH] at e;subst e;rw[HC] at hl;have m1:aM (.int m) (.int 2)=some (.fz (.int (m % 2))):=a4 (by decide);have m2:bN (.int m) (.int 2)=some (.fz (.int (m/2))):=bW ⟨by decide,by decide⟩;have e2:=FL m;have hp:(2:Int)^(12 - i)=2*2^(12 - (i+1)):=by rw[show 12 - i=(12 - (i+1))+1 by omega,Int.pow_succ,Int.mul_comm]
   rw[hp] at hm;generalize (2:Int)^(12 - (i+1))=p at hm;have hlen:(ks.map Hr.int).length<1000000:=by rw[Hk];have:=hU.len;omega
   refine⟨_,rfl,?_⟩;walk_at "go"
   ·intro q;have q:=of_decide_eq_true q;walk_at "go";exact⟨m/2,ks++[(i:Int)],_,by rw[HV];rfl,hU.snoc,by omega,by omega,.inl (by rw[Hn,IE];omega)⟩
   ·intro q;have q:=of_decide_eq_false q;refine bL ?_;walk_at "go";exact⟨m/2,ks,_,rfl,hU.same,by omega,by omega,LS.imp id fun z=>by omega⟩
  ·rintro ρ ⟨m,ks,t3,rfl,hU,h0,hm,LS⟩;rw[dj,HC] at hm hU;have hm:m<1:=hm;exact ce (pv:= .fz (kD ks)) (eN (rv:= .fz (kD ks)) (ag (cu rfl) aB) rfl rfl) rfl ⟨ks,hU.st (by omega),hU.len,rfl⟩)
 exact⟨ks,h1,h2,e⟩
theorem mI {c:Int} (hc:0<=c) (w:Bool):∃ks:List Int,wA ks=true/\ks.length<=12/\bu [.int c,.bool w]= .ok (.fz (kD ks)):=by
 have r1:cK [.int 12]=some (jP (HF 12)):=gp (n:=12) (by decide) (by decide);have m0:bN (.int c) (.int 4)=some (.fz (.int (c/4))):=bW ⟨by decide,by decide⟩;have m4:aM (.int c) (.int 4)=some (.fz (.int (c % 4))):=a4 (by decide);have b4:0<=c % 4/\c % 4<4:=⟨Hz _ (by decide),HB _ (by decide)⟩;obtain⟨Xh,k1,k2,ix⟩:∃ks:List Int,wA ks=true/\ks.length<=12/\cN (.list [kD [0],kD [1],kD [0,1],kD [2,11]]) (.int (c % 4))=some (.fz (kD ks)):=by
  generalize c % 4=j at b4;obtain⟨n,rfl⟩:∃n:Nat,j=(n:Int):=⟨j.toNat,by omega⟩
  match n,b4 with
  |0,_=>exact⟨[0],rfl,by decide,zH (i:=0) rfl⟩
  |1,_=>exact⟨[1],rfl,by decide,zH (i:=1) rfl⟩
  |2,_=>exact⟨[0,1],rfl,by decide,zH (i:=2) rfl⟩
  |3,_=>exact⟨[2,11],rfl,by decide,zH (i:=3) rfl⟩
  |n+4,h=>omega
 have last:∀(t3 t4 t5:Option PV),Go (bU (am cN (aa 2) (am aM (aa 0) (pC (.int 4)))) [some (.fz (.int c)),some (.fz (.bool w)),some (.ow [kD [0],kD [1],kD [0,1],kD [2,11]]),t3,t4,t5]) (fun _=>∃ks:List Int,wA ks=true/\ks.length<=12/\RV.fz Hr.none= .fz (kD ks)) (fun _=>False) (fun v=>∃ks:List Int,wA ks=true/\ks.length<=12/\v= .fz (kD ks)):=fun t3 t4 t5=>
  ce (pv:= .fz (kD Xh)) (a5 (rv:= .fz (kD Xh)) (cu rfl) (by walk_at "ev") rfl rfl ix) rfl ⟨Xh,k1,k2,rfl⟩
 obtain⟨rv,e,ks,h1,h2,rfl⟩:=fT (ds:=[.int c,.bool w]) (ρ:=[some (.fz (.int c)),some (.fz (.bool w)),none,none,none,none]) (n:=6) (g:=dk) (T:=fun v=>∃ks:List Int,wA ks=true/\ks.length<=12/\v= .fz (kD ks)) rfl (by
  unfold dk;refine aH (pv:= .ow [kD [0],kD [1],kD [0,1],kD [2,11]]) (ρ3:=[some (.fz (.int c)),some (.fz (.bool w)),some (.ow [kD [0],kD [1],kD [0,1],kD [2,11]]),none,none,none]) (by walk_at "ev") rfl rfl ?_;refine dW (a9 (ai rfl) rfl) (fun _=> ?_) fun _=>bL (last _ _ _);walk_at "go"
  with_reducible apply cX (fun i ρ=>∃(m:Int) (ks:List Int) (t5:Option PV),ρ=[some (.fz (.int c)),some (.fz (.bool w)),some (.ow [kD [0],kD [1],kD [0,1],kD [2,11]]),some (.fz (.int m)),some (.ow (ks.map .int)),t5]/\Pj i ks)
  ·walk_at "ev"
  ·exact⟨c/4,[],none,rfl,.nil⟩
  ·rintro i d ρ hi ⟨m,ks,t5,rfl,hU⟩
   obtain⟨k,hk,rfl⟩:=cZ hi;obtain⟨hl,e⟩:=Hm.mp hk;rw[JH] at e;subst e;rw[HC] at hl;have m1:aM (.int m) (.int 2)=some (.fz (.int (m % 2))):=a4 (by decide);have m2:bN (.int m) (.int 2)=some (.fz (.int (m/2))):=bW ⟨by decide,by decide⟩;have e2:=FL m;have hlen:(ks.map Hr.int).length<1000000:=by rw[Hk];have:=hU.len;omega
   refine⟨_,rfl,?_⟩;walk_at "go"
   ·intro _;walk_at "go";exact⟨m/2,ks++[(i:Int)],_,by rw[HV];rfl,hU.snoc⟩
   ·intro _;refine bL ?_;walk_at "go";exact⟨m/2,ks,_,rfl,hU.same⟩
  ·rintro ρ ⟨m,ks,t5,rfl,hU⟩
   rw[dj,HC] at hU;have ln:dR [.list (ks.map Hr.int)]=some (.fz (.int (ks.length:Int))):=by show some (RV.fz (.int ((ks.map Hr.int).length:Int)))=_;rw[Hk]
   refine dW (b:=decide ((ks.length:Int)>0)) (a9 (df (dx:= .int (ks.length:Int)) (dy:= .int 0) (eN (rv:= .fz (.int (ks.length:Int))) (ag (cu rfl) aB) rfl ln) cj rfl rfl (zD _ _)) rfl) (fun q=> ?_) fun _=>bL (last _ _ _);have q:=of_decide_eq_true q;exact lO (pv:= .fz (kD ks)) (eN (rv:= .fz (kD ks)) (ag (cu rfl) aB) rfl rfl) rfl ⟨ks,hU.st (by omega),hU.len,rfl⟩)
 exact⟨ks,h1,h2,e⟩
structure GE (e:Wd):Prop where
 wd:wY e.1
 w1:1<=e.1.length
 w8:e.1.length<=8
 s1:1<=e.2.length
 s6:e.2.length<=6
 st:∀ks∈e.2,wA ks=true/\ks.length<=12
structure Bk (B:List Wd):Prop where
 l1:1<=B.length
 RT:B.length<=20
 ge:∀e∈B,GE e
 nd:(B.map (·.1)).Nodup
theorem z9 {α:Type} {l:List α} {a:α} (h:l.Nodup) (ha:a∉l):(l++[a]).Nodup:=List.nodup_append.mpr ⟨h,Jv.mpr ⟨Q2,Ry⟩,fun x hx y hy z=>by rw[HZ.mp hy] at z;subst z;exact ha hx⟩
noncomputable abbrev c7 (l:List Nat):D:= .str (tx l)
theorem GJ {s o p:Nat} {a b:Nat} (h:Hl a s++[o]++Hl b s=Hl a s++[p]++Hl b s):o=p:=by rw[K5,K5] at h;have:=List.append_cancel_left h;exact(M3 this).1
theorem yB {c:Int} (hc:0<=c) {m:Nat} (hm:m<=20):∃N:List (List Nat),N.length=m/\N.Nodup/\(∀l∈N,wY l/\1<=l.length/\l.length<=8)/\cQ [.int c,nd m]= .ok (.ow (N.map c7)):=by
 have Uk:0<=c/3 % 26/\c/3 % 26<26:=⟨Hz _ (by decide),HB _ (by decide)⟩;have d3:bN (.int c) (.int 3)=some (.fz (.int (c/3))):=bW ⟨by decide,by decide⟩;have m26:aM (.int (c/3)) (.int 26)=some (.fz (.int (c/3 % 26))):=a4 (by decide);have al:=oW Uk.1 Uk.2;have rp:=AI Uk.1 Uk.2;generalize c/3 % 26=j at Uk m26 al rp;generalize 97+j.toNat=s at al rp;have m3:aM (.int c) (.int 3)=some (.fz (.int (c % 3))):=a4 (by decide);have e3:j7 (.int (c % 3)) (.int 0)=some (.fz (.bool (decide (c % 3=0)))):=fY _ _;have rm:=kf (n:=m) (by omega);have d78:bN (.int c) (.int 78)=some (.fz (.int (c/78))):=bW ⟨by decide,by decide⟩;have m8:aM (.int (c/78)) (.int 8)=some (.fz (.int (c/78 % 8))):=a4 (by decide);have b8:0<=c/78 % 8/\c/78 % 8<8:=⟨Hz _ (by decide),HB _ (by decide)⟩;generalize c/78 % 8=sz at m8 b8;have ZW:bN (.int c) (.int 624)=some (.fz (.int (c/624))):=bW ⟨by decide,by decide⟩;have Y6:aM (.int (c/624)) (.int (sz+1))=some (.fz (.int (c/624 % (sz+1)))):=a4 (by omega);have X2:0<=c/624 % (sz+1)/\c/624 % (sz+1)<sz+1:=⟨Hz _ (by omega),HB _ (by omega)⟩;generalize c/624 % (sz+1)=a at Y6 X2;have Yl:bN (.int c) (.int 5616)=some (.fz (.int (c/5616))):=bW ⟨by decide,by decide⟩;have n56:0<=c/5616:=JK hc (by decide);generalize c/5616=dd at Yl n56;have YV:=oH (c:=s) X2.1 (show a<=1000 by omega);have YJ:=oH (c:=s) (show 0<=sz - a by omega) (show sz - a<=1000 by omega);obtain⟨rv,e,N,h1,h2,h3,rfl⟩:=fT (ds:=[.int c,nd m]) (ρ:=[some (.fz (.int c)),some (.fz (nd m)),none,none,none,none,none,none,none]) (n:=9) (g:=dL) (T:=fun v=>∃N:List (List Nat),N.length=m/\N.Nodup/\(∀l∈N,wY l/\1<=l.length/\l.length<=8)/\v= .ow (N.map c7)) rfl (by
  unfold dL;refine aH (pv:= .fz (.str "abcdefghijklmnopqrstuvwxyz")) (ρ3:=[some (.fz (.int c)),some (.fz (nd m)),some (.fz (.str "abcdefghijklmnopqrstuvwxyz")),none,none,none,none,none,none]) cj rfl rfl ?_;refine aH (pv:= .fz (c7 [s])) (ρ3:=[some (.fz (.int c)),some (.fz (nd m)),some (.fz (.str "abcdefghijklmnopqrstuvwxyz")),some (.fz (c7 [s])),none,none,none,none,none]) (a5 (rv:= .fz (c7 [s])) (ai rfl) (by walk_at "ev") rfl rfl al) rfl rfl ?_;refine dW (b:=decide (c % 3=0)&&decide ((m:Int)<9)) (by walk_at "ev") (fun q=> ?_) fun _=>bL ?_
  ·rw[Ip,decide_eq_true_iff,decide_eq_true_iff] at q
   have cmp:ik (cD (gN 0) cF (am L9.sr (aa 1) (am bE (aa 0) (pC (.int 1)))) ((HF m).map nd) [none,some (.fz (c7 [s]))] [])= .ok ((HF m).map fun k=>c7 (Hl (k+1) s)):=by refine kx (HF m) (by rw[HC];omega) rfl fun k hk=> ?_;have hk:=Jd.mp hk;have mu:=oH (c:=s) (i:=(k:Int)+1) (by omega) (by omega);rw[show((k:Int)+1).toNat=k+1 by omega] at mu;exact a5 (rv:= .fz (c7 (Hl (k+1) s))) (ai rfl) (a5 (rv:= .fz (.int ((k:Int)+1))) (ai rfl) cj rfl rfl (oZ _ _)) rfl rfl mu
   refine lO (gX (xs:=(HF m).map fun k=>c7 (Hl (k+1) s)) (ka (ds:=[nd m]) (ag (ai rfl) aB) rfl rm) rfl cmp) rfl ⟨(HF m).map fun k=>Hl (k+1) s,by rw[Hk,HC],?_,fun l hl=> ?_,by rw[Ln];rfl⟩
   ·refine NJ.mpr (Qs.mpr (Q3.imp fun{x y} LS z=>LS ?_));have:=congrArg KG z;rw[HE,HE] at this;omega
   ·obtain⟨k,hk,rfl⟩:=IL.mp hl;have hk:=Jd.mp hk;rw[HE];exact⟨rp _,by omega,by omega⟩
  ·refine aH (pv:= .fz (.int sz)) (ρ3:=[some (.fz (.int c)),some (.fz (nd m)),some (.fz (.str "abcdefghijklmnopqrstuvwxyz")),some (.fz (c7 [s])),some (.fz (.int sz)),none,none,none,none]) (by walk_at "evp") rfl rfl ?_
   refine aH (pv:= .fz (.int a)) (ρ3:=[some (.fz (.int c)),some (.fz (nd m)),some (.fz (.str "abcdefghijklmnopqrstuvwxyz")),some (.fz (c7 [s])),some (.fz (.int sz)),some (.fz (.int a)),none,none,none]) (by walk_at "evp") rfl rfl ?_;refine aH (pv:= .ow []) (ρ3:=[some (.fz (.int c)),some (.fz (nd m)),some (.fz (.str "abcdefghijklmnopqrstuvwxyz")),some (.fz (c7 [s])),some (.fz (.int sz)),some (.fz (.int a)),some (.ow []),none,none]) (by walk_at "evp") rfl rfl ?_;refine cX (fun i ρ=>∃(t7 t8:Option PV),ρ=[some (.fz (.int c)),some (.fz (nd m)),some (.fz (.str "abcdefghijklmnopqrstuvwxyz")),some (.fz (c7 [s])),some (.fz (.int sz)),some (.fz (.int a)),some (.ow (((HF i).map fun k:Nat=>Hl a.toNat s++[97+(((k:Int)*7+dd) % 26).toNat]++Hl (sz - a).toNat s).map c7)),t7,t8]) (ds:=jP (HF m)) (ρ1:=[some (.fz (.int c)),some (.fz (nd m)),some (.fz (.str "abcdefghijklmnopqrstuvwxyz")),some (.fz (c7 [s])),some (.fz (.int sz)),some (.fz (.int a)),some (.ow []),none,none]) (ka (ds:=[nd m]) (ag (ai rfl) aB) rfl rm) ⟨none,none,rfl⟩ ?_ ?_
   ·rintro i d ρ hi ⟨t7,t8,rfl⟩
    obtain⟨k,hk,rfl⟩:=cZ hi;obtain⟨hl,e⟩:=Hm.mp hk;rw[JH] at e;subst e;rw[HC] at hl;have bo:0<=((i:Int)*7+dd) % 26/\((i:Int)*7+dd) % 26<26:=⟨Hz _ (by decide),HB _ (by decide)⟩;have mu:dC (nd i) (.int 7)=some (.fz (.int ((i:Int)*7))):=pf ⟨by decide,by decide⟩;have mo:aM (.int ((i:Int)*7+dd)) (.int 26)=some (.fz (.int (((i:Int)*7+dd) % 26))):=a4 (by decide);have ao:=oW bo.1 bo.2;rw[List.range_succ,HV,HV];show∃ρ1,_/\Go _ (fun ρ=>∃(t7 t8:Option PV),ρ=[_,_,_,_,_,_,some (.ow (_++[c7 (Hl a.toNat s++[97+(((i:Int)*7+dd) % 26).toNat]++Hl (sz - a).toNat s)])),t7,t8]) _ _;have hlen:(((HF i).map fun k:Nat=>Hl a.toNat s++[97+(((k:Int)*7+dd) % 26).toNat]++Hl (sz - a).toNat s).map c7).length<1000000:=by rw[Hk,Hk,HC];omega
    generalize ((HF i).map fun k:Nat=>Hl a.toNat s++[97+(((k:Int)*7+dd) % 26).toNat]++Hl (sz - a).toNat s).map c7=pre at hlen;generalize 97+(((i:Int)*7+dd) % 26).toNat=o at ao;have a1:=iy (a:=Hl a.toNat s) (b:=[o]) (by rw[HE,IE];omega);have a2:=iy (a:=Hl a.toNat s++[o]) (b:=Hl (sz - a).toNat s) (by rw[Hn,HE,HE,IE];omega);generalize Hl a.toNat s=ra at YV a1 a2;generalize Hl (sz - a).toNat s=rb at YJ a2;refine⟨_,rfl,?_⟩;refine aH (pv:= .fz (c7 [o])) (ρ3:=[some (.fz (.int c)),some (.fz (nd m)),some (.fz (.str "abcdefghijklmnopqrstuvwxyz")),some (.fz (c7 [s])),some (.fz (.int sz)),some (.fz (.int a)),some (.ow pre),some (.fz (nd i)),some (.fz (c7 [o]))]) (a5 (rv:= .fz (c7 [o])) (ai rfl) (a5 (rv:= .fz (.int (((i:Int)*7+dd) % 26))) (a5 (rv:= .fz (.int ((i:Int)*7+dd))) (a5 (rv:= .fz (.int ((i:Int)*7))) (ai rfl) cj rfl rfl mu) (a5 (rv:= .fz (.int dd)) (ai rfl) cj rfl rfl Yl) rfl rfl (oZ _ _)) cj rfl rfl mo) rfl rfl ao) rfl rfl ?_;exact fV (iq (d:=c7 (ra++[o]++rb)) (x:=[some (.fz (.int c)),some (.fz (nd m)),some (.fz (.str "abcdefghijklmnopqrstuvwxyz")),some (.fz (c7 [s])),some (.fz (.int sz)),some (.fz (.int a)),some (.ow (pre++[c7 (ra++[o]++rb)])),some (.fz (nd i)),some (.fz (c7 [o]))]) rfl (a5 (rv:= .fz (c7 (ra++[o]++rb))) (a5 (rv:= .fz (c7 (ra++[o]))) (a5 (rv:= .fz (c7 ra)) (ai rfl) (ai rfl) rfl rfl YV) (ai rfl) rfl rfl a1) (a5 (rv:= .fz (c7 rb)) (ai rfl) (by walk_at "ev") rfl rfl YJ) rfl rfl a2) rfl rfl hlen rfl) ⟨_,_,rfl⟩
   ·rintro ρ ⟨t7,t8,rfl⟩
    rw[dj,HC];refine ce (cu rfl) rfl ⟨(HF m).map fun k:Nat=>Hl a.toNat s++[97+(((k:Int)*7+dd) % 26).toNat]++Hl (sz - a).toNat s,by rw[Hk,HC],?_,fun l hl=> ?_,rfl⟩
    ·refine NJ.mpr (Qs.mpr ?_);refine TN ?_ (Q3 (n:=m));intro x y hx hy LS z;have hx:=Jd.mp hx;have hy:=Jd.mp hy;have:=GJ z;apply LS;omega
    ·obtain⟨k,hk,rfl⟩:=IL.mp hl;have bo:0<=((k:Int)*7+dd) % 26/\((k:Int)*7+dd) % 26<26:=⟨Hz _ (by decide),HB _ (by decide)⟩;refine⟨oz (oz (rp _) (ua bo.1 bo.2)) (rp _),?_,?_⟩<;>rw[Hn,Hn,HE,HE,IE]<;>omega)
 exact⟨N,h1,h2,h3,e⟩
theorem nJ {xs:List Int} {i:Int} (h0:0<=i) (h:i.toNat<xs.length):cN (.list (xs.map .int)) (.int i)=some (.fz (.int xs[i.toNat])):=yw h0 (by rw[Hv,HD h];rfl)
theorem nK (xs:List Int) (hl:xs.length=41) (hx:∀x∈xs,0<=x):∃B,Bk B/\cz [.list (xs.map .int)]= .ok (.fz (aG B)):=by
 have e0:cN (.list (xs.map .int)) (.int 0)=some (.fz (.int xs[0])):=nJ (i:=0) (by decide) (by rw[hl];decide);have UN:0<=xs[0]:=hx _ (JU _);generalize xs[0]=x0 at e0 UN;have m1:aM (.int x0) (.int 20)=some (.fz (.int (x0 % 20))):=a4 (by decide);have b1:0<=x0 % 20/\x0 % 20<20:=⟨Hz _ (by decide),HB _ (by decide)⟩;generalize x0 % 20=xm at m1 b1;have r1:cK [.int (1+xm)]=some (jP (HF (1+xm).toNat)):=gp (by omega) (by omega);obtain⟨rv,e,B,hB,rfl⟩:=fT (ds:=[.list (xs.map .int)]) (ρ:=[some (.fz (.list (xs.map .int))),none,none,none,none,none,none]) (n:=7) (g:=cx) (T:=fun v=>∃B,Bk B/\v= .fz (aG B)) rfl (by
  unfold cx;refine aH (pv:= .ow []) (ρ3:=[some (.fz (.list (xs.map .int))),some (.ow []),none,none,none,none,none]) (by walk_at "evp") rfl rfl ?_;refine cX (fun i ρ=>∃(B:List Wd) (t2 t3 t4 t5 t6:Option PV),ρ=[some (.fz (.list (xs.map .int))),some (.ow (B.map wD)),t2,t3,t4,t5,t6]/\B.length<=i/\(1<=i->1<=B.length)/\(∀e∈B,GE e)/\(B.map (·.1)).Nodup) (ds:=jP (HF (1+xm).toNat)) (ρ1:=[some (.fz (.list (xs.map .int))),some (.ow []),none,none,none,none,none]) (by walk_at "ev") ⟨[],none,none,none,none,none,rfl,Ho _,(fun h=>absurd h (by decide)),(fun e h=>by cases h),Ry⟩ ?_ ?_
  ·rintro i d ρ hi ⟨B,t2,t3,t4,t5,t6,rfl,Vt,XN,hG,hN⟩
   obtain⟨k,hk,rfl⟩:=cZ hi;obtain⟨Xs,e⟩:=Hm.mp hk;rw[JH] at e;subst e;rw[HC] at Xs;have mu:dC (.int 2) (nd i)=some (.fz (.int (2*(i:Int)))):=dZ ⟨by decide,by decide⟩;have ix1:=nJ (xs:=xs) (i:=1+2*(i:Int)) (by omega) (by omega);have T7:0<=xs[(1+2*(i:Int)).toNat]:=hx _ (JU _);generalize xs[(1+2*(i:Int)).toNat]=y1 at ix1 T7;obtain⟨w,hw,w1,w8,en⟩:=ro T7;have ix2:=nJ (xs:=xs) (i:=2+2*(i:Int)) (by omega) (by omega);have Q7:0<=xs[(2+2*(i:Int)).toNat]:=hx _ (JU _);generalize xs[(2+2*(i:Int)).toNat]=y2 at ix2 Q7;have d6:bN (.int y2) (.int 6)=some (.fz (.int (y2/6))):=bW ⟨by decide,by decide⟩;have m6:aM (.int y2) (.int 6)=some (.fz (.int (y2 % 6))):=a4 (by decide);have b6:0<=y2 % 6/\y2 % 6<6:=⟨Hz _ (by decide),HB _ (by decide)⟩;have n6:0<=y2/6:=JK Q7 (by decide);generalize y2/6=z6 at d6 n6;generalize y2 % 6=zm at m6 b6;have r6:cK [.int (1+zm)]=some (jP (HF (1+zm).toNat)):=gp (by omega) (by omega);refine⟨_,rfl,?_⟩;refine aH (pv:= .fz (c7 w)) (ρ3:=[some (.fz (.list (xs.map .int))),some (.ow (B.map wD)),some (.fz (nd i)),some (.fz (c7 w)),t4,t5,t6]) (a8 (rv:= .fz (c7 w)) (by walk_at "ev") rfl rfl en) rfl rfl ?_;refine aH (pv:= .ow []) (ρ3:=[some (.fz (.list (xs.map .int))),some (.ow (B.map wD)),some (.fz (nd i)),some (.fz (c7 w)),some (.ow []),t5,t6]) (by walk_at "evp") rfl rfl ?_;refine aH (pv:= .fz (.int z6)) (ρ3:=[some (.fz (.list (xs.map .int))),some (.ow (B.map wD)),some (.fz (nd i)),some (.fz (c7 w)),some (.ow []),some (.fz (.int z6)),t6]) (by walk_at "evp") rfl rfl ?_;refine cX (fun j ρ=>∃(ss:List (List Int)) (r:Int) (t6:Option PV),ρ=[some (.fz (.list (xs.map .int))),some (.ow (B.map wD)),some (.fz (nd i)),some (.fz (c7 w)),some (.ow (ss.map kD)),some (.fz (.int r)),t6]/\ss.length=j/\0<=r/\∀ks∈ss,wA ks=true/\ks.length<=12) (ds:=jP (HF (1+zm).toNat)) (ρ1:=[some (.fz (.list (xs.map .int))),some (.ow (B.map wD)),some (.fz (nd i)),some (.fz (c7 w)),some (.ow []),some (.fz (.int z6)),t6]) (by walk_at "ev") ⟨[],z6,t6,rfl,rfl,n6,fun ks h=>by cases h⟩ ?_ ?_
   ·rintro j d ρ hj ⟨ss,r,t6,rfl,PU,hr,OU⟩
    obtain⟨k,hk,rfl⟩:=cZ hj;have Yn:j<(1+zm).toNat:=by have:=(Hm.mp hk).1;simpa using this
    have b4:0<=r % 4095/\r % 4095<4095:=⟨Hz _ (by decide),HB _ (by decide)⟩;have m4:aM (.int r) (.int 4095)=some (.fz (.int (r % 4095))):=a4 (by decide);have d4:bN (.int r) (.int 4095)=some (.fz (.int (r/4095))):=bW ⟨by decide,by decide⟩;have n4:0<=r/4095:=JK hr (by decide);obtain⟨ks,k1,k2,ek⟩:=nB b4.1 b4.2;have hlen:(ss.map kD).length<1000000:=by rw[Hk];omega
    refine⟨_,rfl,?_⟩;refine oX (iq (d:=kD ks) (x:=[some (.fz (.list (xs.map .int))),some (.ow (B.map wD)),some (.fz (nd i)),some (.fz (c7 w)),some (.ow (ss.map kD++[kD ks])),some (.fz (.int r)),some (.fz (nd k))]) rfl (a8 (rv:= .fz (kD ks)) (by walk_at "ev") rfl rfl ek) rfl rfl hlen rfl) ?_;refine rz (pv:= .fz (.int (r/4095))) (ρ3:=[some (.fz (.list (xs.map .int))),some (.ow (B.map wD)),some (.fz (nd i)),some (.fz (c7 w)),some (.ow (ss.map kD++[kD ks])),some (.fz (.int (r/4095))),some (.fz (nd k))]) (by walk_at "evp") rfl rfl ⟨ss++[ks],r/4095,_,by rw[HV];rfl,by rw[Hn,PU];rfl,n4,fun WV LG=> ?_⟩;rcases Ih.mp LG with z|z
    ·exact OU WV z
    ·rw[HZ.mp z];exact⟨k1,k2⟩
   ·rintro ρ ⟨ss,r,t6,rfl,PU,hr,OU⟩
    rw[dj,HC] at PU;have Oh:∀l∈B.map (·.1),∀c∈l,c<1114112:=fun l hl c hc=>by obtain⟨e,he,rfl⟩:=IL.mp hl;have:=(hG e he).wd c hc;omega
    have nin:=zW (w:=w) (fun c hc=>by have:=hw c hc;omega) Oh;have cmp:ik (cD (gT 2 (rh (gN 0) (rh (gN 1) Ad))) cF (aa 0) (B.map wD) [none,none] [])= .ok ((B.map (·.1)).map fun l=>Hr.str (tx l)):=by rw[Ln];refine nu (fun ρ=>∃o p,ρ=[o,p]) B (by omega) ⟨none,none,rfl⟩ ?_;rintro e _ ρ ⟨o,p,rfl⟩;exact⟨_,Cq rfl rfl (ai rfl) rfl rfl,_,_,rfl⟩
    have hlen:(B.map wD).length<1000000:=by rw[Hk];omega
    refine pO (b:= !decide (w∈B.map (·.1))) (a9 (df (dx:= .str (tx w)) (dy:= .list ((B.map (·.1)).map fun l=>Hr.str (tx l))) (ai rfl) (gX (ds:=B.map wD) rfl rfl cmp) rfl rfl nin) rfl) (fun q=> ?_) fun q=> ?_
    ·have q:w∉B.map (·.1):=by simpa using q
     refine fV (iq (d:=wD (w,ss)) (x:=[some (.fz (.list (xs.map .int))),some (.ow (B.map wD++[wD (w,ss)])),some (.fz (nd i)),some (.fz (c7 w)),some (.ow (ss.map kD)),some (.fz (.int r)),t6]) rfl (om (ds:=[c7 w,.tuple (ss.map kD)]) (ag (ai rfl) (ag (eN (rv:= .fz (.tuple (ss.map kD))) (ag (cu rfl) aB) rfl rfl) aB)) rfl (HQ rfl)) rfl rfl hlen rfl) ⟨B++[(w,ss)],_,_,_,_,_,by rw[HV];rfl,by rw[Hn,IE];omega,fun _=>by rw[Hn,IE];omega,fun e he=> ?_,?_⟩
     ·rcases Ih.mp he with z|z
      ·exact hG e z
      ·rw[HZ.mp z];exact⟨hw,w1,w8,by show 1<=ss.length;omega,by show ss.length<=6;omega,OU⟩
     ·rw[HV];exact z9 hN q
    ·refine iK ⟨B,_,_,_,_,_,rfl,by omega,fun _=> ?_,hG,hN⟩
     have q:w∈B.map (·.1):=by simpa using q
     have:=List.length_pos_of_mem q;rw[Hk] at this;exact this
  ·rintro ρ ⟨B,t2,t3,t4,t5,t6,rfl,Vt,XN,hG,hN⟩;rw[dj,HC] at Vt XN;exact ce (pv:= .fz (aG B)) (eN (rv:= .fz (aG B)) (ag (cu rfl) aB) rfl rfl) rfl ⟨B,⟨XN (by omega),by omega,hG,hN⟩,rfl⟩)
 exact⟨B,hB,e⟩
theorem Fv {c:Int} (hc:0<=c) {s:Int} (h0:0<=s) (h4:s<4):∃x:Int,0<=x/\cN (.list [.int (c % 2),.int c,.int c,.int c]) (.int s)=some (.fz (.int x)):=by
 obtain⟨n,rfl⟩:∃n:Nat,s=(n:Int):=⟨s.toNat,by omega⟩
 match n,h4 with
 |0,_=>exact⟨c % 2,Hz _ (by decide),zH (i:=0) rfl⟩
 |1,_=>exact⟨c,hc,zH (i:=1) rfl⟩
 |2,_=>exact⟨c,hc,zH (i:=2) rfl⟩
 |3,_=>exact⟨c,hc,zH (i:=3) rfl⟩
 |n+4,h=>omega
noncomputable abbrev G6:FS:=(ak (aJ (aZ cQ 2 (ac (aZ a7 2 (ac (aZ aI 2 (ac (aa 0) (ac (am bE (aa 1) (pC (.int 1))) ah))) (ac (pC (.int 2)) ah))) (ac (aa 4) ah))) (gN 6))
 (ak (aJ (cH ah) (gN 7))
 (ak (dY (dM cK (ac (aa 4) ah)) (gN 8) (ak (aJ (aZ a7 2 (ac (aZ aI 2 (ac (aa 0) (ac (am bE (am bE (aa 1) (pC (.int 2))) (am aM (aa 8) (pC (.int 6)))) ah))) (ac (am bE (pC (.int 3)) (aa 8)) ah))) (gN 9))
 (ak (aJ (cH ah) (gN 10))
 (ak (dY (dM cK (ac (am bE (pC (.int 1)) (am aM (aa 9) (aa 5))) ah)) (gN 11) (ak (aJ (am bN (aa 9) (pC (.int 4))) (gN 9))
 (cC (gH 10 (aZ bu 2 (ac (am cN (cH (ac (am aM (aa 9) (pC (.int 2))) (ac (aa 9) (ac (aa 9) (ac (aa 9) ah))))) (aa 3)) (ac (am j7 (aa 3) (pC (.int 1))) ah)))))))
 (cC (gH 7 (ck (ac (am cN (aa 6) (aa 8)) (ac (fR j8 (ac (aa 10) ah)) ah)))))))))
 (bU (fR j8 (ac (aa 7) ah))))))
theorem wq (ns:List Int) (Oj:ns.length<=63) {a:Int} (ha:0<=a) {x2 so:Int} (Zx:0<=so) (hs4:so<4) {m:Nat} (Wk:1<=m) (hm:m<=20) {mo:Int} (hmo:1<=mo) (aci:mo<=6) {N C:aw->Prop}:
  Go (G6 [some (.fz (.list (ns.map .int))),some (.fz (.int a)),some (.fz (.int x2)),some (.fz (.int so)),some (.fz (nd m)),some (.fz (.int mo)),none,none,none,none,none,none]) N C (fun v=>∃B,Bk B/\v= .fz (aG B)):=by
 obtain⟨c1,e1⟩:=kb ns (a+1) (by omega) Oj;obtain⟨v1,hv1,Wx⟩:=jd c1 2 (by decide) (by decide);obtain⟨Nm,n1,n2,n3,en⟩:=yB hv1 hm;have rm:=kf (n:=m) (by omega);have q1:j7 (.int so) (.int 1)=some (.fz (.bool (decide (so=1)))):=fY _ _;generalize hLD:Hr.list (ns.map Hr.int)=LD at*;refine aH (pv:= .ow (Nm.map c7)) (ρ3:=[some (.fz LD),some (.fz (.int a)),some (.fz (.int x2)),some (.fz (.int so)),some (.fz (nd m)),some (.fz (.int mo)),some (.ow (Nm.map c7)),none,none,none,none,none]) (a8 (rv:= .ow (Nm.map c7)) (by walk_at "ev") rfl rfl en) rfl rfl ?_;refine aH (pv:= .ow []) (ρ3:=[some (.fz LD),some (.fz (.int a)),some (.fz (.int x2)),some (.fz (.int so)),some (.fz (nd m)),some (.fz (.int mo)),some (.ow (Nm.map c7)),some (.ow []),none,none,none,none]) (by walk_at "evp") rfl rfl ?_;refine cX (fun i ρ=>∃(B:List Wd) (t8 t9 Vc Qh:Option PV),ρ=[some (.fz LD),some (.fz (.int a)),some (.fz (.int x2)),some (.fz (.int so)),some (.fz (nd m)),some (.fz (.int mo)),some (.ow (Nm.map c7)),some (.ow (B.map wD)),t8,t9,Vc,Qh]/\B.map (·.1)=Nm.take i/\∀e∈B,GE e) (ds:=jP (HF m)) (ρ1:=[some (.fz LD),some (.fz (.int a)),some (.fz (.int x2)),some (.fz (.int so)),some (.fz (nd m)),some (.fz (.int mo)),some (.ow (Nm.map c7)),some (.ow []),none,none,none,none]) (ka (ds:=[nd m]) (ag (ai rfl) aB) rfl rm) ⟨[],none,none,none,none,rfl,rfl,fun e h=>by cases h⟩ ?_ ?_
 ·rintro i d ρ hi ⟨B,t8,t9,Vc,Qh,rfl,Oh,hG⟩
  obtain⟨k,hk,rfl⟩:=cZ hi;obtain⟨Xs,e⟩:=Hm.mp hk;rw[JH] at e;subst e;rw[HC] at Xs;have Vt:B.length=i:=by have:=congrArg KG Oh;rw[Hk,Ig] at this;omega
  have m6:aM (nd i) (.int 6)=some (.fz (.int ((i:Int) % 6))):=a4 (by decide);have b6:0<=(i:Int) % 6:=Hz _ (by decide);obtain⟨c2,e2⟩:=kb ns (a+2+(i:Int) % 6) (by omega) Oj;rw[hLD] at e2;obtain⟨v2,hv2,WB⟩:=jd c2 (3+(i:Int)) (by omega) (by omega);have mm:aM (.int v2) (.int mo)=some (.fz (.int (v2 % mo))):=a4 (by omega);have bm:0<=v2 % mo/\v2 % mo<mo:=⟨Hz _ (by omega),HB _ (by omega)⟩;generalize v2 % mo=vm at mm bm;have r6:cK [.int (1+vm)]=some (jP (HF (1+vm).toNat)):=gp (by omega) (by omega);have Wh:i<Nm.length:=by omega
  have YM:cN (.list (Nm.map c7)) (nd i)=some (.fz (c7 Nm[i])):=zH (by rw[Hv,HD Wh];rfl);have hw:=n3 _ (JU Wh);have tk:Nm.take (i+1)=Nm.take i++[Nm[i]]:=by rw[List.take_succ,HD Wh];rfl
  generalize Nm[i]=w at YM hw tk;refine⟨_,rfl,?_⟩;refine aH (pv:= .fz (.int v2)) (ρ3:=[some (.fz LD),some (.fz (.int a)),some (.fz (.int x2)),some (.fz (.int so)),some (.fz (nd m)),some (.fz (.int mo)),some (.ow (Nm.map c7)),some (.ow (B.map wD)),some (.fz (nd i)),some (.fz (.int v2)),Vc,Qh]) (a8 (rv:= .fz (.int v2)) (by walk_at "ev") rfl rfl WB) rfl rfl ?_;refine aH (pv:= .ow []) (ρ3:=[some (.fz LD),some (.fz (.int a)),some (.fz (.int x2)),some (.fz (.int so)),some (.fz (nd m)),some (.fz (.int mo)),some (.ow (Nm.map c7)),some (.ow (B.map wD)),some (.fz (nd i)),some (.fz (.int v2)),some (.ow []),Qh]) (by walk_at "evp") rfl rfl ?_;refine cX (fun j ρ=>∃(ss:List (List Int)) (r:Int) (Qh:Option PV),ρ=[some (.fz LD),some (.fz (.int a)),some (.fz (.int x2)),some (.fz (.int so)),some (.fz (nd m)),some (.fz (.int mo)),some (.ow (Nm.map c7)),some (.ow (B.map wD)),some (.fz (nd i)),some (.fz (.int r)),some (.ow (ss.map kD)),Qh]/\ss.length=j/\0<=r/\∀ks∈ss,wA ks=true/\ks.length<=12) (ds:=jP (HF (1+vm).toNat)) (ρ1:=[some (.fz LD),some (.fz (.int a)),some (.fz (.int x2)),some (.fz (.int so)),some (.fz (nd m)),some (.fz (.int mo)),some (.ow (Nm.map c7)),some (.ow (B.map wD)),some (.fz (nd i)),some (.fz (.int v2)),some (.ow []),Qh]) (by walk_at "ev") ⟨[],v2,Qh,rfl,rfl,hv2,fun ks h=>by cases h⟩ ?_ ?_
  ·rintro j d ρ hj ⟨ss,r,Qh,rfl,PU,hr,OU⟩
   obtain⟨k,hk,rfl⟩:=cZ hj;have Yn:j<(1+vm).toNat:=by have:=(Hm.mp hk).1;simpa using this
   have d4:bN (.int r) (.int 4)=some (.fz (.int (r/4))):=bW ⟨by decide,by decide⟩;have n4:0<=r/4:=JK hr (by decide);generalize r/4=r4 at d4 n4;have m2:aM (.int r4) (.int 2)=some (.fz (.int (r4 % 2))):=a4 (by decide);obtain⟨px,hpx,ZP⟩:=Fv n4 Zx hs4;obtain⟨ks,k1,k2,ek⟩:=mI hpx (decide (so=1));have hlen:(ss.map kD).length<1000000:=by rw[Hk];omega
   refine⟨_,rfl,?_⟩;refine aH (pv:= .fz (.int r4)) (ρ3:=[some (.fz LD),some (.fz (.int a)),some (.fz (.int x2)),some (.fz (.int so)),some (.fz (nd m)),some (.fz (.int mo)),some (.ow (Nm.map c7)),some (.ow (B.map wD)),some (.fz (nd i)),some (.fz (.int r4)),some (.ow (ss.map kD)),some (.fz (nd k))]) (by walk_at "evp") rfl rfl ?_;refine fV (iq (d:=kD ks) (x:=[some (.fz LD),some (.fz (.int a)),some (.fz (.int x2)),some (.fz (.int so)),some (.fz (nd m)),some (.fz (.int mo)),some (.ow (Nm.map c7)),some (.ow (B.map wD)),some (.fz (nd i)),some (.fz (.int r4)),some (.ow (ss.map kD++[kD ks])),some (.fz (nd k))]) rfl (a8 (ds:=[.int px,.bool (decide (so=1))]) (rv:= .fz (kD ks)) (ag (a5 (rv:= .fz (.int px)) (nU (ds:=[.int (r4 % 2),.int r4,.int r4,.int r4]) (by walk_at "ev") rfl (HQ rfl)) (ai rfl) rfl rfl ZP) (ag (df (dx:= .int so) (dy:= .int 1) (ai rfl) cj rfl rfl q1) aB)) rfl rfl ek) rfl rfl hlen rfl) ⟨ss++[ks],r4,_,by rw[HV];rfl,by rw[Hn,PU];rfl,n4,fun WV LG=> ?_⟩;rcases Ih.mp LG with z|z
   ·exact OU WV z
   ·rw[HZ.mp z];exact⟨k1,k2⟩
  ·rintro ρ ⟨ss,r,Qh,rfl,PU,hr,OU⟩
   rw[dj,HC] at PU;have hlen:(B.map wD).length<1000000:=by rw[Hk];omega
   refine fV (iq (d:=wD (w,ss)) (x:=[some (.fz LD),some (.fz (.int a)),some (.fz (.int x2)),some (.fz (.int so)),some (.fz (nd m)),some (.fz (.int mo)),some (.ow (Nm.map c7)),some (.ow (B.map wD++[wD (w,ss)])),some (.fz (nd i)),some (.fz (.int r)),some (.ow (ss.map kD)),Qh]) rfl (om (ds:=[c7 w,.tuple (ss.map kD)]) (ag (a5 (rv:= .fz (c7 w)) (cu rfl) (ai rfl) rfl rfl YM) (ag (eN (rv:= .fz (.tuple (ss.map kD))) (ag (cu rfl) aB) rfl rfl) aB)) rfl (HQ rfl)) rfl rfl hlen rfl) ⟨B++[(w,ss)],_,_,_,_,by rw[HV];rfl,by rw[HV,Oh,tk];rfl,fun e he=> ?_⟩;rcases Ih.mp he with z|z
   ·exact hG e z
   ·rw[HZ.mp z];exact⟨hw.1,hw.2.1,hw.2.2,by show 1<=ss.length;omega,by show ss.length<=6;omega,OU⟩
 ·rintro ρ ⟨B,t8,t9,Vc,Qh,rfl,Oh,hG⟩
  rw[dj,HC] at Oh;have Oh:B.map (·.1)=Nm:=by rw[Oh,<-n1,Jy]
  have Vt:B.length=m:=by have:=congrArg KG Oh;rw[Hk] at this;omega
  exact ce (pv:= .fz (aG B)) (eN (rv:= .fz (aG B)) (ag (cu rfl) aB) rfl rfl) rfl ⟨B,⟨by omega,by omega,hG,by rw[Oh];exact n2⟩,rfl⟩
theorem AX (ns:List Int) (Oj:ns.length<=63) {a:Int} (ha:0<=a):∃B,Bk B/\eP [.list (ns.map .int),.int a]= .ok (.fz (aG B)):=by
 obtain⟨c0,e0⟩:=kb ns a ha Oj;obtain⟨xs,x1,x2,ex⟩:=vq c0;obtain⟨B0,hB0,eb0⟩:=nK xs x1 x2;obtain⟨v0,hv0,ev0⟩:=jd c0 1 (by decide) (by decide);have p18:=yX;have d6:bN (.int v0) (.int 6)=some (.fz (.int (v0/6))):=bW ⟨by decide,by decide⟩;have m4:aM (.int (v0/6)) (.int 4)=some (.fz (.int (v0/6 % 4))):=a4 (by decide);have b4:0<=v0/6 % 4/\v0/6 % 4<4:=⟨Hz _ (by decide),HB _ (by decide)⟩;generalize v0/6 % 4=so at m4 b4;have m6:aM (.int v0) (.int 6)=some (.fz (.int (v0 % 6))):=a4 (by decide);have b6:0<=v0 % 6/\v0 % 6<6:=⟨Hz _ (by decide),HB _ (by decide)⟩;generalize v0 % 6=v6 at m6 b6;have d24:bN (.int v0) (.int 24)=some (.fz (.int (v0/24))):=bW ⟨by decide,by decide⟩;have m8:aM (.int (v0/24)) (.int 8)=some (.fz (.int (v0/24 % 8))):=a4 (by decide);have q8:j7 (.int (v0/24 % 8)) (.int 3)=some (.fz (.bool (decide (v0/24 % 8=3)))):=fY _ _;generalize v0/24 % 8=v8 at m8 q8;have aan:bN (.int v0) (.int 192)=some (.fz (.int (v0/192))):=bW ⟨by decide,by decide⟩;have m9:aM (.int (v0/192)) (.int 9)=some (.fz (.int (v0/192 % 9))):=a4 (by decide);have b9:0<=v0/192 % 9/\v0/192 % 9<9:=⟨Hz _ (by decide),HB _ (by decide)⟩;generalize v0/192 % 9=v9 at m9 b9;have f1:(Hr.int (1+v6))=nd (1+v6).toNat:=by show Hr.int _= .int _;congr 1;omega
 have f2:(Hr.int (12+v9))=nd (12+v9).toNat:=by show Hr.int _= .int _;congr 1;omega
 obtain⟨rv,e,B,hB,rfl⟩:=fT (ds:=[.list (ns.map .int),.int a]) (ρ:=[some (.fz (.list (ns.map .int))),some (.fz (.int a)),none,none,none,none,none,none,none,none,none,none]) (n:=12) (g:=eD) (T:=fun v=>∃B,Bk B/\v= .fz (aG B)) rfl (by
  unfold eD;have tl:=fun(x2 mo:Int) (m:Nat) (h1:1<=m) (h2:m<=20) (h3:1<=mo) (h4:mo<=6)=>wq ns Oj ha (x2:=x2) b4.1 b4.2 h1 h2 h3 h4 (N:=fun _=>∃B,Bk B/\RV.fz Hr.none= .fz (aG B)) (C:=fun _=>False);refine aH (pv:= .fz (.int c0)) (ρ3:=[some (.fz (.list (ns.map .int))),some (.fz (.int a)),some (.fz (.int c0)),none,none,none,none,none,none,none,none,none]) (a8 (rv:= .fz (.int c0)) (by walk_at "ev") rfl rfl e0) rfl rfl ?_;refine dW (by walk_at "ev") (fun _=> ?_) fun _=>bL ?_
  ·exact lO (pv:= .fz (aG B0)) (a8 (ds:=[.list (xs.map .int)]) (rv:= .fz (aG B0)) (ag (a8 (rv:= .ow (xs.map .int)) (by walk_at "ev") rfl rfl ex) aB) rfl rfl eb0) rfl ⟨B0,hB0,rfl⟩
  refine aH (pv:= .fz (.int v0)) (ρ3:=[some (.fz (.list (ns.map .int))),some (.fz (.int a)),some (.fz (.int v0)),none,none,none,none,none,none,none,none,none]) (a8 (rv:= .fz (.int v0)) (by walk_at "ev") rfl rfl ev0) rfl rfl ?_;refine aH (pv:= .fz (.int so)) (ρ3:=[some (.fz (.list (ns.map .int))),some (.fz (.int a)),some (.fz (.int v0)),some (.fz (.int so)),none,none,none,none,none,none,none,none]) (by walk_at "evp") rfl rfl ?_;refine aH (pv:= .fz (.int (1+v6))) (ρ3:=[some (.fz (.list (ns.map .int))),some (.fz (.int a)),some (.fz (.int v0)),some (.fz (.int so)),some (.fz (.int (1+v6))),none,none,none,none,none,none,none]) (by walk_at "evp") rfl rfl ?_;refine aH (pv:= .fz (.int 4)) (ρ3:=[some (.fz (.list (ns.map .int))),some (.fz (.int a)),some (.fz (.int v0)),some (.fz (.int so)),some (.fz (.int (1+v6))),some (.fz (.int 4)),none,none,none,none,none,none]) (by walk_at "evp") rfl rfl ?_;refine dW (by walk_at "ev") (fun _=> ?_) fun _=>bL ?_
  ·refine yx ?_;refine aH (pv:= .fz (.int (12+v9))) (ρ3:=[some (.fz (.list (ns.map .int))),some (.fz (.int a)),some (.fz (.int v0)),some (.fz (.int so)),some (.fz (.int (12+v9))),some (.fz (.int 4)),none,none,none,none,none,none]) (by walk_at "evp") rfl rfl ?_;refine aH (pv:= .fz (.int 6)) (ρ3:=[some (.fz (.list (ns.map .int))),some (.fz (.int a)),some (.fz (.int v0)),some (.fz (.int so)),some (.fz (.int (12+v9))),some (.fz (.int 6)),none,none,none,none,none,none]) (by walk_at "evp") rfl rfl ?_;rw[f2];exact tl _ 6 _ (by omega) (by omega) (by decide) (by decide)
  ·rw[f1];exact tl _ 4 _ (by omega) (by omega) (by decide) (by decide))
 exact⟨B,hB,e⟩
theorem Ct (xs ys:List D) (h:xs.length+ys.length<=1000):c8 (.tuple xs) (.tuple ys)=some (.fz (.tuple (xs++ys))):=by
 cases xs with
 |nil=>rfl
 |cons x r=>show(if x::r≠[]/\(x::r).length+ys.length<=1000000 then some (RV.fz (.tuple (x::r++ys))) else none)=_;rw[if_pos ⟨MQ x r,by omega⟩]
theorem DU (xs:List D) (p:Nat):i6 (.tuple xs) none (some (p:Int))=some (.fz (.tuple (xs.take p))):=by show some (RV.fz (.tuple (eX xs none (some (p:Int)))))=_;unfold eX;rw[HT.sIx_none,Rv,HT.sIx_nat,TL];congr 3;rw[List.take_eq_take_iff];omega
theorem xQ (xs:List D) (p:Nat):i6 (.tuple xs) (some (p:Int)) none=some (.fz (.tuple (xs.drop p))):=by
 show some (RV.fz (.tuple (eX xs (some (p:Int)) none)))=_;unfold eX;rw[HT.sIx_none,HT.sIx_nat];congr 3;by_cases h:p<=xs.length
 ·rw[Nv h,JG (by rw[HY];exact Ho _)]
 ·rw[M4 (by omega),OH,Rz,List.drop_of_length_le (by omega)]
theorem iX (kvs:List (aK×SV)) (k j:aK) (x:SV):bw (eB kvs k x) j=if j=k then some x else bw kvs j:=by
 unfold eB;by_cases a:(kvs.any fun kv=>decide (kv.1=k))=true
 ·rw[if_pos a]
  obtain⟨q,hq,hk⟩:=Q4.mp a;have hk:=of_decide_eq_true hk;have key:∀l:List (aK×SV),bw (l.map fun kv=>if kv.1=k then(kv.1,x) else kv) j=if j=k then(bw l j).map (fun _=>x) else bw l j:=by
   intro l
   induction l with
   |nil=>unfold bw;simp
   |cons p r ih=>
    unfold bw at ih⊢;rw[HH,Iw,Iw];by_cases hp:p.1=k
    ·rw[if_pos hp]
     by_cases hj:p.1=j
     ·rw[decide_eq_true hj,if_pos (hj.symm.trans hp)];rfl
     ·rw[decide_eq_false hj];exact ih
    ·rw[if_neg hp]
     by_cases hj:p.1=j
     ·rw[decide_eq_true hj,if_neg (fun z=>hp (hj.trans z))]
     ·rw[decide_eq_false hj];exact ih
  rw[key];by_cases hj:j=k
  ·rw[if_pos hj,if_pos hj]
   have:∃y,bw kvs j=some y:=by
    unfold bw;rw[hj];cases h:kvs.find? fun kv=>decide (kv.1=k) with
    |none=>exact absurd (Qg.mp h q hq) (by rw[decide_eq_true hk];simp)
    |some p=>exact⟨_,rfl⟩
   obtain⟨y,hy⟩:=this;rw[hy];rfl
  ·rw[if_neg hj,if_neg hj]
 ·rw[if_neg a]
  have hn:∀q∈kvs,¬q.1=k:=fun q hq z=>a (Q4.mpr ⟨q,hq,decide_eq_true z⟩);unfold bw;rw[List.find?_append];by_cases hj:j=k
  ·rw[if_pos hj,Qg.mpr fun q hq=>by rw[hj];simp[hn q hq],Option.none_or,Iw,decide_eq_true (show k=j from hj.symm)];rfl
  ·rw[if_neg hj,Iw,decide_eq_false (show¬k=j from fun z=>hj z.symm),List.find?_nil,Option.or_none]
theorem tM (kvs:List (aK×SV)) (k:aK) (x:SV):(eB kvs k x).length<=kvs.length+1:=by
 unfold eB;split
 ·rw[Hk];omega
 ·rw[Hn];exact Ho _
noncomputable def sD (ss:List (List Int)):D:= .tuple (ss.map kD)
noncomputable def tD (w:List Nat):D:= .str (tx w)
theorem rj:∀a b:List (List Int),Hr.eqvAll (a.map kD) (b.map kD)=decide (a=b)
 |[],[]=>rfl
 |[],_::_=>rfl
 |_::_,[]=>rfl
 |x::r,y::t=>by
  show(Hr.eqvAll (x.map Hr.int) (y.map Hr.int)&&Hr.eqvAll (r.map kD) (t.map kD))=_;rw[Fs,rj r t];by_cases h1:x=y
  ·by_cases h2:r=t
   ·rw[decide_eq_true h1,decide_eq_true h2,decide_eq_true (by rw[h1,h2])];rfl
   ·rw[decide_eq_false h2,decide_eq_false (fun z=>h2 (M3 z).2),Ru]
  ·rw[decide_eq_false h1,decide_eq_false (fun z=>h1 (M3 z).1)];rfl
theorem BT (a b:List (List Int)):(xt (sD a)&&(sD b).canLay0)=true:=by show((Hr.canLayAll0 (a.map kD)&&decide (Hr.depthAll (a.map kD)+1<=64))&&Hr.canLayAll0 (b.map kD))=true;have:=wX a;rw[sk,sk,decide_eq_true (by omega)];rfl
theorem xx (a b:List (List Int)):j7 (sD a) (sD b)=some (.fz (.bool (decide (a=b)))):=by unfold j7;rw[if_pos (BT a b),show Hr.eqv (sD a) (sD b)=_ from rj a b]
theorem sQ (a b:List (List Int)):re (sD a) (sD b)=some (.fz (.bool (!decide (a=b)))):=by unfold re;rw[if_pos (BT a b),show Hr.eqv (sD a) (sD b)=_ from rj a b]
theorem ii (a:List (List Int)):dR [sD a]=some (.fz (nd a.length)):=by show some (RV.fz (.int ((a.map kD).length:Int)))=_;rw[Hk]
theorem GG {α:Type} (xs:List α) (p q:Nat) (h:p<=q):(xs.drop (min p xs.length)).take (min q xs.length - min p xs.length)=(xs.drop p).take (q - p):=by
 by_cases h1:p<xs.length
 ·rw[Nv (JV h1)]
  by_cases h2:q<=xs.length
  ·rw[Nv h2]
  ·rw[M4 (by omega),JG (l:=xs.drop p) (by rw[HY];omega),JG (by rw[HY];omega)]
 ·rw[M4 (a:=p) (by omega),JF (Ho _),JF (by omega),Sb,Sb]
theorem Cf (a:List (List Int)) (p q:Nat) (h:p<=q):i6 (sD a) (some (p:Int)) (some (q:Int))=some (.fz (sD ((a.drop p).take (q - p)))):=by show some (RV.fz (.tuple (eX (a.map kD) (some (p:Int)) (some (q:Int)))))=_;unfold eX;rw[HT.sIx_nat,HT.sIx_nat,GG _ _ _ h,<-Lb,<-La];rfl
noncomputable def cO:List Wd->List Nat->Option (List (List Int))
 |[],_=>none
 |e::r,w=>if e.1=w then some e.2 else cO r w
theorem jD (e:Wd) (r:List Wd) (w:List Nat):cO (e::r) w=if e.1=w then some e.2 else cO r w:=rfl
noncomputable def wr (B:List Wd) (ws:List (List Nat)):List (List Int):=(ws.map fun w=>(cO B w).getD []).flatten
theorem dB:∀{B:List Wd} {w:List Nat} {s:List (List Int)},cO B w=some s->(w,s)∈B
 |e::r,w,s,h=>by
  unfold cO at h;by_cases q:e.1=w
  ·rw[if_pos q] at h;cases h;rw[<-q];exact Ik
  ·rw[if_neg q] at h;exact Ic _ (dB h)
theorem ox:∀{B:List Wd} {e:Wd},(B.map (·.1)).Nodup->e∈B->cO B e.1=some e.2
 |a::r,e,hn,h=>by
  rw[HH,Jv] at hn;unfold cO;rcases Ie.mp h with h|h
  ·subst h;rw[if_pos rfl]
  ·rw[if_neg (fun z=>hn.1 (by rw[z];exact IL.mpr ⟨e,h,rfl⟩))];exact ox hn.2 h
theorem gY:∀{B:List Wd} {w:List Nat},w∉B.map (·.1)->cO B w=none
 |[],_,_=>rfl
 |a::r,w,h=>by rw[HH,Ie,not_or] at h;unfold cO;rw[if_neg (fun z=>h.1 z.symm)];exact gY h.2
theorem i4 {B:List Wd} {w:List Nat} (h:w∈B.map (·.1)):∃s,cO B w=some s:=by
 cases q:cO B w with
 |some s=>exact⟨s,rfl⟩
 |none=>
  exfalso;revert h q
  induction B with
  |nil=>intro h;simp at h
  |cons a r ih=>
   intro h q;unfold cO at q;by_cases z:a.1=w
   ·rw[if_pos z] at q;cases q
   ·rw[if_neg z] at q;rw[HH,Ie] at h;exact ih (h.resolve_left fun y=>z y.symm) q
theorem CH (B:List Wd):wr B []=[]:=rfl
theorem ku (B:List Wd) (ws:List (List Nat)) (w:List Nat):wr B (ws++[w])=wr B ws++(cO B w).getD []:=by unfold wr;rw[HV,Px,List.map_singleton,List.flatten_singleton]
theorem iH (B:List Wd) (ws:List (List Nat)) (w:List Nat):wr B (w::ws)=(cO B w).getD []++wr B ws:=rfl
def uy (B:List Wd) (ws:List (List Nat)):Prop:=∀w∈ws,w∈B.map (·.1)
structure BB (B:List Wd):Prop where
 RT:B.length<=20
 nd:(B.map (·.1)).Nodup
 s1:∀e∈B,1<=e.2.length
 s6:∀e∈B,e.2.length<=6
 wc:∀e∈B,∀c∈e.1,c<1114112
theorem Bk.bb {B:List Wd} (h:Bk B):BB B:=⟨h.RT,h.nd,fun e he=>(h.ge e he).s1,fun e he=>(h.ge e he).s6,fun e he c hc=>by have:=(h.ge e he).wd c hc;omega⟩
theorem BB.rev {B:List Wd} (h:BB B):BB B.reverse:=⟨by rw[IC];exact h.RT,by rw[Kw];exact(List.pairwise_reverse.mpr (h.nd.imp fun z y=>z y.symm)),fun e he=>h.s1 e (Kx.mp he),fun e he=>h.s6 e (Kx.mp he),fun e he=>h.wc e (Kx.mp he)⟩
theorem jH {B:List Wd} (h:BB B):∀ws:List (List Nat),(wr B ws).length<=6*ws.length
 |[]=>Jq _
 |w::r=>by
  rw[iH,Hn,HP];have ih:=jH h r;cases q:cO B w with
  |none=>show 0+_<=_;omega
  |some s=>have:s.length<=6:=h.s6 _ (dB q);show s.length+_<=_;omega
noncomputable def BJ (B:List Wd):List (aK×SV):=B.map fun e=>(.inr (tx e.1),.fz (sD e.2))
theorem kP (B:List Wd):lU (.fz (aG B))=some (BJ B):=by
 show a6 lQ (B.map wD)=some (BJ B)
 induction B with
 |nil=>rfl
 |cons e r ih=>rw[HH];unfold a6;rw[ih];rfl
theorem kZ (B:List Wd) (hn:(B.map (·.1)).Nodup) (w:List Nat):bw (cB [] (BJ B)) (.inr (tx w))=(cO B w).map fun s=>SV.fz (sD s):=by
 have key:∀(B:List Wd) (acc:List (aK×SV)),(B.map (·.1)).Nodup->bw (cB acc (BJ B)) (.inr (tx w))=match cO B w with
   |some s=>some (.fz (sD s))
   |none=>bw acc (.inr (tx w)):=by
  intro B
  induction B with
  |nil=>intro acc _;rfl
  |cons e r ih=>
   intro acc hn;rw[HH,Jv] at hn;show bw (cB (eB acc (.inr (tx e.1)) (.fz (sD e.2))) (BJ r)) (.inr (tx w))=_;rw[ih _ hn.2,jD];by_cases q:e.1=w
   ·subst q;rw[if_pos rfl,gY hn.1];dsimp only;rw[iX,if_pos rfl]
   ·rw[if_neg q]
    cases cO r w with
    |some s=>rfl
    |none=>dsimp only;rw[iX,if_neg (fun z=>q (yP (Sum.inr.inj z)).symm)]
 rw[key B [] hn];cases cO B w with
 |none=>rfl
 |some s=>rfl
theorem xb {c:oj} {b:ef} {N C:bp->bH->Prop} {T:SV->bH->Prop} (I:Nat->bp->bH->Prop) (hs:∀m ρ Z,I m ρ Z->(c ρ Z= .ok false Z/\N ρ Z)\/(c ρ Z= .ok true Z/\K4 (b ρ Z) (fun ρ' Z'=>∃m',m'<m/\I m' ρ' Z') (fun _ _=>False) T)):∀(n m:Nat) (ρ:bp) (Z:bH),m<n->I m ρ Z->K4 (l8 c b n ρ Z) N C T
 |0,m,_,_,h,_=>by omega
 |n+1,m,ρ,Z,h,h0=>by
  rcases hs m ρ Z h0 with⟨h1,h2⟩|⟨h1,h2⟩
  ·refine⟨?_⟩;unfold l8;rw[h1,RS.bind_ok,if_neg Hu];exact h2
  ·have h2:=h2.out
   unfold l8;refine .eq (r':=(b ρ Z).bind fun fl Z2=>match fl with
    | .nx ρ2=>l8 c b n ρ2 Z2
    | .ct ρ2=>l8 c b n ρ2 Z2
    | .bk ρ2=> .ok (.nx ρ2) Z2
    | .rt x=> .ok (.rt x) Z2) (by rw[h1,RS.bind_ok,if_pos rfl]<;>rfl) ?_
   cases q:b ρ Z with
   |bad=>rw[q] at h2;exact h2.elim
   |er x o=>rw[q] at h2;exact h2.elim
   |ok fl o=>
    rw[q] at h2;cases fl with
    |nx r=>obtain⟨m',hm,hI⟩:=h2;exact xb I hs n m' r o (by omega) hI
    |ct r=>exact h2.elim
    |rt v=>exact⟨h2⟩
    |bk r=>exact h2.elim
theorem i7 {ρ:bp} {Z:bH} {n:Nat} {d:D} (h:ρ[n]? =some (some (.fz d))):aA (aa n) ρ Z= .ok (.fz d) Z:=bj (ai (by unfold cA;rw[Hv,h];rfl))
theorem Bi {ρ:bp} {Z:bH} {n j i:Nat} {d:D} {k:aK} {kvs:List (aK×SV)} (neg:Bool) (h1:ρ[n]? =some (some (.fz d))) (h2:ρ[j]? =some (some (.rf i))) (hk:jS (.fz d)=some k) (hc:Z[i]? =some (.Jh kvs)):eS neg (aA (aa n)) (ci j) ρ Z= .ok (.fz (.bool ((bw kvs k).isSome !=neg))) Z:=oB (i7 h1) (dc h2) hk hc
theorem wJ {ρ:bp} {Z:bH} {n j i:Nat} {d:D} {k:aK} {kvs:List (aK×SV)} {y:SV} (h1:ρ[n]? =some (some (.fz d))) (h2:ρ[j]? =some (some (.rf i))) (hk:jS (.fz d)=some k) (hc:Z[i]? =some (.Jh kvs)) (hg:bw kvs k=some y):gm (ci j) (aA (aa n)) ρ Z= .ok y Z:=uA (dc h2) (i7 h1) hk hc hg
variable {B:List Wd}
theorem va (a b:List (List Int)) (h:a.length+b.length<=1000000):jO (sD a) (sD b)=some (.fz (sD (a++b))):=by show(if(a.map kD).length+(b.map kD).length<=1000000 then some (RV.fz (.tuple (a.map kD++b.map kD))) else none)=_;rw[Hk,Hk,if_pos h,<-HV];rfl
theorem kX (h:BB B) {ws:List (List Nat)} (hi:uy B ws) (hl:ws.length<=1000):de [aG B,.list (ws.map tD)]= .ok (.fz (sD (wr B ws))):=by
 have hg:=kZ B h.nd;generalize hM:cB [] (BJ B)=M at hg;obtain⟨Z',e,_⟩:∃Z',fK [.fz (aG B),.fz (.list (ws.map tD))] []= .ok (.fz (sD (wr B ws))) Z'/\True:=by
  refine Cw (ρ:=[some (.fz (aG B)),some (.fz (.list (ws.map tD))),none,none,none]) rfl ?_;refine eU (nI (x:= .fz (aG B)) (Z1:=[]) (bj (ai rfl)) (kP B)) rfl ?_;rw[hM];refine eU (x:= .fz (sD [])) (Z1:=[Cell.Jh M]) (bj (d:=sD []) rfl) rfl ?_;refine gK (kI (fun k ρ Z=>Z=[Cell.Jh M]/\∃x4,ρ=[some (.fz (aG B)),some (.fz (.list (ws.map tD))),some (.rf 0),some (.fz (sD (wr B (ws.take k)))),x4]) (ds:=ws.map tD) (Z1:=[Cell.Jh M]) (fm (ρ':=cA [some (.fz (aG B)),some (.fz (.list (ws.map tD))),some (.rf 0),some (.fz (sD [])),none]) rfl) ⟨rfl,none,rfl⟩ ?_ ?_)
  ·rintro k d ρ Z hk ⟨rfl,x4,rfl⟩
   rw[Hv] at hk;cases hw:ws[k]? with
   |none=>rw[hw] at hk;cases hk
   |some w=>
    rw[hw] at hk;cases hk;refine⟨_,_,rfl,?_⟩;obtain⟨s,hs⟩:=i4 (hi w (HX hw));have g1:bw M (.inr (tx w))=some (.fz (sD s)):=by rw[hg,hs];rfl
    have d1:eS true (aA (aa 4)) (ci 2) [some (.fz (aG B)),some (.fz (.list (ws.map tD))),some (.rf 0),some (.fz (sD (wr B (ws.take k)))),some (.fz (tD w))] [Cell.Jh M]= .ok (.fz (.bool false)) [Cell.Jh M]:=by rw[oB (x:= .fz (tD w)) (k:= .inr (tx w)) (i:=0) (kvs:=M) (Z1:=[Cell.Jh M]) (Z2:=[Cell.Jh M]) (bj (ai rfl)) (dc rfl) rfl rfl,g1];rfl
    refine CD (eO d1) (u5 ?_);have PU:s.length<=6:=h.s6 _ (dB hs);have QL:=jH h (ws.take k);rw[Ig] at QL;refine qX (rY (x:= .fz (sD (wr B (ws.take k)))) (y:= .fz (sD s)) (z:= .fz (sD (wr B (ws.take k)++s))) (Z3:=[]) rfl (uA (x:= .fz (tD w)) (k:= .inr (tx w)) (i:=0) (kvs:=M) (Z1:=[Cell.Jh M]) (dc rfl) (bj (ai rfl)) rfl rfl g1) (oY (va _ _ (by omega)))) ⟨rfl,some (.fz (tD w)),?_⟩;have et:ws.take (k+1)=ws.take k++[w]:=by obtain⟨LG,e2⟩:=Hm.mp hw;rw[Kk LG,e2]
    rw[et,ku,hs];rfl
  ·rintro ρ' Z' ⟨rfl,x4,rfl⟩;rw[Hk,Jy];exact kF (bj (ai rfl)) ⟨rfl,trivial⟩
 show(match fK [.fz (aG B),.fz (.list (ws.map tD))] [] with
  | .ok (.fz d) _=>Res.ok (RV.fz d)
  | .ok (.rf i) Z=>(match sh Z (.rf i) with
   |some (.list ds)=> .ok (.ow ds)
   |_=> .bad)
  | .ok (.tp l) Z=>(match a6 (FQ Z) l with
   |some ds=> .ok (.fz (.tuple ds))
   |none=> .bad)
  | .er x _=> .er x
  | .bad=> .bad)=_
 rw[e]
def Dc (B:List Wd) (l:List (List Int)):Prop:=∃ws,uy B ws/\wr B ws=l
def jI (kvs:List (aK×SV)) (q:Nat):Prop:=(bw kvs (.inl (q:Int))).isSome=true
theorem eJ {kvs:List (aK×SV)} {k q:Nat} {x:SV}:jI (eB kvs (.inl (k:Int)) x) q↔q=k\/jI kvs q:=by
 unfold jI;rw[iX];by_cases h:q=k
 ·subst h;rw[if_pos rfl];exact⟨fun _=> .inl rfl,fun _=>rfl⟩
 ·rw[if_neg (fun z=>h (by have:=Sum.inl.inj z;omega))];exact⟨fun z=> .inr z,fun z=>z.resolve_left h⟩
structure LW (B:List Wd) (ss:List (List Int)) (kvs:List (aK×SV)):Prop where
 z:jI kvs 0
 g:∀q:Nat,0<q->∀x,bw kvs (.inl (q:Int))=some x->q<=ss.length/\∃w s,x= .fz (tD w)/\cO B w=some s/\s.length<=q/\(ss.drop (q - s.length)).take s.length=s/\jI kvs (q - s.length)
theorem LW.put {ss:List (List Int)} {kvs:List (aK×SV)} (l:LW B ss kvs) {p:Nat} {w:List Nat} {s:List (List Int)} (hp:jI kvs p) (hw:cO B w=some s) (h1:1<=s.length) (hm:(ss.drop p).take s.length=s):LW B ss (eB kvs (.inl ((p+s.length:Nat):Int)) (.fz (tD w))):=by
 refine⟨eJ.mpr (.inr l.z),fun q hq x hx=> ?_⟩;rw[iX] at hx;by_cases h:q=p+s.length
 ·subst h
  rw[if_pos rfl] at hx;cases hx;have hl:s.length<=ss.length - p:=by have:=congrArg KG hm;rw[Ig,HY] at this;omega
  refine⟨by omega,w,s,rfl,hw,by omega,?_,?_⟩
  ·rw[Qt];exact hm
  ·rw[Qt];exact eJ.mpr (.inr hp)
 ·rw[if_neg (fun z=>h (by have:=Sum.inl.inj z;omega))] at hx;obtain⟨g1,w',s',g2,g3,g4,g5,g6⟩:=l.g q hq x hx;exact⟨g1,w',s',g2,g3,g4,g5,eJ.mpr (.inr g6)⟩
def On (B:List Wd) (ss:List (List Int)) (kvs:List (aK×SV)) (p:Nat):Prop:=jI kvs p->∀e∈B,(ss.drop p).take e.2.length=e.2->jI kvs (p+e.2.length)
theorem yu (a b:Nat):bE (nd a) (nd b)=some (.fz (nd (a+b))):=rfl
theorem EW (h:BB B) (ss:List (List Int)) (hl:ss.length<=1000) (Z0:bH):∃kvs,bD [.fz (aG B),.fz (sD ss)] Z0= .ok (.rf Z0.length) (Z0++[.Jh kvs])/\LW B ss kvs/\∀p,p<ss.length->On B ss kvs p:=by
 obtain⟨x,Z',e,kvs,rfl,rfl,h1,h2⟩:∃x Z',bD [.fz (aG B),.fz (sD ss)] Z0= .ok x Z'/\∃kvs,x= .rf Z0.length/\Z'=Z0++[.Jh kvs]/\LW B ss kvs/\∀p,p<ss.length->On B ss kvs p:=by
  refine n9 (n:=7) (g:=dG) (xs:=[.fz (aG B),.fz (sD ss)]) (T:=fun x Z'=>∃kvs,x= .rf Z0.length/\Z'=Z0++[.Jh kvs]/\LW B ss kvs/\∀p,p<ss.length->On B ss kvs p) (ρ:=[some (.fz (aG B)),some (.fz (sD ss)),none,none,none,none,none]) rfl ?_;refine eU (uF (ps:=[(.inl 0,.fz .none)]) (Z1:=Z0) (qH (x:= .fz (.int 0)) (y:= .fz .none) (Z1:=Z0) (Z2:=Z0) (bj rfl) rfl (bj rfl) ud) (by decide)) rfl ?_;have cell:∀kvs:List (aK×SV),(Z0++[Cell.Jh kvs])[Z0.length]? =some (.Jh kvs):=fun kvs=>db;have Xw:∀k1 k2:List (aK×SV),(Z0++[Cell.Jh k1]).set Z0.length (.Jh k2)=Z0++[.Jh k2]:=fun k1 k2=>by rw[List.set_append_right _ _ (Ho _),OH];rfl
  have it:dM cK (ac (fR dR (ac (aa 1) ah)) ah) [some (.fz (aG B)),some (.fz (sD ss)),none,none,none,none,none]= .ok (jP (HF ss.length),[some (.fz (aG B)),some (.fz (sD ss)),none,none,none,none,none]):=by have e1:=ii ss;have e2:=kf (n:=ss.length) (by omega);walk_at "ev"
  refine gK (kI (fun p ρ Z=>∃kvs o3 o4 o5 o6,Z=Z0++[.Jh kvs]/\kvs.length<=1+20*p/\LW B ss kvs/\(∀j,j<p->On B ss kvs j)/\ρ=[some (.fz (aG B)),some (.fz (sD ss)),some (.rf Z0.length),o3,o4,o5,o6]) (fm it) ⟨[(.inl 0,.fz .none)],none,none,none,none,rfl,by decide,⟨rfl,fun q hq x hx=> ?_⟩,fun j hj=>by omega,rfl⟩ ?_ ?_)
  ·have:bw [((.inl 0:aK),SV.fz .none)] (.inl (q:Int))=none:=by
    unfold bw;rw[Iw,decide_eq_false (fun z=>by have:=Sum.inl.inj z;omega)];rfl
   rw[this] at hx;cases hx
  ·rintro p d ρ Z hp ⟨kvs,o3,o4,o5,o6,rfl,hk,lw,on,rfl⟩
   obtain⟨pp,Vy,rfl⟩:=cZ hp;obtain⟨S8,rfl⟩:p<ss.length/\pp=p:=by obtain⟨h1,h2⟩:=Hm.mp Vy;rw[HC] at h1;rw[JH] at h2;exact⟨h1,h2.symm⟩
   refine⟨_,_,rfl,?_⟩;have d1:eS false (aA (aa 3)) (ci 2) [some (.fz (aG B)),some (.fz (sD ss)),some (.rf Z0.length),some (.fz (nd pp)),o4,o5,o6] (Z0++[.Jh kvs])= .ok (.fz (.bool (bw kvs (.inl (pp:Int))).isSome)) (Z0++[.Jh kvs]):=by refine(Bi false (i:=Z0.length) (kvs:=kvs) (k:= .inl (pp:Int)) (d:=nd pp) rfl rfl rfl (cell kvs)).trans ?_;rw[LP]
   refine tT (eO d1) (fun hb=> ?_) (fun hb=> ?_)
   ·have hp0:jI kvs pp:=hb
    refine kI (fun j ρ Z=>∃Lj o4 o5 o6,Z=Z0++[.Jh Lj]/\Lj.length<=kvs.length+j/\LW B ss Lj/\(∀q,jI kvs q->jI Lj q)/\(∀q,q<pp+1->jI Lj q->jI kvs q)/\(∀e∈B.take j,(ss.drop pp).take e.2.length=e.2->jI Lj (pp+e.2.length))/\ρ=[some (.fz (aG B)),some (.fz (sD ss)),some (.rf Z0.length),some (.fz (nd pp)),o4,o5,o6]) (ds:=B.map wD) (Z1:=Z0++[.Jh kvs]) (fm (ρ':=cA [some (.fz (aG B)),some (.fz (sD ss)),some (.rf Z0.length),some (.fz (nd pp)),o4,o5,o6]) rfl) ⟨kvs,o4,o5,o6,rfl,Ho _,lw,fun q z=>z,fun q _ z=>z,fun e he=>by simp at he,rfl⟩ ?_ ?_
    ·rintro j d ρ Z hj ⟨Lj,o4,o5,o6,rfl,LG,Vn,up,dn,hm,rfl⟩
     rw[Hv] at hj;cases hw:B[j]? with
     |none=>rw[hw] at hj;cases hj
     |some e=>
      rw[hw] at hj;cases hj;have he:e∈B:=HX hw;refine⟨[some (.fz (aG B)),some (.fz (sD ss)),some (.rf Z0.length),some (.fz (nd pp)),some (.fz (tD e.1)),some (.fz (sD e.2)),o6],_,rfl,?_⟩;have e1:=ii e.2;have e2:=yu pp e.2.length;refine eU (x:= .fz (nd (pp+e.2.length))) (Z1:=Z0++[.Jh Lj]) (bj (d:=nd (pp+e.2.length)) (by walk_at "evp")) rfl ?_;have e3:=Cf ss pp (pp+e.2.length) (by omega);rw[Ou] at e3;have e4:=xx ((ss.drop pp).take e.2.length) e.2;have tk:B.take (j+1)=B.take j++[e]:=by obtain⟨LG,e2⟩:=Hm.mp hw;rw[Kk LG,e2]
      refine tT (b:=decide ((ss.drop pp).take e.2.length=e.2)) (Z1:=Z0++[.Jh Lj]) (gu (by show aC _ _=_;have e3':i6 (sD ss) (some ((pp:Nat):Int)) (some ((pp+e.2.length:Nat):Int))=some (.fz (sD ((ss.drop pp).take e.2.length))):=e3;walk_at "ev")) (fun hb=> ?_) (fun hb=> ?_)
      ·have hb:=of_decide_eq_true hb
       refine qX (uz (x:= .fz (nd (pp+e.2.length))) (y:= .fz (tD e.1)) (k:= .inl ((pp+e.2.length:Nat):Int)) (i:=Z0.length) (kvs:=Lj) (Z1:=Z0++[.Jh Lj]) (Z2:=Z0++[.Jh Lj]) (bj (ai rfl)) (dc rfl) (bj (ai rfl)) rfl (cell Lj) (by have:=(Hm.mp hw).1;have:=h.RT;omega)) ?_;refine⟨_,some (.fz (tD e.1)),some (.fz (sD e.2)),some (.fz (nd (pp+e.2.length))),Xw _ _,?_,Vn.put (up pp hp0) (ox h.nd he) (h.s1 e he) hb,fun q z=>eJ.mpr (.inr (up q z)),fun q hq z=> ?_,fun f hf Ow=> ?_,rfl⟩
       ·have:=tM Lj (.inl ((pp+e.2.length:Nat):Int)) (.fz (tD e.1));omega
       ·have h1:=h.s1 e he
        rcases eJ.mp z with z|z
        ·omega
        ·exact dn q hq z
       ·rw[tk] at hf
        rcases Ih.mp hf with hf|hf
        ·exact eJ.mpr (.inr (hm f hf Ow))
        ·rw[HZ.mp hf];exact eJ.mpr (.inl rfl)
      ·have hb:=of_decide_eq_false hb
       refine iS ⟨Lj,some (.fz (tD e.1)),some (.fz (sD e.2)),some (.fz (nd (pp+e.2.length))),rfl,by omega,Vn,up,dn,fun f hf Ow=> ?_,rfl⟩;rw[tk] at hf;rcases Ih.mp hf with hf|hf
       ·exact hm f hf Ow
       ·rw[HZ.mp hf] at Ow;exact absurd Ow hb
    ·rintro ρ' Z' ⟨Lj,o4,o5,o6,rfl,LG,Vn,up,dn,hm,rfl⟩
     rw[Hk] at LG hm;rw[Jy] at hm;have hB:=h.RT;refine⟨Lj,_,o4,o5,o6,rfl,by omega,Vn,fun j hj Oz e he Ow=> ?_,rfl⟩;by_cases q:j=pp
     ·subst q;exact hm e he Ow
     ·exact up _ (on j (by omega) (dn j (by omega) Oz) e he Ow)
   ·refine iS ⟨kvs,_,o4,o5,o6,rfl,by omega,lw,fun j hj Oz e he Ow=> ?_,rfl⟩
    by_cases q:j=pp
    ·subst q;have:(bw kvs (.inl (j:Int))).isSome=true:=Oz;rw[hb] at this;cases this
    ·exact on j (by omega) Oz e he Ow
  ·rintro ρ' Z' ⟨kvs,o3,o4,o5,o6,rfl,hk,lw,on,rfl⟩;rw[dj,HC] at on;exact kF (dc rfl) ⟨kvs,rfl,rfl,lw,on⟩
 exact⟨kvs,e,h1,h2⟩
theorem gO {α:Type} {l:List α} {k:Nat} {a:α} (h:l[k]? =some a):l.take (k+1)=l.take k++[a]:=by obtain⟨hk,e⟩:=Hm.mp h;rw[Kk hk,e]
theorem Dx (B:List Wd) (a b:List (List Nat)):wr B (a++b)=wr B a++wr B b:=by unfold wr;rw[HV,Px]
theorem D2 {ss:List (List Int)} {kvs:List (aK×SV)} (h:BB B) (lw:LW B ss kvs) (on:∀p,p<ss.length->On B ss kvs p) (c:Dc B ss):jI kvs ss.length:=by
 obtain⟨ws,hi,hw⟩:=c;have key:∀k,k<=ws.length->jI kvs (wr B (ws.take k)).length:=by
  intro k
  induction k with
  |zero=>intro _;exact lw.z
  |succ k ih=>
   intro hk;have Sf:k<ws.length:=hk;have gw:ws[k]? =some ws[k]:=HD Sf;obtain⟨s,hs⟩:=i4 (hi _ (HX gw));have e1:=gO gw;have e2:ws=ws.take k++(ws[k]::ws.drop (k+1)):=by rw[<-Ju Sf,LF]
   have e3:ss=wr B (ws.take k)++(s++wr B (ws.drop (k+1))):=by
    rw[<-hw]
    conv=>lhs;rw[e2]
    rw[Dx,iH,hs];rfl
   have mem:=dB hs;have h1:1<=s.length:=h.s1 _ mem;have hl:(wr B (ws.take k)).length+s.length<=ss.length:=by rw[e3,Hn,Hn];omega
   have:=on (wr B (ws.take k)).length (by omega) (ih (by omega)) _ mem (by show(ss.drop _).take s.length=s;rw[e3,RA,List.take_left]);rw[e1,ku,hs,Hn];exact this
 have:=key ws.length (Ho _);rw[Jy,hw] at this;exact this
theorem Gz {F:pc} {ds es:List D} {i:Nat} {Z:bH} (e:F (ds.map .fz) []= .ok (.rf i) Z) (h:Z[i]? =some (.lst (es.map .fz))):w9 F ds= .ok (.ow es):=by unfold w9;rw[e];dsimp only;rw[CQ h]
theorem EC {F:pc} {ds:List D} {d:D} {Z:bH} (e:F (ds.map .fz) []= .ok (.fz d) Z):w9 F ds= .ok (.fz d):=by unfold w9;rw[e]
theorem ub (h:BB B) (ss:List (List Int)) (hl:ss.length<=1000):(aQ [aG B,sD ss]= .ok (.fz .none)/\¬Dc B ss)\/∃ws,uy B ws/\ws.length<=ss.length/\wr B ws=ss/\aQ [aG B,sD ss]= .ok (.ow (ws.map tD)):=by
 have hg:=kZ B h.nd;generalize hM:cB [] (BJ B)=M at hg;obtain⟨kvs,el,lw,on⟩:=EW h ss hl [Cell.Jh M];have key:∃x Z',cb [.fz (aG B),.fz (sD ss)] []= .ok x Z'/\((x= .fz .none/\¬jI kvs ss.length)\/∃i ws,x= .rf i/\uy B ws/\ws.length<=ss.length/\wr B ws=ss/\Z'[i]? =some (.lst ((ws.map tD).map .fz))):=by
  refine n9 (n:=7) (g:=dI) (xs:=[.fz (aG B),.fz (sD ss)]) (T:=fun x Z'=>(x= .fz .none/\¬jI kvs ss.length)\/∃i ws,x= .rf i/\uy B ws/\ws.length<=ss.length/\wr B ws=ss/\Z'[i]? =some (.lst ((ws.map tD).map .fz))) (ρ:=[some (.fz (aG B)),some (.fz (sD ss)),none,none,none,none,none]) rfl ?_;refine eU (nI (x:= .fz (aG B)) (Z1:=[]) (i7 rfl) (kP B)) rfl ?_;rw[hM];have cl:ur bD 2 (jN (aA (aa 0)) (jN (aA (aa 1)) xM)) [some (.fz (aG B)),some (.fz (sD ss)),some (.rf 0),none,none,none,none] [Cell.Jh M]= .ok (.rf 1) [Cell.Jh M,Cell.Jh kvs]:=by unfold ur;rw[km (x:= .fz (aG B)) (xs:=[.fz (sD ss)]) (Z1:=[Cell.Jh M]) (Z2:=[Cell.Jh M]) (i7 rfl) (km (x:= .fz (sD ss)) (xs:=[]) (Z1:=[Cell.Jh M]) (Z2:=[Cell.Jh M]) (i7 rfl) rB),RS.bind_ok,if_pos (show[SV.fz (aG B),SV.fz (sD ss)].length=2 from rfl),el];rfl
  refine eU cl rfl ?_;have e1:=ii ss;refine eU (x:= .fz (nd ss.length)) (Z1:=[Cell.Jh M,Cell.Jh kvs]) (bj (d:=nd ss.length) (by walk_at "evp")) rfl ?_;have d1:eS true (aA (aa 4)) (ci 3) [some (.fz (aG B)),some (.fz (sD ss)),some (.rf 0),some (.rf 1),some (.fz (nd ss.length)),none,none] [Cell.Jh M,Cell.Jh kvs]= .ok (.fz (.bool ((bw kvs (.inl (ss.length:Int))).isSome !=true))) [Cell.Jh M,Cell.Jh kvs]:=Bi true (d:=nd ss.length) (k:= .inl (ss.length:Int)) rfl rfl rfl rfl;refine B5 (eO d1) (fun hb=> ?_) (fun hb=> ?_)
  ·refine C7 (bj rfl) (.inl ⟨rfl,fun z=> ?_⟩);have z:(bw kvs (.inl (ss.length:Int))).isSome=true:=z;rw[z] at hb;cases hb
  ·have hh:jI kvs ss.length:=by
    show(bw kvs (.inl (ss.length:Int))).isSome=true;cases q:(bw kvs (.inl (ss.length:Int))).isSome with
    |true=>rfl
    |false=>rw[q] at hb;cases hb
   refine u5 ?_;refine eU (wI (ds:=[]) (f:=cH ah) rfl) rfl ?_;refine gK ?_;refine xb (fun m ρ Z=>∃acc x6,ρ=[some (.fz (aG B)),some (.fz (sD ss)),some (.rf 0),some (.rf 1),some (.fz (nd m)),some (.rf 2),x6]/\Z=[Cell.Jh M,Cell.Jh kvs,Cell.lst ((acc.map tD).map .fz)]/\jI kvs m/\m<=ss.length/\uy B acc/\acc.length<=ss.length - m/\wr B acc.reverse=ss.drop m) ?_ 1000000 ss.length _ _ (by omega) ⟨[],none,rfl,rfl,hh,Ho _,fun w hw=>(by cases hw),by simp,by simp[CH]⟩;rintro m ρ Z ⟨acc,x6,rfl,rfl,hm,hml,hi,hal,hw⟩;have g0:CN (nd m) (.int 0)=some (.fz (.bool (decide ((0:Int)<m)))):=rfl;by_cases h0:m=0
   ·subst h0;refine .inl ⟨gu (by walk_at "ev"),?_⟩;refine kF (A7 (i:=2) (xs:=(acc.map tD).map .fz) (Z1:=[Cell.Jh M,Cell.Jh kvs,Cell.lst ((acc.map tD).map .fz)]) (dc rfl) rfl) (.inr ⟨3,acc.reverse,rfl,fun w hw=>hi w (Kx.mp hw),by rw[IC];omega,hw,?_⟩);show some (Cell.lst ((acc.map tD).map SV.fz).reverse)=_;rw[Kw,Kw]
   ·have dt:decide ((0:Int)<m)=true:=decide_eq_true (by omega)
    rw[dt] at g0;refine .inr ⟨gu (by walk_at "ev"),?_⟩;cases hx:bw kvs (.inl (m:Int)) with
    |none=>unfold jI at hm;rw[hx] at hm;cases hm
    |some x=>
     obtain⟨_,w,s,rfl,hs,PU,Ow,hp⟩:=lw.g m (by omega) x hx;refine eU (wJ (d:=nd m) (k:= .inl (m:Int)) (kvs:=kvs) (i:=1) (y:= .fz (tD w)) rfl rfl rfl rfl hx) rfl ?_;refine Bh (C8 (xs:=(acc.map tD).map .fz) (ys:=(acc.map tD).map .fz) (x:= .fz (tD w)) (i:=2) (Z2:=[Cell.Jh M,Cell.Jh kvs,Cell.lst ((acc.map tD).map .fz)]) (dc rfl) rfl (i7 rfl) rfl (by rw[Hk,Hk];omega)) ?_;have gw:bw M (.inr (tx w))=some (.fz (sD s)):=by rw[hg,hs];rfl
     have e2:=ii s;have e3:lf (nd m) (nd s.length)=some (.fz (nd (m - s.length))):=by show some (RV.fz (.int ((m:Int) - (s.length:Int))))=some (RV.fz (.int ((m - s.length:Nat):Int)));rw[show((m - s.length:Nat):Int)=(m:Int) - (s.length:Int) by omega]
     have mem:=dB hs;have h1:1<=s.length:=h.s1 _ mem;refine qX (rY (x:= .fz (nd m)) (y:= .fz (nd s.length)) (z:= .fz (nd (m - s.length))) (Z3:=[]) rfl (EV (xs:=[.fz (sD s)]) (ds:=[sD s]) (km (wJ (d:=tD w) (k:= .inr (tx w)) (kvs:=M) (i:=0) (y:= .fz (sD s)) rfl rfl rfl rfl gw) rB) rfl e2) (oY e3)) ⟨m - s.length,by omega,acc++[w],some (.fz (tD w)),rfl,?_,hp,by omega,fun v hv=> ?_,?_,?_⟩
     ·rw[HV,HV];rfl
     ·rcases Ih.mp hv with hv|hv
      ·exact hi v hv
      ·rw[HZ.mp hv];exact IL.mpr ⟨_,mem,rfl⟩
     ·rw[Hn,IE];omega
     ·rw[List.reverse_append,List.reverse_singleton,List.singleton_append,iH,hs,hw];show s++ss.drop m=ss.drop (m - s.length);have:=LF s.length (ss.drop (m - s.length));rw[Ow,RB,show m - s.length+s.length=m by omega] at this;exact this
 obtain⟨x,Z',e,(⟨rfl,nh⟩|⟨i,ws,rfl,hi,QL,hw,gi⟩)⟩:=key
 ·exact .inl ⟨EC (F:=cb) (ds:=[aG B,sD ss]) e,fun c=>nh (D2 h lw on c)⟩
 ·exact .inr ⟨ws,hi,QL,hw,Gz (F:=cb) (ds:=[aG B,sD ss]) e gi⟩
theorem An {k q:Nat} {x:SV}:jI [((.inl (k:Int):aK),x)] q↔q=k:=by
 unfold jI bw;rw[Iw];by_cases h:q=k
 ·subst h;rw[decide_eq_true rfl];exact⟨fun _=>rfl,fun _=>rfl⟩
 ·rw[decide_eq_false (fun z=>h (by have:=Sum.inl.inj z;omega))];exact⟨fun z=>(by cases z),fun z=>absurd z h⟩
theorem Di (h:BB B) (ss:List (List Int)) (hl:ss.length<=1000):∃b,ej [aG B,sD ss]= .ok (.fz (.bool b))/\(b=true->Dc B ss):=by
 obtain⟨x,Z',e,b,rfl,hb⟩:∃x Z',eR [.fz (aG B),.fz (sD ss)] []= .ok x Z'/\∃b,x= .fz (.bool b)/\(b=true->Dc B ss):=by
  refine n9 (n:=6) (g:=gJ) (xs:=[.fz (aG B),.fz (sD ss)]) (T:=fun x Z'=>∃b,x= .fz (.bool b)/\(b=true->Dc B ss)) (ρ:=[some (.fz (aG B)),some (.fz (sD ss)),none,none,none,none]) rfl ?_;have e1:=ii ss;refine eU (uF (ps:=[(.inl (ss.length:Int),.fz (.bool true))]) (Z1:=[]) (qH (x:= .fz (nd ss.length)) (y:= .fz (.bool true)) (Z1:=[]) (Z2:=[]) (bj (by walk_at "evp")) rfl (bj rfl) ud) (HQ rfl)) rfl ?_;have it:dM xJ (ac (am lf (fR dR (ac (aa 1) ah)) (pC (.int 1))) (ac (o9 jt (pC (.int 1))) (ac (o9 jt (pC (.int 1))) ah))) [some (.fz (aG B)),some (.fz (sD ss)),none,none,none,none]= .ok (cR ((ss.length:Int) - 1) ss.length,[some (.fz (aG B)),some (.fz (sD ss)),none,none,none,none]):=by
   have e2:lf (nd ss.length) (.int 1)=some (.fz (.int ((ss.length:Int) - 1))):=rfl;have e3:jt (.int 1)=some (.fz (.int (-1))):=rfl;have e4:xJ [.int ((ss.length:Int) - 1),.int (-1),.int (-1)]=some (cR ((ss.length:Int) - 1) ss.length):=by show(if cI ((ss.length:Int) - 1)/\cI (-1) then some (cR ((ss.length:Int) - 1) ((ss.length:Int) - 1 - -1).toNat) else none)=_;rw[if_pos (by unfold cI;omega),show((ss.length:Int) - 1 - -1).toNat=ss.length by omega]
   walk_at "ev"
  refine gK (kI (fun i ρ Z=>∃kvs o3 o4 o5,Z=[Cell.Jh kvs]/\kvs.length<=1+20*i/\(∀q,jI kvs q->q<=ss.length/\Dc B (ss.drop q))/\ρ=[some (.fz (aG B)),some (.fz (sD ss)),some (.rf 0),o3,o4,o5]) (fm it) ⟨_,none,none,none,rfl,Ho _,fun q hq=> ?_,rfl⟩ ?_ ?_)
  ·have:=An.mp hq;subst this;exact⟨Ho _,[],fun w hw=>(by cases hw),by rw[List.drop_length];rfl⟩
  ·rintro i d ρ Z hi ⟨kvs,o3,o4,o5,rfl,hk,hc,rfl⟩
   unfold cR at hi;rw[Hv] at hi;obtain⟨SM,rfl⟩:i<ss.length/\d=nd (ss.length - 1 - i):=by
    by_cases q:i<ss.length
    ·rw[Ma q] at hi;have hi:some (Hr.int ((ss.length:Int) - 1 - i))=some d:=hi;cases hi;refine⟨q,?_⟩;show Hr.int _=Hr.int _;rw[show((ss.length:Int) - 1 - i)=((ss.length - 1 - i:Nat):Int) by omega]
    ·rw[Kr (by rw[HC];omega)] at hi;cases hi
   generalize ha:ss.length - 1 - i=a;refine⟨[some (.fz (aG B)),some (.fz (sD ss)),some (.rf 0),some (.fz (nd a)),o4,o5],_,rfl,?_⟩;refine kI (fun j ρ Z=>∃Lj o4 o5,Z=[Cell.Jh Lj]/\Lj.length<=kvs.length+j/\(∀q,jI Lj q->q<=ss.length/\Dc B (ss.drop q))/\ρ=[some (.fz (aG B)),some (.fz (sD ss)),some (.rf 0),some (.fz (nd a)),o4,o5]) (ds:=B.map wD) (Z1:=[Cell.Jh kvs]) (fm (ρ':=cA [some (.fz (aG B)),some (.fz (sD ss)),some (.rf 0),some (.fz (nd a)),o4,o5]) rfl) ⟨kvs,o4,o5,rfl,Ho _,hc,rfl⟩ ?_ ?_
   ·rintro j d ρ Z hj ⟨Lj,o4,o5,rfl,LG,OJ,rfl⟩
    rw[Hv] at hj;cases hw:B[j]? with
    |none=>rw[hw] at hj;cases hj
    |some e=>
     rw[hw] at hj;cases hj;have he:e∈B:=HX hw;have Yn:=(Hm.mp hw).1;have hB:=h.RT;refine⟨[some (.fz (aG B)),some (.fz (sD ss)),some (.rf 0),some (.fz (nd a)),some (.fz (tD e.1)),some (.fz (sD e.2))],_,rfl,?_⟩;have e1:=ii e.2;have e2:=yu a e.2.length;have d1:eS false (aA (am bE (aa 3) (fR dR (ac (aa 5) ah)))) (ci 2) [some (.fz (aG B)),some (.fz (sD ss)),some (.rf 0),some (.fz (nd a)),some (.fz (tD e.1)),some (.fz (sD e.2))] [Cell.Jh Lj]= .ok (.fz (.bool ((bw Lj (.inl ((a+e.2.length:Nat):Int))).isSome !=false))) [Cell.Jh Lj]:=oB (x:= .fz (nd (a+e.2.length))) (i:=0) (kvs:=Lj) (Z1:=[Cell.Jh Lj]) (bj (by walk_at "evp")) (dc rfl) rfl rfl;rw[LP] at d1;cases hb:(bw Lj (.inl ((a+e.2.length:Nat):Int))).isSome with
     |false=>rw[hb] at d1;exact DG (vZ (eO d1)) (iS ⟨Lj,some (.fz (tD e.1)),some (.fz (sD e.2)),rfl,by omega,OJ,rfl⟩)
     |true=>
      rw[hb] at d1;have hh:jI Lj (a+e.2.length):=hb;have e3:i6 (sD ss) (some ((a:Nat):Int)) (some ((a+e.2.length:Nat):Int))=some (.fz (sD ((ss.drop a).take e.2.length))):=by have:=Cf ss a (a+e.2.length) (by omega);rw[Ou] at this;exact this
      have e4:=xx ((ss.drop a).take e.2.length) e.2;refine tT (b:=decide ((ss.drop a).take e.2.length=e.2)) (Z1:=[Cell.Jh Lj]) (vB (eO d1) (gu (by walk_at "ev"))) (fun hb=> ?_) (fun hb=> ?_)
      ·have hb:=of_decide_eq_true hb
       refine qX (uz (x:= .fz (nd a)) (y:= .fz (.bool true)) (k:= .inl (a:Int)) (i:=0) (kvs:=Lj) (Z1:=[Cell.Jh Lj]) (Z2:=[Cell.Jh Lj]) (bj rfl) (dc rfl) (i7 rfl) rfl rfl (by omega)) ⟨_,some (.fz (tD e.1)),some (.fz (sD e.2)),rfl,?_,fun q hq=> ?_,rfl⟩
       ·have:=tM Lj (.inl (a:Int)) (.fz (.bool true));omega
       ·rcases eJ.mp hq with hq|hq
        ·subst hq
         obtain⟨_,ws,hi,hws⟩:=OJ _ hh;refine⟨by omega,e.1::ws,fun w hw=> ?_,?_⟩
         ·rcases Ie.mp hw with hw|hw
          ·rw[hw];exact IL.mpr ⟨e,he,rfl⟩
          ·exact hi w hw
         ·rw[iH,ox h.nd he,hws];show e.2++ss.drop (q+e.2.length)=ss.drop q;have:=LF e.2.length (ss.drop q);rw[hb,RB] at this;exact this
        ·exact OJ q hq
      ·exact iS ⟨Lj,some (.fz (tD e.1)),some (.fz (sD e.2)),rfl,by omega,OJ,rfl⟩
   ·rintro ρ' Z' ⟨Lj,o4,o5,rfl,LG,OJ,rfl⟩;rw[Hk] at LG;have hB:=h.RT;exact⟨Lj,_,o4,o5,rfl,by omega,OJ,rfl⟩
  ·rintro ρ' Z' ⟨kvs,o3,o4,o5,rfl,hk,hc,rfl⟩;have d1:eS false (aA (pC (.int 0))) (ci 2) [some (.fz (aG B)),some (.fz (sD ss)),some (.rf 0),o3,o4,o5] [Cell.Jh kvs]= .ok (.fz (.bool ((bw kvs (.inl ((0:Nat):Int))).isSome !=false))) [Cell.Jh kvs]:=oB (x:= .fz (.int 0)) (i:=0) (kvs:=kvs) (Z1:=[Cell.Jh kvs]) (bj rfl) (dc rfl) rfl rfl;rw[LP] at d1;exact kF d1 ⟨_,rfl,fun z=>(hc 0 z).2⟩
 exact⟨b,EC (F:=eR) (ds:=[aG B,sD ss]) e,hb⟩
theorem wR {a b:List Nat} (ha:∀c∈a,c<1114112) (hb:∀c∈b,c<1114112):j7 (tD a) (tD b)=some (.fz (.bool (decide (a=b)))):=by
 have hc:(xt (tD a)&&(tD b).canLay0)=true:=by show((Hr.strOk (tx a)&&decide (0<=64))&&Hr.strOk (tx b))=true;rw[qO ha,qO hb];rfl
 unfold j7;rw[if_pos hc,show Hr.eqv (tD a) (tD b)=_ from um a b]
theorem BB.nm (h:BB B):∀l∈B.map (·.1),∀c∈l,c<1114112:=fun l hl=>by obtain⟨e,he,rfl⟩:=IL.mp hl;exact h.wc e he
theorem i8 (a b:List (List Int)) (h:a.length+b.length<=1000):c8 (sD a) (sD b)=some (.fz (sD (a++b))):=by have:=Ct (a.map kD) (b.map kD) (by rw[Hk,Hk];exact h);rw[<-HV] at this;exact this
theorem dX (h:BB B) {ws:List (List Nat)} (hi:uy B ws) (hl:ws.length<=100):aO [aG B,.list (ws.map tD)]= .ok (.fz (sD (wr B ws))):=by
 unfold aO;refine gv (ρ:=[some (.fz (aG B)),some (.fz (.list (ws.map tD))),none,none,none,none]) rfl ?_;unfold dU;refine aH (pv:= .fz (sD [])) (ρ3:=[some (.fz (aG B)),some (.fz (.list (ws.map tD))),some (.fz (sD [])),none,none,none]) rfl rfl rfl ?_;refine cX (fun k ρ=>∃t3 t4 t5,ρ=[some (.fz (aG B)),some (.fz (.list (ws.map tD))),some (.fz (sD (wr B (ws.take k)))),t3,t4,t5]) (ds:=ws.map tD) (ρ1:=[some (.fz (aG B)),some (.fz (.list (ws.map tD))),some (.fz (sD [])),none,none,none]) rfl ⟨none,none,none,rfl⟩ ?_ ?_
 ·rintro k d ρ hk ⟨t3,t4,t5,rfl⟩
  rw[Hv] at hk;cases hw:ws[k]? with
  |none=>rw[hw] at hk;cases hk
  |some w=>
   rw[hw] at hk;cases hk;have X5:=(Hm.mp hw).1;have win:=hi w (HX hw);have Wu:=jH h (ws.take k);rw[Ig] at Wu;refine⟨[some (.fz (aG B)),some (.fz (.list (ws.map tD))),some (.fz (sD (wr B (ws.take k)))),some (.fz (tD w)),t4,t5],rfl,?_⟩;refine xU (fun j ρ=>∃t4 t5,ρ=[some (.fz (aG B)),some (.fz (.list (ws.map tD))),some (.fz (sD (wr B (ws.take k)++(cO (B.take j) w).getD []))),some (.fz (tD w)),t4,t5]) (ds:=B.map wD) (ρ1:=[some (.fz (aG B)),some (.fz (.list (ws.map tD))),some (.fz (sD (wr B (ws.take k)))),some (.fz (tD w)),t4,t5]) rfl ⟨t4,t5,by rw[Rz];show _=[_,_,some (PV.fz (sD (wr B (ws.take k)++[]))),_,_,_];rw[Iv]⟩ ?_ ?_
   ·rintro j d ρ hj ⟨t4,t5,rfl⟩
    rw[Hv] at hj;cases he:B[j]? with
    |none=>rw[he] at hj;cases hj
    |some e=>
     rw[he] at hj;cases hj;have em:e∈B:=HX he;refine⟨[some (.fz (aG B)),some (.fz (.list (ws.map tD))),some (.fz (sD (wr B (ws.take k)++(cO (B.take j) w).getD []))),some (.fz (tD w)),some (.fz (tD e.1)),some (.fz (sD e.2))],rfl,?_⟩;have e1:=wR (h.wc e em) (h.nm w win);have tk:B.take (j+1)=B.take j++[e]:=gO he;have lk:∀(A:List Wd),cO (A++[e]) w=match cO A w with|some s=>some s|none=>if e.1=w then some e.2 else none:=by
      intro A
      induction A with
      |nil=>rfl
      |cons a r ih=>
       rw[MP,jD,jD];by_cases q:a.1=w
       ·rw[if_pos q,if_pos q]
       ·rw[if_neg q,if_neg q,ih]
     refine pO (b:=decide (e.1=w)) (by walk_at "ev") (fun hb=> ?_) (fun hb=> ?_)
     ·have hb:=of_decide_eq_true hb
      have hn:cO (B.take j) w=none:=by refine gY fun z=> ?_;obtain⟨f,hf,q⟩:=IL.mp z;obtain⟨i,hi2,rfl⟩:=Pf.mp hf;rw[Ig] at hi2;rw[List.getElem_take] at q;obtain⟨Oz,e2⟩:=Hm.mp he;have:=List.pairwise_iff_getElem.mp h.nd i j (by rw[Hk];omega) (by rw[Hk];exact Oz) (by omega);rw[MO,MO,e2] at this;exact this (q.trans hb.symm)
      have s6:=h.s6 e em;have e2:=i8 (wr B (ws.take k)) e.2 (by omega);refine rz (pv:= .fz (sD (wr B (ws.take k)++e.2))) (ρ3:=[some (.fz (aG B)),some (.fz (.list (ws.map tD))),some (.fz (sD (wr B (ws.take k)++e.2))),some (.fz (tD w)),some (.fz (tD e.1)),some (.fz (sD e.2))]) (by rw[hn];show am c8 (aa 2) (aa 5) [some (.fz (aG B)),some (.fz (.list (ws.map tD))),some (.fz (sD (wr B (ws.take k)++[]))),some (.fz (tD w)),some (.fz (tD e.1)),some (.fz (sD e.2))]=_;rw[Iv];walk_at "evp") rfl rfl ⟨some (.fz (tD e.1)),some (.fz (sD e.2)),?_⟩;rw[tk,lk,hn,if_pos hb];rfl
     ·have hb:=of_decide_eq_false hb
      refine iK ⟨some (.fz (tD e.1)),some (.fz (sD e.2)),?_⟩;have:cO (B.take (j+1)) w=cO (B.take j) w:=by
       rw[tk,lk];cases cO (B.take j) w with
       |some s=>rfl
       |none=>exact if_neg hb
      rw[this]
   ·rintro ρ' ⟨t4,t5,rfl⟩;rw[Hk,Jy];exact⟨_,t4,t5,by rw[gO hw,ku]⟩
 ·rintro ρ' ⟨t3,t4,t5,rfl⟩;rw[Hk,Jy];exact ce (ai rfl) rfl rfl
theorem rL (h:BB B):ik (cD (gT 2 (rh (gN 0) (rh (gN 1) Ad))) cF (aa 0) (B.map wD) [none,none] [])= .ok ((B.map (·.1)).map fun l=>Hr.str (tx l)):=by have:=h.RT;rw[Ln];refine nu (fun ρ=>∃o p,ρ=[o,p]) B (by omega) ⟨none,none,rfl⟩ ?_;rintro e _ ρ ⟨o,p,rfl⟩;exact⟨_,Cq rfl rfl (ai rfl) rfl rfl,_,_,rfl⟩
theorem Ck (h:BB B) {ws:List (List Nat)} (hi:uy B ws) (hl:ws.length<=1000):dg [.list (ws.map tD),aG B]= .ok (.fz (.bool true)):=by
 unfold dg;refine gv (ρ:=[some (.fz (.list (ws.map tD))),some (.fz (aG B))]) rfl ?_;unfold iu;have cm:ik (cD (gN 0) cF (p0 (iB "str" (aa 0)) (am wC (aa 0) (eC 2 [] (gf (aa 1)) (gT 2 (rh (gN 0) (rh (gN 1) Ad))) cF (aa 0)))) (ws.map tD) [none,some (.fz (aG B))] [])= .ok (ws.map fun _=>Hr.bool true):=by refine kx (f:=tD) (g:=fun _=>Hr.bool true) ws (by omega) rfl fun w hw=> ?_;have e1:=xO (w:=w) (L:=B.map (·.1)) (h.nm w (hi w hw)) h.nm;rw[decide_eq_true (hi w hw)] at e1;have e2:=df (f:=wC) (fa:=aa 0) (fb:=eC 2 [] (gf (aa 1)) (gT 2 (rh (gN 0) (rh (gN 1) Ad))) cF (aa 0)) (ρ:=[some (.fz (tD w)),some (.fz (aG B))]) (dx:= .str (tx w)) (dy:= .list ((B.map (·.1)).map fun l=>Hr.str (tx l))) (ai rfl) (gX (ds:=B.map wD) rfl rfl (rL h)) rfl rfl e1;exact kj (a:=true) (b:=true) (a9 (kN (ai rfl) rfl rfl) rfl) fun _=>e2
 have i1:iB "list" (aa 0) [some (.fz (.list (ws.map tD))),some (.fz (aG B))]= .ok (.fz (.bool true),[some (.fz (.list (ws.map tD))),some (.fz (aG B))]):=kN (n:= "list") (t:= "list") (ai rfl) rfl rfl;refine dW (b:=false) (dl (a:=true) (a9 i1 rfl)) (fun q=>by cases q) (fun _=> ?_);refine bL ?_;have al:pi [.list (ws.map fun _=>Hr.bool true)]=some (.fz (.bool (ws.all fun _=>true))):=p9 (fun _=>true) ws;rw[show(ws.all fun _=>true)=true from Jc.mpr fun _ _=>rfl] at al;exact ce (pv:= .fz (.bool true)) (sf (ag (gX (ds:=ws.map tD) rfl rfl cm) aB) rfl al) rfl rfl
theorem v3 (i:Int):bZ [.int i]= .ok (.fz (.bool true)):=by unfold bZ fM;exact Da (ρ:=[some (.fz (.int i))]) rfl (by rfl)
theorem tf (ss:List (List Int)) (hk:∀ks∈ss,ks.length<=1000):bS [sD ss]= .ok (.fz (.bool true)):=by
 unfold bS;refine gv (ρ:=[some (.fz (sD ss)),none]) rfl ?_;unfold eg;have i1:iB "tuple" (aa 0) [some (.fz (sD ss)),none]= .ok (.fz (.bool true),[some (.fz (sD ss)),none]):=kN (n:= "tuple") (t:= "tuple") (ai rfl) rfl rfl;refine dW (b:=false) (dl (a:=true) (a9 i1 rfl)) (fun q=>by cases q) (fun _=> ?_);refine bL ?_;refine cX (fun _ ρ=>∃t1,ρ=[some (.fz (sD ss)),t1]) (ds:=ss.map kD) (ρ1:=[some (.fz (sD ss)),none]) rfl ⟨none,rfl⟩ ?_ ?_
 ·rintro k d ρ LG ⟨t1,rfl⟩
  rw[Hv] at LG;cases hw:ss[k]? with
  |none=>rw[hw] at LG;cases LG
  |some ks=>
   rw[hw] at LG;cases LG;have X5:=hk ks (HX hw);refine⟨[some (.fz (sD ss)),some (.fz (kD ks))],rfl,?_⟩
   have cm:ik (cD (gN 0) cF (aZ bZ 1 (ac (aa 0) ah)) (ks.map Hr.int) [none] [])= .ok (ks.map fun _=>Hr.bool true):=
    kx (f:=Hr.int) (g:=fun _=>Hr.bool true) ks (by omega) rfl fun i _=>fJ (ag (ai rfl) aB) rfl rfl (v3 i)
   have al:pi [.list (ks.map fun _=>Hr.bool true)]=some (.fz (.bool (ks.all fun _=>true))):=p9 (fun _=>true) ks;rw[show(ks.all fun _=>true)=true from Jc.mpr fun _ _=>rfl] at al;have e2:fR pi (ac (eC 1 [] (gf (aa 1)) (gN 0) cF (aZ bZ 1 (ac (aa 0) ah))) ah) [some (.fz (sD ss)),some (.fz (kD ks))]= .ok (.fz (.bool true),[some (.fz (sD ss)),some (.fz (kD ks))]):=sf (ag (gX (ds:=ks.map Hr.int) rfl rfl cm) aB) rfl al;have e3:iB "tuple" (aa 1) [some (.fz (sD ss)),some (.fz (kD ks))]= .ok (.fz (.bool true),[some (.fz (sD ss)),some (.fz (kD ks))]):=kN (n:= "tuple") (t:= "tuple") (ai rfl) rfl rfl;exact pO (b:=false) (sx (a:=false) (b:=false) (dl (a:=true) (a9 e3 rfl)) fun _=>dl (a:=true) (a9 e2 rfl)) (fun q=>by cases q) fun _=>iK ⟨_,rfl⟩
 ·rintro ρ' ⟨t1,rfl⟩;exact ce (pv:= .fz (.bool true)) rfl rfl rfl
theorem xY (h:BB B) {ws:List (List Nat)} (hi:uy B ws):ws.length<=(wr B ws).length:=by
 induction ws with
 |nil=>exact Ho _
 |cons w r ih=>obtain⟨s,hs⟩:=i4 (hi w Ik);have:=h.s1 _ (dB hs);have ih:=ih fun v hv=>hi v (Ic _ hv);rw[iH,hs,Hn,HP];show _<=s.length+_;have:1<=s.length:=this;omega
theorem zd:∀ks:List Int,pG (ks.map Hr.int)=true
 |[]=>rfl
 |_::r=>by show(true&&pG (r.map Hr.int))=true;rw[zd r];rfl
theorem uY:∀ss:List (List Int),pG (ss.map kD)=true
 |[]=>rfl
 |ks::r=>by show(pG (ks.map Hr.int)&&pG (r.map kD))=true;rw[zd,uY r];rfl
theorem DH (ss:List (List Int)):C0 (sD ss)=true:=uY ss
theorem kL (h:BB B) (h1:1<=B.length) (ss:List (List Int)) (hl:ss.length<=100):bv [aG B,sD ss]= .ok (.fz (.bool true)):=by
 unfold bv;refine gv (ρ:=[some (.fz (aG B)),some (.fz (sD ss)),none,none]) rfl ?_;unfold gL;have rg:cK [.int 2]=some (jP (HF 2)):=kf (n:=2) (by decide);rcases ub h ss (by omega) with⟨er,nc⟩|⟨ws,hi,QL,hw,er⟩
 ·obtain⟨b,ec,hb⟩:=Di h ss (by omega)
  obtain rfl:b=false:=by cases b with|false=>rfl|true=>exact absurd (hb rfl) nc
  have nn:wb .none .none=some (.fz (.bool true)):=rfl;refine cX (fun i ρ=>i=0/\ρ=[some (.fz (aG B)),some (.fz (sD ss)),none,none]) (ds:=jP (HF 2)) (ρ1:=[some (.fz (aG B)),some (.fz (sD ss)),none,none]) (by walk_at "ev") ⟨rfl,rfl⟩ ?_ ?_
  ·rintro i d ρ hd ⟨rfl,rfl⟩;refine⟨[some (.fz (aG B)),some (.fz (sD ss)),some (.fz d),none],rfl,?_⟩;refine aH (pv:= .fz .none) (ρ3:=[some (.fz (aG B)),some (.fz (sD ss)),some (.fz d),some (.fz .none)]) (a8 (rv:= .fz .none) (by walk_at "ev") rfl rfl er) rfl rfl ?_;refine dW (b:=true) (by walk_at "ev") (fun _=> ?_) (fun q=>by cases q);refine lO (pv:= .fz (.bool true)) (ρ1:=[some (.fz (aG B)),some (.fz (sD ss)),some (.fz d),some (.fz .none)]) ?_ rfl rfl;have c1:aZ ej 2 (ac (aa 0) (ac (aa 1) ah)) [some (.fz (aG B)),some (.fz (sD ss)),some (.fz d),some (.fz .none)]= .ok (.fz (.bool false),[some (.fz (aG B)),some (.fz (sD ss)),some (.fz d),some (.fz .none)]):=fJ (by walk_at "ev") rfl rfl ec;have c2:aZ aQ 2 (ac (aa 0) (ac (aa 1) ah)) [some (.fz (aG B)),some (.fz (sD ss)),some (.fz d),some (.fz .none)]= .ok (.fz .none,[some (.fz (aG B)),some (.fz (sD ss)),some (.fz d),some (.fz .none)]):=a8 (rv:= .fz .none) (by walk_at "ev") rfl rfl er;exact kj (a:=true) (b:=true) (a9 (tW (a:=false) (a9 c1 rfl)) rfl) fun _=>df c2 cj rfl rfl nn
  ·rintro ρ' ⟨q,_⟩;cases q
 ·have wl:=xY h hi
  rw[hw] at wl;have e1:=dX h hi (by omega);have e2:=Ck h hi (by omega);have ne:=sQ ss ss;rw[decide_eq_true rfl] at ne;rw[hw] at e1;obtain⟨e0,r0,rfl⟩:∃e0 r0,B=e0::r0:=by
   cases B with
   |nil=>exact absurd h1 (by decide)
   |cons a r=>exact⟨a,r,rfl⟩
  have i1:cN (aG (e0::r0)) (.int 0)=some (.fz (wD e0)):=xy;have i2:cN (wD e0) (.int 0)=some (.fz (tD e0.1)):=xy;have nl:wb (.list (ws.map tD)) .none=some (.fz (.bool false)):=rfl;refine cX (fun i ρ=>∃t2 t3,ρ=[some (.fz (aG (e0::r0))),some (.fz (sD ss)),t2,t3]) (ds:=jP (HF 2)) (ρ1:=[some (.fz (aG (e0::r0))),some (.fz (sD ss)),none,none]) (by walk_at "ev") ⟨none,none,rfl⟩ ?_ ?_
  ·rintro i d ρ hd ⟨t2,t3,rfl⟩;refine⟨[some (.fz (aG (e0::r0))),some (.fz (sD ss)),some (.fz d),t3],rfl,?_⟩;refine aH (pv:= .ow (ws.map tD)) (ρ3:=[some (.fz (aG (e0::r0))),some (.fz (sD ss)),some (.fz d),some (.ow (ws.map tD))]) (a8 (rv:= .ow (ws.map tD)) (by walk_at "ev") rfl rfl er) rfl rfl ?_;refine dW (b:=false) (by walk_at "ev") (fun q=>by cases q) (fun _=>bL ?_);have c1:kW dg 2 (ac (aa 3) (ac (aa 0) ah)) [some (.fz (aG (e0::r0))),some (.fz (sD ss)),some (.fz d),some (.ow (ws.map tD))]= .ok (.fz (.bool true),[some (.fz (aG (e0::r0))),some (.fz (sD ss)),some (.fz d),some (.ow (ws.map tD))]):=uU (ag (cu rfl) (ag (ai rfl) aB)) rfl rfl e2 rfl;have c2:kW aO 2 (ac (aa 0) (ac (aa 3) ah)) [some (.fz (aG (e0::r0))),some (.fz (sD ss)),some (.fz d),some (.ow (ws.map tD))]= .ok (.fz (sD ss),[some (.fz (aG (e0::r0))),some (.fz (sD ss)),some (.fz d),some (.ow (ws.map tD))]):=uU (ag (ai rfl) (ag (cu rfl) aB)) rfl rfl e1 (DH ss);refine dW (b:=false) (sx (a:=false) (b:=false) (dl (a:=true) (a9 c1 rfl)) fun _=>a9 (df c2 (ai rfl) rfl rfl ne) rfl) (fun q=>by cases q) (fun _=>bL ?_);exact fV (iq (d:=tD e0.1) (x:=[some (.fz (aG (e0::r0))),some (.fz (sD ss)),some (.fz d),some (.ow (ws.map tD++[tD e0.1]))]) rfl (a5 (rv:= .fz (tD e0.1)) (a5 (rv:= .fz (wD e0)) (ai rfl) cj rfl rfl i1) cj rfl rfl i2) rfl rfl (by rw[Hk];omega) rfl) ⟨_,_,rfl⟩
  ·rintro ρ' ⟨t2,t3,rfl⟩;exact ce (pv:= .fz (.bool true)) rfl rfl rfl
theorem Ai {f g:ef} {ρ:bp} {Z Z1:bH} {x:Xc} (h:f ρ Z= .er x Z1):bC f g ρ Z= .er x Z1:=by unfold bC;rw[h];rfl
theorem rS (h:BB B) {a b:List (List Nat)} {y:List Nat} (hi:uy B a) (hy:y∉B.map (·.1)) (hl:a.length<=1000) (ho:BP (tx y)=true):cL [aG B,.list ((a++y::b).map tD)]= .er ⟨"NoWord",[("word",tD y)]⟩:=by
 have hg:=kZ B h.nd;generalize hM:cB [] (BJ B)=M at hg;have gy:bw M (.inr (tx y))=none:=by rw[hg,gY hy];rfl
 generalize hW:SV.fz (.list ((a++y::b).map tD))=W;have lp:∀(k:Nat) (x4:Option SV),k<=a.length->∃Z',hX (jh 4) (bC (fu (gb (eS true (aA (aa 4)) (ci 2))) (fL "NoWord" "word" (aA (aa 4))) fC) (l0 3 jO (gm (ci 2) (aA (aa 4))))) (((a++y::b).drop k).map tD) [some (.fz (aG B)),some W,some (.rf 0),some (.fz (sD (wr B (a.take k)))),x4] [Cell.Jh M]= .er ⟨"NoWord",[("word",tD y)]⟩ Z':=by
  intro k;generalize hm:a.length - k=m
  induction m generalizing k with
  |zero=>
   intro x4 hk;have:k=a.length:=by omega
   subst this;rw[RA,HH];unfold hX;have d1:eS true (aA (aa 4)) (ci 2) [some (.fz (aG B)),some W,some (.rf 0),some (.fz (sD (wr B (a.take a.length)))),some (.fz (tD y))] [Cell.Jh M]= .ok (.fz (.bool true)) [Cell.Jh M]:=by refine(Bi true (i:=0) (kvs:=M) (k:= .inr (tx y)) (d:=tD y) rfl rfl rfl rfl).trans ?_;rw[gy];rfl
   refine⟨[Cell.Jh M],?_⟩;have g1:jh 4 (.fz (tD y)) [some (.fz (aG B)),some W,some (.rf 0),some (.fz (sD (wr B (a.take a.length)))),x4] [Cell.Jh M]= .ok [some (.fz (aG B)),some W,some (.rf 0),some (.fz (sD (wr B (a.take a.length)))),some (.fz (tD y))] [Cell.Jh M]:=rfl;have r1:fL "NoWord" "word" (aA (aa 4)) [some (.fz (aG B)),some W,some (.rf 0),some (.fz (sD (wr B (a.take a.length)))),some (.fz (tD y))] [Cell.Jh M]= .er ⟨"NoWord",[("word",tD y)]⟩ [Cell.Jh M]:=by unfold fL;rw[i7 (d:=tD y) rfl,RS.bind_ok];show(if BP (tx y)=true then _ else _)=_;rw[if_pos ho];rfl
   rw[g1,RS.bind_ok];unfold bC fu;rw[eO d1,RS.bind_ok,if_pos rfl,r1];rfl
  |succ m ih=>
   intro x4 hk;have Sf:k<a.length:=by omega
   have gw:a[k]? =some a[k]:=HD Sf;have dr:(a++y::b).drop k=a[k]::(a++y::b).drop (k+1):=by rw[Ju (by rw[Hn];omega),List.getElem_append_left Sf]
   obtain⟨s,hs⟩:=i4 (hi _ (HX gw));generalize a[k]=w at gw dr hs;have gs:bw M (.inr (tx w))=some (.fz (sD s)):=by rw[hg,hs];rfl
   have d1:eS true (aA (aa 4)) (ci 2) [some (.fz (aG B)),some W,some (.rf 0),some (.fz (sD (wr B (a.take k)))),some (.fz (tD w))] [Cell.Jh M]= .ok (.fz (.bool false)) [Cell.Jh M]:=by refine(Bi true (i:=0) (kvs:=M) (k:= .inr (tx w)) (d:=tD w) rfl rfl rfl rfl).trans ?_;rw[gs];rfl
   have PU:s.length<=6:=h.s6 _ (dB hs);have QL:=jH h (a.take k);rw[Ig] at QL;have st:bC (fu (gb (eS true (aA (aa 4)) (ci 2))) (fL "NoWord" "word" (aA (aa 4))) fC) (l0 3 jO (gm (ci 2) (aA (aa 4)))) [some (.fz (aG B)),some W,some (.rf 0),some (.fz (sD (wr B (a.take k)))),some (.fz (tD w))] [Cell.Jh M]= .ok (.nx [some (.fz (aG B)),some W,some (.rf 0),some (.fz (sD (wr B (a.take k)++s))),some (.fz (tD w))]) [Cell.Jh M]:=by refine rD (yH (eO d1) Aq) ?_;exact rY (x:= .fz (sD (wr B (a.take k)))) (y:= .fz (sD s)) (z:= .fz (sD (wr B (a.take k)++s))) (Z3:=[]) rfl (wJ (d:=tD w) (k:= .inr (tx w)) (kvs:=M) (i:=0) rfl rfl rfl rfl gs) (oY (va _ _ (by omega)))
   obtain⟨Z',e⟩:=ih (k+1) (by omega) (some (.fz (tD w))) (by omega);have tk:=gO gw;rw[tk,ku,hs] at e;refine⟨Z',?_⟩;rw[dr,HH];unfold hX;have g1:jh 4 (.fz (tD w)) [some (.fz (aG B)),some W,some (.rf 0),some (.fz (sD (wr B (a.take k)))),x4] [Cell.Jh M]= .ok [some (.fz (aG B)),some W,some (.rf 0),some (.fz (sD (wr B (a.take k)))),some (.fz (tD w))] [Cell.Jh M]:=rfl;rw[g1,RS.bind_ok,st,RS.bind_ok];exact e
 obtain⟨Z',e⟩:=lp 0 none (Jq _);have run:gz [.fz (aG B),W] []= .er ⟨"NoWord",[("word",tD y)]⟩ Z':=by
  show((eK [some (.fz (aG B)),some W,none,none,none] []).bind _)=_;have s1:fA (lK (aA (aa 0))) (jh 2) [some (.fz (aG B)),some W,none,none,none] []= .ok (.nx [some (.fz (aG B)),some W,some (.rf 0),none,none]) [Cell.Jh M]:=by rw[<-hM];exact yU (nI (x:= .fz (aG B)) (Z1:=[]) (i7 rfl) (kP B)) rfl
  have s2:fA (aA (ck ah)) (jh 3) [some (.fz (aG B)),some W,some (.rf 0),none,none] [Cell.Jh M]= .ok (.nx [some (.fz (aG B)),some W,some (.rf 0),some (.fz (sD [])),none]) [Cell.Jh M]:=yU (bj (d:=sD []) rfl) rfl;have s3:kR (gA (gf (aa 1))) (jh 4) (bC (fu (gb (eS true (aA (aa 4)) (ci 2))) (fL "NoWord" "word" (aA (aa 4))) fC) (l0 3 jO (gm (ci 2) (aA (aa 4))))) [some (.fz (aG B)),some W,some (.rf 0),some (.fz (sD [])),none] [Cell.Jh M]= .er ⟨"NoWord",[("word",tD y)]⟩ Z':=by unfold kR;rw[fm (ds:=(a++y::b).map tD) (ρ':=cA [some (.fz (aG B)),some W,some (.rf 0),some (.fz (sD [])),none]) (by rw[<-hW];rfl),RS.bind_ok];exact e
  have s4:eK [some (.fz (aG B)),some W,none,none,none] []= .er ⟨"NoWord",[("word",tD y)]⟩ Z':=by exact rD s1 (rD s2 (Ai s3))
  rw[s4];rfl
 subst hW;unfold cL w9;rw[show([aG B,.list ((a++y::b).map tD)]:List D).map SV.fz=[.fz (aG B),.fz (.list ((a++y::b).map tD))] from rfl,run]
theorem tH (h:BB B) {a b:List (List Nat)} {y:List Nat} (hi:uy B a) (hb:uy B b) (hy:y∉B.map (·.1)) (hl:a.length<=1000) (ho:BP (tx y)=true) (hc:∀c∈y,c<1114112):aV [aG B,.list ((a++y::b).map tD)]= .ok (.fz (tD y)):=by
 have e:=rS (b:=b) h hi hy hl ho;have i1:=xO (w:=y) (L:=a++y::b) hc (fun l ZC=>by
  rcases Ih.mp ZC with z|z
  ·exact h.nm l (hi l z)
  ·rcases Ie.mp z with z|z
   ·rw[z];exact hc
   ·exact h.nm l (hb l z))
 rw[decide_eq_true (Ih.mpr (.inr Ik))] at i1;have i1:wC (.str (tx y)) (.list ((a++y::b).map tD))=some (.fz (.bool true)):=i1;unfold aV;dsimp only;rw[e];dsimp only;rw[if_pos rfl];show(match[("word",Hr.str (tx y))] with
   |[(f,.str y)]=>if f= "word" then(match wC (.str y) (.list ((a++_::b).map tD)) with
    |some (.fz (.bool true))=>Res.ok (RV.fz (.str y))
    |_=> .bad) else .bad
   |_=> .bad)=_
 dsimp only;rw[if_pos rfl,i1];rfl
theorem yI {f g:FT} {ρ ρ1 ρ2:aw} {b:Bool} (ha:f ρ= .ok (false,ρ1)) (hb:g ρ1= .ok (b,ρ2)):l7 f g ρ= .ok (b,ρ2):=by unfold l7;rw[ha,Res.bind_ok];exact hb
theorem Bk.i0 {B:List Wd} (h:Bk B):∃e r,B=e::r/\GE e:=by
 cases B with
 |nil=>exact absurd h.l1 (by decide)
 |cons a r=>exact⟨a,r,rfl,h.ge a Ik⟩
theorem EY {B:List Wd} {i:Int} (h0:0<=i) (h:i.toNat<B.length):cN (aG B) (.int i)=some (.fz (wD B[i.toNat])):=Gg h0 (by rw[Hv,HD h];rfl)
theorem Ez (e:Wd):cN (wD e) (.int 0)=some (.fz (tD e.1)):=xy
theorem zh {B:List Wd} (h:Bk B) (ns:List Int) (cs:List Int) (hc:cs.length<=16):∃ws,uy B ws/\ws.length<=16/\ik (cD (gN 0) cF (am cN (am cN (aa 1) (am aM (aa 0) (fR dR (ac (aa 1) ah)))) (pC (.int 0))) (cs.map Hr.int) [none,some (.fz (aG B))] [])= .ok (ws.map tD):=by
 have l1:=h.l1;have hi:∀c:Int,(c % (B.length:Int)).toNat<B.length:=fun c=>by have:=HB c (show(0:Int)<(B.length:Int) by omega);have:=Hz c (show(B.length:Int)≠0 by omega);omega
 refine⟨cs.map fun c=>(B[(c % (B.length:Int)).toNat]'(hi c)).1,fun w hw=> ?_,by rw[Hk];exact hc,?_⟩
 ·obtain⟨c,_,rfl⟩:=IL.mp hw;exact IL.mpr ⟨_,JU _,rfl⟩
 ·rw[Ln];refine kx (f:=Hr.int) (g:=fun c=>tD (B[(c % (B.length:Int)).toNat]'(hi c)).1) cs (by omega) rfl fun c _=> ?_;have e1:=GP B;have e2:aM (.int c) (.int (B.length:Int))=some (.fz (.int (c % (B.length:Int)))):=a4 (by omega);have e3:=EY (B:=B) (i:=c % (B.length:Int)) (Hz c (by omega)) (hi c);have e4:=Ez (B[(c % (B.length:Int)).toNat]'(hi c));exact a5 (rv:= .fz (tD (B[(c % (B.length:Int)).toNat]'(hi c)).1)) (a5 (rv:= .fz (wD (B[(c % (B.length:Int)).toNat]'(hi c)))) (ai rfl) (a5 (rv:= .fz (.int (c % (B.length:Int)))) (ai rfl) (eN (rv:= .fz (.int (B.length:Int))) (ag (ai rfl) aB) rfl e1) rfl rfl e2) rfl rfl e3) cj rfl rfl e4
theorem xi (ns:List Int) (a b:Nat):(kH ns (some (a:Int)) (some (b:Int))).length<=b - a:=by unfold kH;rw[HT.sIx_nat,HT.sIx_nat,Ig,HY];omega
theorem uj {ws:List (List Nat)} (h:∀l∈ws,∀c∈l,c<1114112):re (.list (ws.map tD)) (.list (ws.map tD))=some (.fz (.bool false)):=by
 have l:=ko h;have dp:∀ws:List (List Nat),Hr.depthAll (ws.map tD)=0:=fun ws=>by
  induction ws with
  |nil=>rfl
  |cons a r ih=>show max 0 (Hr.depthAll (r.map tD))=0;rw[ih];rfl
 have hc:(xt (.list (ws.map tD))&&Hr.canLay0 (.list (ws.map tD)))=true:=by show((Hr.canLayAll0 (ws.map tD)&&decide (Hr.depthAll (ws.map tD)+1<=64))&&Hr.canLayAll0 (ws.map tD))=true;rw[dp,show Hr.canLayAll0 (ws.map tD)=true from l];rfl
 unfold re;rw[if_pos hc,show Hr.eqv (.list (ws.map tD)) (.list (ws.map tD))=true from SeqAt.eqvAll_refl _ l];rfl
theorem Cr (B:List Wd):L9.xg (aG B)=some (.fz (aG B.reverse)):=by show some (RV.fz (.tuple (B.map wD).reverse))=_;rw[<-Kw];rfl
theorem Dg (a:List (List Int)) (p:Nat):i6 (sD a) none (some (p:Int))=some (.fz (sD (a.take p))):=by have:=DU (a.map kD) p;rw[<-La] at this;exact this
theorem pq (a:List (List Int)) (p:Nat):i6 (sD a) (some (p:Int)) none=some (.fz (sD (a.drop p))):=by have:=xQ (a.map kD) p;rw[<-Lb] at this;exact this
theorem si {B:List Wd} (h:Bk B) {e:Wd} (he:GE e) (i:Int) (h0:0<=i) (h3:i<3) {LD:D} {s2 s3 s4 s5 s6 s7 s8 s9 s10:Option PV} {E:aw} (hE:E=[some (.fz LD),some (.fz (aG B)),s2,s3,s4,s5,s6,s7,s8,s9,s10]) (hB:∃r,B=e::r):∃y:List Nat,y∉B.map (·.1)/\y.length<=400/\(∀c∈y,c<1114112)/\∃ds,cH (ac (am g8 (am cN (am cN (aa 1) (pC (.int 0))) (pC (.int 0))) (pC (.str "qqqqqqqq"))) (ac (pC (.str "")) (ac (am g8 (iJ ip (am cN (am cN (aa 1) (pC (.int 0))) (pC (.int 0))) cn (bh (o9 jt (pC (.int 1))))) (pC (.str "A"))) ah))) E= .ok (.ow ds,E)/\cN (.list ds) (.int i)=some (.fz (tD y)):=by
 subst hE;obtain⟨r,rfl⟩:=hB;have w8:=he.w8;have wl:∀c∈e.1,c<1114112:=fun c hc=>by have:=he.wd c hc;omega
 have i1:cN (aG (e::r)) (.int 0)=some (.fz (wD e)):=xy;have i2:=Ez e;have q8:Hr.str "qqqqqqqq"=tD [113,113,113,113,113,113,113,113]:=congrArg Hr.str (by decide+kernel);have qA:Hr.str "A"=tD [65]:=congrArg Hr.str (by decide+kernel);have a1:g8 (tD e.1) (.str "qqqqqqqq")=some (.fz (tD (e.1++[113,113,113,113,113,113,113,113]))):=by rw[q8];exact iy (by show e.1.length+8<=1000;omega)
 obtain⟨m,Wk,Ow,a2⟩:=vM (l:=e.1) (by omega) none (some (-1));have a3:g8 (tD m) (.str "A")=some (.fz (tD (m++[65]))):=by rw[qA];exact iy (by show m.length+1<=1000;omega)
 have ng:jt (.int 1)=some (.fz (.int (-1))):=rfl;have base:∀E:aw,E[1]? =some (some (.fz (aG (e::r))))->am cN (am cN (aa 1) (pC (.int 0))) (pC (.int 0)) E= .ok (.fz (tD e.1),E):=fun E hE=>a5 (rv:= .fz (tD e.1)) (a5 (rv:= .fz (wD e)) (ai hE) cj rfl rfl i1) cj rfl rfl i2
 have lst:cH (ac (am g8 (am cN (am cN (aa 1) (pC (.int 0))) (pC (.int 0))) (pC (.str "qqqqqqqq"))) (ac (pC (.str "")) (ac (am g8 (iJ ip (am cN (am cN (aa 1) (pC (.int 0))) (pC (.int 0))) cn (bh (o9 jt (pC (.int 1))))) (pC (.str "A"))) ah))) [some (.fz LD),some (.fz (aG (e::r))),s2,s3,s4,s5,s6,s7,s8,s9,s10]= .ok (.ow [tD (e.1++[113,113,113,113,113,113,113,113]),.str "",tD (m++[65])],[some (.fz LD),some (.fz (aG (e::r))),s2,s3,s4,s5,s6,s7,s8,s9,s10]):=
  nU (ds:=[tD (e.1++[113,113,113,113,113,113,113,113]),.str "",tD (m++[65])]) (ag (a5 (rv:= .fz (tD (e.1++[113,113,113,113,113,113,113,113]))) (base _ rfl) cj rfl rfl a1) (ag cj (ag (a5 (rv:= .fz (tD (m++[65]))) (mq (rv:= .fz (tD m)) (base _ rfl) gn (d7 (tS (rv:= .fz (.int (-1))) cj rfl ng) rfl) rfl a2) cj rfl rfl a3) aB))) rfl (HQ rfl)
 have no:∀y:List Nat,(∀f∈(e::r),y≠f.1)->y∉(e::r).map (·.1):=fun y hy z=>by obtain⟨f,hf,q⟩:=IL.mp z;exact hy f hf q.symm
 rcases(by omega:i=0\/i=1\/i=2) with rfl|rfl|rfl
 ·refine⟨e.1++[113,113,113,113,113,113,113,113],no _ fun f hf z=> ?_,by rw[Hn];show e.1.length+8<=400;omega,fun c hc=> ?_,_,lst,yW⟩
  ·have l:=congrArg KG z;have:=(h.ge f hf).w8;have:=he.w1;rw[Hn] at l;have l:e.1.length+8=f.1.length:=l;omega
  ·rcases Ih.mp hc with z|z
   ·exact wl c z
   ·have:c=113:=by simpa using z
    omega
 ·refine⟨[],no _ fun f hf z=> ?_,by decide,fun c hc=>(by cases hc),_,lst,?_⟩
  ·have:=(h.ge f hf).w1;rw[<-z] at this;exact absurd this (by decide)
  ·rw[uX];exact yw (by decide) rfl
 ·refine⟨m++[65],no _ fun f hf z=> ?_,by rw[Hn];show m.length+1<=400;omega,fun c hc=> ?_,_,lst,yw (by decide) rfl⟩
  ·have:=(h.ge f hf).wd 65 (by rw[<-z];simp);omega
  ·rcases Ih.mp hc with z|z
   ·exact wl c (Ow c z)
   ·have:c=65:=by simpa using z
    omega
theorem main (ns:List Int) (Oj:ns.length<=63):F_law [.list (ns.map .int)]= .ok (.fz (.bool true)):=by
 obtain⟨B,hB,e0⟩:=AX ns Oj (a:=0) (by decide);have bb:=hB.bb;have Y4:=bb.rev;have l1:=hB.l1;have Yb:i6 (.list (ns.map .int)) (some 14) (some 30)=some (.ow ((kH ns (some 14) (some 30)).map .int)):=by show some (RV.ow (eX (ns.map Hr.int) (some 14) (some 30)))=_;unfold eX kH;rw[Hk,La,Lb]
 have P1:(kH ns (some 14) (some 30)).length<=16:=xi ns 14 30;generalize kH ns (some 14) (some 30)=cs at Yb P1;obtain⟨ws,hi,QL,ecm⟩:=zh hB ns cs P1;have Me:=fun(k:Int) (h:0<=k)=>kb ns k h Oj;generalize Hr.list (ns.map Hr.int)=LD at*;have ew:=kX bb hi (by omega);have elw:=dX bb hi (by omega);have Zc:=tf (wr B ws) (fun ks hk=>by unfold wr at hk;obtain⟨l,hl,hk⟩:=List.mem_flatten.mp hk;obtain⟨w,hw,rfl⟩:=IL.mp hl;obtain⟨s,hs⟩:=i4 (hi w hw);rw[hs] at hk;have:=((hB.ge _ (dB hs)).st ks hk).2;omega);have wsl:=jH bb ws;have e00:de [aG B,.list []]= .ok (.fz (sD [])):=kX (ws:=[]) bb (fun w hw=>by cases hw) (by decide);have YZ:uy B ws.reverse:=fun w hw=>hi w (Kx.mp hw);have elr:=dX bb YZ (by rw[IC];omega);have Wu:=jH bb ws.reverse;rw[IC] at Wu;have ZJ:=kL Y4 (by rw[IC];exact l1) (wr B ws.reverse) (by omega);have er1:=kL bb l1 (wr B ws) (by omega);have n1:=sQ (wr B ws) (wr B ws);have n2:=sQ [] [];rw[decide_eq_true rfl] at n1 n2;have n3:=uj (ws:=ws) (fun l hl=>bb.nm l (hi l hl));have erE:aQ [aG B,sD []]= .ok (.ow []):=by
  rcases ub bb [] (by decide) with⟨_,nc⟩|⟨vs,hv,ZX,_,er⟩
  ·exact absurd ⟨[],fun w hw=>(by cases hw),rfl⟩ nc
  ·have:vs=[]:=List.eq_nil_of_length_eq_zero (Nat.le_zero.mp ZX);subst this;exact er
 generalize hS:wr B ws=S at*;obtain⟨c9,e9⟩:=Me 9 (by decide);obtain⟨v9,hv9,u9⟩:=jd c9 30 (by decide) (by decide);obtain⟨Xe,e10⟩:=Me 10 (by decide);obtain⟨v10,Wn,Zb⟩:=jd Xe 31 (by decide) (by decide);obtain⟨ks,_,_,eks⟩:=mI Wn false;obtain⟨Ut,e11⟩:=Me 11 (by decide);obtain⟨Sz,e12⟩:=Me 12 (by decide);refine gv (ρ:=[some (.fz LD),none,none,none,none,none,none,none,none,none,none]) rfl ?_;unfold wM;refine aH (pv:= .fz (aG B)) (ρ3:=[some (.fz LD),some (.fz (aG B)),none,none,none,none,none,none,none,none,none]) (a8 (ds:=[LD,.int 0]) (rv:= .fz (aG B)) (ag (ai rfl) (ag cj aB)) rfl rfl e0) rfl rfl ?_;refine aH (pv:= .ow (ws.map tD)) (ρ3:=[some (.fz LD),some (.fz (aG B)),some (.ow (ws.map tD)),none,none,none,none,none,none,none,none]) (gX (ds:=cs.map Hr.int) (cs:=[aG B]) (ρ1:=[some (.fz LD),some (.fz (aG B)),none,none,none,none,none,none,none,none,none]) (by have SU:iJ i6 (aa 0) (bh (pC (.int 14))) (bh (pC (.int 30))) [some (.fz LD),some (.fz (aG B)),none,none,none,none,none,none,none,none,none]= .ok (.ow (cs.map Hr.int),[some (.fz LD),some (.fz (aG B)),none,none,none,none,none,none,none,none,none]):=mq (rv:= .ow (cs.map Hr.int)) (ai rfl) (d7 cj rfl) (d7 cj rfl) rfl Yb;unfold gf;rw[SU];rfl) rfl ecm) rfl rfl ?_;refine aH (pv:= .ow (ws.map tD)) (ρ3:=[some (.fz LD),some (.fz (aG B)),some (.ow (ws.map tD)),some (.ow (ws.map tD)),none,none,none,none,none,none,none]) (eN (rv:= .ow (ws.map tD)) (ds:=[.list (ws.map tD)]) (ag (cu rfl) aB) rfl rfl) rfl rfl ?_;refine aH (pv:= .fz (sD S)) (ρ3:=[some (.fz LD),some (.fz (aG B)),some (.ow (ws.map tD)),some (.fz (.list (ws.map tD))),some (.fz (sD S)),none,none,none,none,none,none]) (a8 (ds:=[aG B,.list (ws.map tD)]) (rv:= .fz (sD S)) (ag (ai rfl) (ag (cu rfl) aB)) rfl rfl ew) rfl rfl ?_;generalize hE:([some (.fz LD),some (.fz (aG B)),some (.fz (.list (ws.map tD))),some (.fz (.list (ws.map tD))),some (.fz (sD S)),none,none,none,none,none,none]:aw)=E;have t1:l7 (gh (aC (aZ bS 1 (ac (aa 4) ah)))) (l7 (aC (am re (aa 4) (aZ aO 2 (ac (aa 1) (ac (aa 2) ah))))) (aC (am re (aZ de 2 (ac (aa 1) (ac (cH ah) ah))) (ck ah)))) [some (.fz LD),some (.fz (aG B)),some (.ow (ws.map tD)),some (.fz (.list (ws.map tD))),some (.fz (sD S)),none,none,none,none,none,none]= .ok (false,E):=by subst hE;refine yI (dl (a:=true) (a9 (fJ (ds:=[sD S]) (ag (ai rfl) aB) rfl rfl Zc) rfl)) ?_;refine yI (ρ1:=[some (.fz LD),some (.fz (aG B)),some (.fz (.list (ws.map tD))),some (.fz (.list (ws.map tD))),some (.fz (sD S)),none,none,none,none,none,none]) (a9 (df (dx:=sD S) (dy:=sD S) (ai rfl) (a8 (ds:=[aG B,.list (ws.map tD)]) (rv:= .fz (sD S)) (ag (ai rfl) (ag (cu rfl) aB)) rfl rfl elw) rfl rfl n1) rfl) ?_;exact a9 (df (dx:=sD []) (dy:=sD []) (a8 (ds:=[aG B,.list []]) (rv:= .fz (sD [])) (ag (ai rfl) (ag (pa:= .ow []) rfl aB)) rfl rfl e00) rfl rfl rfl n2) rfl
 refine dW (b:=false) t1 (fun q=>by cases q) fun _=>bL ?_;have t2:l7 (aC (am re (aa 3) (aa 2))) (gh (aC (aZ bv 2 (ac (o9 L9.xg (aa 1)) (ac (aZ aO 2 (ac (aa 1) (ac (o9 q5 (aa 2)) ah))) ah))))) E= .ok (false,E):=by
  subst hE;refine yI (a9 (df (dx:= .list (ws.map tD)) (dy:= .list (ws.map tD)) (ai rfl) (ai rfl) rfl rfl n3) rfl) ?_;have rl:q5 (.list (ws.map tD))=some (.ow (ws.reverse.map tD)):=by show some (RV.ow (ws.map tD).reverse)=_;rw[<-Kw]
  exact dl (a:=true) (a9 (fJ (ds:=[aG B.reverse,sD (wr B ws.reverse)]) (ag (tS (rv:= .fz (aG B.reverse)) (ai rfl) rfl (Cr B)) (ag (a8 (ds:=[aG B,.list (ws.reverse.map tD)]) (rv:= .fz (sD (wr B ws.reverse))) (ag (ai rfl) (ag (tS (rv:= .ow (ws.reverse.map tD)) (ai rfl) rfl rl) aB)) rfl rfl elr) aB)) rfl rfl ZJ) rfl)
 refine dW (b:=false) t2 (fun q=>by cases q) fun _=>bL ?_;subst hE;refine aH (pv:= .fz (.int v9)) (ρ3:=[some (.fz LD),some (.fz (aG B)),some (.fz (.list (ws.map tD))),some (.fz (.list (ws.map tD))),some (.fz (sD S)),some (.fz (.int v9)),none,none,none,none,none]) (a8 (ds:=[.int c9,.int 30]) (rv:= .fz (.int v9)) (ag (a8 (ds:=[LD,.int 9]) (rv:= .fz (.int c9)) (ag (ai rfl) (ag cj aB)) rfl rfl e9) (ag cj aB)) rfl rfl u9) rfl rfl ?_;have Ze:bN (.int v9) (.int 21)=some (.fz (.int (v9/21))):=bW ⟨by decide,by decide⟩;have ls:=ii S;have ad:c8 (nd S.length) (.int 1)=some (.fz (.int ((S.length:Int)+1))):=rfl;have md:aM (.int (v9/21)) (.int ((S.length:Int)+1))=some (.fz (.int (v9/21 % ((S.length:Int)+1)))):=a4 (by omega);obtain⟨at_,hat,Y5⟩:∃p:Nat,p<=S.length/\v9/21 % ((S.length:Int)+1)=(p:Int):=by have:=HB (v9/21) (show(0:Int)<(S.length:Int)+1 by omega);have:=Hz (v9/21) (show(S.length:Int)+1≠0 by omega);exact⟨(v9/21 % ((S.length:Int)+1)).toNat,by omega,by omega⟩
 rw[Y5] at md;refine aH (pv:= .fz (nd at_)) (ρ3:=[some (.fz LD),some (.fz (aG B)),some (.fz (.list (ws.map tD))),some (.fz (.list (ws.map tD))),some (.fz (sD S)),some (.fz (.int v9)),some (.fz (nd at_)),none,none,none,none]) (a5 (rv:= .fz (nd at_)) (a5 (rv:= .fz (.int (v9/21))) (ai rfl) cj rfl rfl Ze) (a5 (rv:= .fz (.int ((S.length:Int)+1))) (eN (rv:= .fz (nd S.length)) (ds:=[sD S]) (ag (ai rfl) aB) rfl ls) cj rfl rfl ad) rfl rfl md) rfl rfl ?_;refine aH (pv:= .fz (kD ks)) (ρ3:=[some (.fz LD),some (.fz (aG B)),some (.fz (.list (ws.map tD))),some (.fz (.list (ws.map tD))),some (.fz (sD S)),some (.fz (.int v9)),some (.fz (nd at_)),some (.fz (kD ks)),none,none,none]) (a8 (ds:=[.int v10,.bool false]) (rv:= .fz (kD ks)) (ag (a8 (ds:=[.int Xe,.int 31]) (rv:= .fz (.int v10)) (ag (a8 (ds:=[LD,.int 10]) (rv:= .fz (.int Xe)) (ag (ai rfl) (ag cj aB)) rfl rfl e10) (ag cj aB)) rfl rfl Zb) (ag cj aB)) rfl rfl eks) rfl rfl ?_;have a1:c8 (nd at_) (.int 1)=some (.fz (nd (at_+1))):=by show some (RV.fz (.int ((at_:Int)+1)))=_;rfl
 have s1:=Dg S at_;have s2:=pq S (at_+1);have s3:=pq S at_;have Ss:(S.take at_).length=at_:=by rw[Ig];omega
 have p1:=i8 (S.take at_) (S.drop (at_+1)) (by rw[Ss,HY];omega);have p2:=i8 (S.take at_) [ks] (by rw[Ss];show at_+1<=1000;omega);have p3:=i8 (S.take at_++[ks]) (S.drop at_) (by rw[Hn,Ss,HY];show at_+1+_<=1000;omega);have p4:=i8 (S.take at_++[ks]) (S.drop (at_+1)) (by rw[Hn,Ss,HY];show at_+1+_<=1000;omega);have m3:aM (.int v9) (.int 3)=some (.fz (.int (v9 % 3))):=a4 (by decide);have b3:0<=v9 % 3/\v9 % 3<3:=⟨Hz _ (by decide),HB _ (by decide)⟩;have m7:aM (.int v9) (.int 7)=some (.fz (.int (v9 % 7))):=a4 (by decide);obtain⟨C1,hC1,eC1⟩:∃C1,C1.length<=97/\cN (.list [sD (S.take at_++S.drop (at_+1)),sD (S.take at_++[ks]++S.drop at_),sD S]) (.int (v9 % 3))=some (.fz (sD C1)):=by
  rcases(by omega:v9 % 3=0\/v9 % 3=1\/v9 % 3=2) with q|q|q
  ·rw[q];exact⟨_,by rw[Hn,Ss,HY];omega,yW⟩
  ·rw[q];exact⟨_,by rw[Hn,Hn,Ss,HY];show at_+1+_<=97;omega,yw (by decide) rfl⟩
  ·rw[q];exact⟨_,by omega,yw (by decide) rfl⟩
 have WX:∀E:aw,E[4]? =some (some (.fz (sD S)))->E[6]? =some (some (.fz (nd at_)))->E[7]? =some (some (.fz (kD ks)))->(am c8 (iJ i6 (aa 4) cn (bh (aa 6))) (iJ i6 (aa 4) (bh (am c8 (aa 6) (pC (.int 1)))) cn) E= .ok (.fz (sD (S.take at_++S.drop (at_+1))),E)/\am c8 (am c8 (iJ i6 (aa 4) cn (bh (aa 6))) (ck (ac (aa 7) ah))) (iJ i6 (aa 4) (bh (aa 6)) cn) E= .ok (.fz (sD (S.take at_++[ks]++S.drop at_)),E))/\am c8 (am c8 (iJ i6 (aa 4) cn (bh (aa 6))) (ck (ac (aa 7) ah))) (iJ i6 (aa 4) (bh (am c8 (aa 6) (pC (.int 1)))) cn) E= .ok (.fz (sD (S.take at_++[ks]++S.drop (at_+1))),E):=fun E h4 h6 h7=>by have x1:iJ i6 (aa 4) cn (bh (aa 6)) E= .ok (.fz (sD (S.take at_)),E):=mq (rv:= .fz (sD (S.take at_))) (ai h4) gn (d7 (ai h6) rfl) rfl s1;have x2:iJ i6 (aa 4) (bh (am c8 (aa 6) (pC (.int 1)))) cn E= .ok (.fz (sD (S.drop (at_+1))),E):=mq (rv:= .fz (sD (S.drop (at_+1)))) (ai h4) (d7 (a5 (rv:= .fz (nd (at_+1))) (ai h6) cj rfl rfl a1) rfl) gn rfl s2;have x3:iJ i6 (aa 4) (bh (aa 6)) cn E= .ok (.fz (sD (S.drop at_)),E):=mq (rv:= .fz (sD (S.drop at_))) (ai h4) (d7 (ai h6) rfl) gn rfl s3;have x4:am c8 (iJ i6 (aa 4) cn (bh (aa 6))) (ck (ac (aa 7) ah)) E= .ok (.fz (sD (S.take at_++[ks])),E):=a5 (rv:= .fz (sD (S.take at_++[ks]))) (dy:=sD [ks]) x1 (om (ds:=[kD ks]) (ag (ai h7) aB) rfl (HQ rfl)) rfl rfl p2;exact⟨⟨a5 (rv:= .fz (sD (S.take at_++S.drop (at_+1)))) x1 x2 rfl rfl p1,a5 (rv:= .fz (sD (S.take at_++[ks]++S.drop at_))) x4 x3 rfl rfl p3⟩,a5 (rv:= .fz (sD (S.take at_++[ks]++S.drop (at_+1)))) x4 x2 rfl rfl p4⟩
 refine aH (pv:= .fz (sD C1)) (ρ3:=[some (.fz LD),some (.fz (aG B)),some (.fz (.list (ws.map tD))),some (.fz (.list (ws.map tD))),some (.fz (sD S)),some (.fz (.int v9)),some (.fz (nd at_)),some (.fz (kD ks)),some (.fz (sD C1)),none,none]) (a5 (rv:= .fz (sD C1)) (dx:= .list [sD (S.take at_++S.drop (at_+1)),sD (S.take at_++[ks]++S.drop at_),sD S]) (nU (ds:=[sD (S.take at_++S.drop (at_+1)),sD (S.take at_++[ks]++S.drop at_),sD S]) (ag (WX _ rfl rfl rfl).1.1 (ag (WX _ rfl rfl rfl).1.2 (ag (ai rfl) aB))) rfl (HQ rfl)) (a5 (rv:= .fz (.int (v9 % 3))) (ai rfl) cj rfl rfl m3) rfl rfl eC1) rfl rfl ?_;have rest:∀C2:List (List Int),C2.length<=97->Go (ak (ig (l7 (gh (aC (aZ bv 2 (ac (aa 1) (ac (aa 4) ah))))) (l7 (gh (aC (aZ bv 2 (ac (aa 1) (ac (aa 8) ah))))) (aC (am re (aZ aQ 2 (ac (aa 1) (ac (ck ah) ah))) (cH ah))))) (bU (pC (.bool false))) bO)
 (ak (aJ (am cN (cH (ac (am g8 (am cN (am cN (aa 1) (pC (.int 0))) (pC (.int 0))) (pC (.str "qqqqqqqq"))) (ac (pC (.str "")) (ac (am g8 (iJ ip (am cN (am cN (aa 1) (pC (.int 0))) (pC (.int 0))) cn (bh (o9 jt (pC (.int 1))))) (pC (.str "A"))) ah)))) (am aM (aZ aI 2 (ac (aa 0) (ac (pC (.int 11)) ah))) (pC (.int 3)))) (gN 9))
 (ak (aJ (fR vn (ac (aa 2) ah)) (gN 10))
 (ak (cC (wK 10 (am aM (aZ aI 2 (ac (aa 0) (ac (pC (.int 12)) ah))) (am c8 (fR dR (ac (aa 2) ah)) (pC (.int 1)))) (aa 9)))
 (bU (am j7 (aZ aV 2 (ac (aa 1) (ac (aa 10) ah))) (aa 9)))))) [some (.fz LD),some (.fz (aG B)),some (.fz (.list (ws.map tD))),some (.fz (.list (ws.map tD))),some (.fz (sD S)),some (.fz (.int v9)),some (.fz (nd at_)),some (.fz (kD ks)),some (.fz (sD C2)),none,none]) (fun _=>RV.fz .none= .fz (.bool true)) (fun _=>False) (fun r=>r= .fz (.bool true)):=fun C2 hC2=>by
  have er2:=kL bb l1 C2 (by omega);have nE:re (.list []) (.list [])=some (.fz (.bool false)):=uj (ws:=[]) (fun l hl=>by cases hl);refine dW (b:=false) (yI (dl (a:=true) (a9 (fJ (ds:=[aG B,sD S]) (ag (ai rfl) (ag (ai rfl) aB)) rfl rfl er1) rfl)) (yI (dl (a:=true) (a9 (fJ (ds:=[aG B,sD C2]) (ag (ai rfl) (ag (ai rfl) aB)) rfl rfl er2) rfl)) (a9 (df (dx:= .list []) (dy:= .list []) (a8 (ds:=[aG B,sD []]) (rv:= .ow []) (ag (ai rfl) (ag (pa:= .fz (sD [])) rfl aB)) rfl rfl erE) rfl rfl rfl nE) rfl))) (fun q=>by cases q) fun _=>bL ?_;have m11:aM (.int Ut) (.int 3)=some (.fz (.int (Ut % 3))):=a4 (by decide);obtain⟨e,r,hBe,ge⟩:=hB.i0;obtain⟨y,hy,hyl,VD,ds,el,ei⟩:=si hB ge (Ut % 3) (Hz _ (by decide)) (HB _ (by decide)) (LD:=LD) (s2:=some (.fz (.list (ws.map tD)))) (s3:=some (.fz (.list (ws.map tD)))) (s4:=some (.fz (sD S))) (s5:=some (.fz (.int v9))) (s6:=some (.fz (nd at_))) (s7:=some (.fz (kD ks))) (s8:=some (.fz (sD C2))) (s9:=none) (s10:=none) rfl ⟨r,hBe⟩;refine aH (pv:= .fz (tD y)) (ρ3:=[some (.fz LD),some (.fz (aG B)),some (.fz (.list (ws.map tD))),some (.fz (.list (ws.map tD))),some (.fz (sD S)),some (.fz (.int v9)),some (.fz (nd at_)),some (.fz (kD ks)),some (.fz (sD C2)),some (.fz (tD y)),none]) (a5 (rv:= .fz (tD y)) (dx:= .list ds) el (a5 (rv:= .fz (.int (Ut % 3))) (a8 (ds:=[LD,.int 11]) (rv:= .fz (.int Ut)) (ag (ai rfl) (ag cj aB)) rfl rfl e11) cj rfl rfl m11) rfl rfl ei) rfl rfl ?_;refine aH (pv:= .ow (ws.map tD)) (ρ3:=[some (.fz LD),some (.fz (aG B)),some (.fz (.list (ws.map tD))),some (.fz (.list (ws.map tD))),some (.fz (sD S)),some (.fz (.int v9)),some (.fz (nd at_)),some (.fz (kD ks)),some (.fz (sD C2)),some (.fz (tD y)),some (.ow (ws.map tD))]) (eN (rv:= .ow (ws.map tD)) (ds:=[.list (ws.map tD)]) (ag (ai rfl) aB) rfl rfl) rfl rfl ?_;have ln:dR [.list (ws.map tD)]=some (.fz (nd ws.length)):=by show some (RV.fz (.int ((ws.map tD).length:Int)))=_;rw[Hk]
  have ad2:c8 (nd ws.length) (.int 1)=some (.fz (.int ((ws.length:Int)+1))):=rfl;have XY:aM (.int Sz) (.int ((ws.length:Int)+1))=some (.fz (.int (Sz % ((ws.length:Int)+1)))):=a4 (by omega);obtain⟨p,hp,ep⟩:∃p:Nat,p<=ws.length/\Sz % ((ws.length:Int)+1)=(p:Int):=by have:=HB Sz (show(0:Int)<(ws.length:Int)+1 by omega);have:=Hz Sz (show(ws.length:Int)+1≠0 by omega);exact⟨(Sz % ((ws.length:Int)+1)).toNat,by omega,by omega⟩
  rw[ep] at XY;refine oX (ρ1:=[some (.fz LD),some (.fz (aG B)),some (.fz (.list (ws.map tD))),some (.fz (.list (ws.map tD))),some (.fz (sD S)),some (.fz (.int v9)),some (.fz (nd at_)),some (.fz (kD ks)),some (.fz (sD C2)),some (.fz (tD y)),some (.ow ((ws.map tD).take p++tD y::(ws.map tD).drop p))]) (Eb (n:=p) (d2:=tD y) (ds0:=ws.map tD) (ds:=ws.map tD) rfl (a5 (rv:= .fz (.int (p:Int))) (a8 (ds:=[LD,.int 12]) (rv:= .fz (.int Sz)) (ag (ai rfl) (ag cj aB)) rfl rfl e12) (a5 (rv:= .fz (.int ((ws.length:Int)+1))) (eN (rv:= .fz (nd ws.length)) (ds:=[.list (ws.map tD)]) (ag (ai rfl) aB) rfl ln) cj rfl rfl ad2) rfl rfl XY) rfl (ai rfl) rfl rfl (by rw[Hk];exact hp) (by rw[Hk];omega)) ?_;have eL:(ws.map tD).take p++tD y::(ws.map tD).drop p=(ws.take p++y::ws.drop p).map tD:=by rw[HV,HH,La,Lb]
  rw[eL];have okw:BP (tx y)=true:=by unfold BP;rw[Ip,Jc];exact⟨decide_eq_true (by rw[ij];exact hyl),fun c hc=>decide_eq_true (VD c hc)⟩
  have rf:=tH (a:=ws.take p) (b:=ws.drop p) (y:=y) bb (fun w hw=>hi w (List.mem_of_mem_take hw)) (fun w hw=>hi w (List.mem_of_mem_drop hw)) hy (by rw[Ig];omega) okw VD;have eq2:=wR (a:=y) (b:=y) VD VD;rw[decide_eq_true rfl] at eq2;exact ce (pv:= .fz (.bool true)) (df (dx:=tD y) (dy:=tD y) (a8 (ds:=[aG B,.list ((ws.take p++y::ws.drop p).map tD)]) (rv:= .fz (tD y)) (ag (ai rfl) (ag (cu rfl) aB)) rfl rfl rf) (ai rfl) rfl rfl eq2) rfl rfl
 have e73:j7 (.int (v9 % 7)) (.int 3)=some (.fz (.bool (decide (v9 % 7=3)))):=fY _ _;refine dW (b:=decide (v9 % 7=3)) (a9 (df (dx:= .int (v9 % 7)) (dy:= .int 3) (a5 (rv:= .fz (.int (v9 % 7))) (ai rfl) cj rfl rfl m7) cj rfl rfl e73) rfl) (fun _=> ?_) fun _=>bL (rest C1 hC1);exact aH (pv:= .fz (sD (S.take at_++[ks]++S.drop (at_+1)))) (ρ3:=[some (.fz LD),some (.fz (aG B)),some (.fz (.list (ws.map tD))),some (.fz (.list (ws.map tD))),some (.fz (sD S)),some (.fz (.int v9)),some (.fz (nd at_)),some (.fz (kD ks)),some (.fz (sD (S.take at_++[ks]++S.drop (at_+1)))),none,none]) (WX _ rfl rfl rfl).2 rfl rfl (rest _ (by rw[Hn,Hn,Ss,HY];show at_+1+_<=97;omega))
end K62
local macro_rules| `(tactic|walk_at "sc")=> `(tactic|exact⟨rfl,rfl,rfl,by decide+kernel,rfl,by decide+kernel,by decide+kernel⟩)
local macro_rules| `(tactic|walk_at "me")=> `(tactic|first
 |exact .head _
 |(apply List.Mem.tail;walk_at "me"))
local macro_rules| `(tactic|walk_at "cm")=> `(tactic|first
 |with_reducible exact L3.sY
 |with_reducible exact L3.DZ
 |with_reducible exact L3.yd
 |with_reducible exact L3.sW
 |with_reducible exact L3.D3
 |with_reducible exact L3.su
 |with_reducible exact L3.tK
 |with_reducible exact L3.Bc)
local macro_rules| `(tactic|walk_at "sp")=> `(tactic|first
 |walk_at "cm"
 |with_reducible exact L3.jo
 |with_reducible exact L3.gW
 |with_reducible exact L3.uN
 |with_reducible exact L3.u8
 |with_reducible exact L3.zj
 |with_reducible exact L3.gQ
 |with_reducible exact L3.nt
 |with_reducible exact L3.zQ
 |with_reducible exact L3.xu
 |with_reducible exact L3.jr
 |with_reducible exact L3.pM
 |with_reducible exact L3.zP
 |with_reducible exact L3.sB
 |with_reducible exact L3.AR
 |with_reducible exact L3.kr
 |with_reducible exact L3.AG
 |with_reducible exact L3.BQ
 |with_reducible exact L3.nb
 |with_reducible exact L9.pR
 |with_reducible exact L3.yr
 |with_reducible exact L3.u8
 |with_reducible exact L10.kA
 |with_reducible exact L10.qv)
local macro_rules| `(tactic|walk_at "eo")=> `(tactic|first
 |with_reducible exact L3.au
 |with_reducible exact L3.aR
 |(with_reducible apply L3.bT);(·walk_at "sp");(·walk_at "eo");(·walk_at "eo")
 |with_reducible exact L3.sZ
 |(with_reducible apply L3.yi);(·walk_at "ao")
 |(with_reducible apply L3.Az);(·walk_at "ao")
 |(with_reducible apply L3.jM);(·walk_at "sp");(·walk_at "ao")
 |(with_reducible apply L3.jG);(·walk_at "ao")
 |(with_reducible apply L3.jF);(·walk_at "ao")
 |(with_reducible apply L3.yq);(·walk_at "eo")
 |with_reducible exact L3.wN
 |with_reducible exact L3.pP
 |(with_reducible apply L3.xj);(·walk_at "sp");(·walk_at "eo");(·walk_at "oo");(·walk_at "oo")
 |(with_reducible apply L3.kE);(·simp);(·walk_at "eo")
 |(with_reducible apply L3.sR);(·walk_at "eo");(·walk_at "eo")
 |(with_reducible apply L3.xZ);(·walk_at "eo")
 |(with_reducible apply L3.zt);(·walk_at "sp");(·walk_at "eo")
 |(with_reducible apply L3.Dy);(·walk_at "eo");(·walk_at "eo")
 |(with_reducible apply L3.Bo);(·walk_at "eo")
 |(with_reducible apply L9.DM);(·walk_at "eo")
 |(with_reducible apply L3.wZ);(·assumption))
local macro_rules| `(tactic|walk_at "ao")=> `(tactic|first
 |(with_reducible apply L3.aU);(·walk_at "eo");(·walk_at "ao")
 |with_reducible exact L3.bz)
local macro_rules| `(tactic|walk_at "tt")=> `(tactic|first
 |(with_reducible apply L3.cG);(with_reducible apply L3.bT);(·walk_at "cm");(·walk_at "eo");(·walk_at "eo")
 |(with_reducible apply L3.uJ);(·walk_at "tt");(·walk_at "tt")
 |(with_reducible apply L3.wL);(·walk_at "tt");(·walk_at "tt")
 |(with_reducible apply L3.n5);(·walk_at "tt")
 |(with_reducible apply L3.uM);(·walk_at "eo")
 |with_reducible exact L3.d8)
local macro_rules| `(tactic|walk_at "gg")=> `(tactic|first
 |with_reducible exact L3.bc
 |(with_reducible apply L3.iM);(·walk_at "gg");(·walk_at "gg")
 |with_reducible exact L3.sK
 |(with_reducible apply L3.rX);(·walk_at "gg")
 |with_reducible exact L10.dA
 |(with_reducible apply L10.yL);(·walk_at "gg");(·walk_at "gg")
 |with_reducible exact L10.Bg
 |(with_reducible apply L10.zR);(·walk_at "gg"))
local macro_rules| `(tactic|walk_at "io")=> `(tactic|first
 |(with_reducible apply L3.kh);(·walk_at "ao")
 |(with_reducible apply L3.gx);(·walk_at "eo")
 |with_reducible exact L3.pU
 |(with_reducible apply L10.iV);(·walk_at "io"))
local macro_rules| `(tactic|walk_at "oo")=> `(tactic|first
 |(with_reducible apply L3.gj);(·walk_at "eo")
 |with_reducible exact L3.xL)
local macro_rules| `(tactic|walk_at "es")=> `(tactic|first
 |(with_reducible apply L10.bx);(·walk_at "eo")
 |with_reducible exact L10.eF
 |(with_reducible apply L10.iA);(·walk_at "es");(·walk_at "es")
 |(with_reducible apply L10.wo);(·walk_at "as")
 |(with_reducible apply L10.AK);(·walk_at "es");(·walk_at "es")
 |(with_reducible apply L10.Ar);(·walk_at "es");(·walk_at "es")
 |(with_reducible apply L10.lj);(·walk_at "es");(·walk_at "es")
 |(with_reducible apply L10.xI);(·walk_at "sp");(·walk_at "as")
 |(with_reducible apply L10.pZ);(·walk_at "es"))
local macro_rules| `(tactic|walk_at "as")=> `(tactic|first
 |(with_reducible apply L10.qM);(·walk_at "es");(·walk_at "as")
 |with_reducible exact L10.uu)
local macro_rules| `(tactic|walk_at "ts")=> `(tactic|first
 |(with_reducible apply L10.pF);(·walk_at "tt")
 |(with_reducible apply L10.z5);(·walk_at "ts");(·walk_at "ts")
 |(with_reducible apply L10.yJ);(·walk_at "es"))
local macro_rules| `(tactic|walk_at "so")=> `(tactic|first
 |(with_reducible apply L3.ap);(·walk_at "so");(·walk_at "so")
 |(with_reducible apply L3.d9);(·walk_at "eo");(·walk_at "gg")
 |(with_reducible apply L3.kB);(·walk_at "tt");(·walk_at "so");(·walk_at "so")
 |(with_reducible apply L3.cV);(·walk_at "eo")
 |(with_reducible apply L3.ug);(·walk_at "eo")
 |with_reducible exact L3.fQ
 |(with_reducible apply L3.oe);(·walk_at "io");(·walk_at "gg");(·walk_at "so")
 |(with_reducible apply L10.bf);(·walk_at "so");(·walk_at "so")
 |(with_reducible apply L10.iC);(·walk_at "es");(·walk_at "gg")
 |(with_reducible apply L10.sF);(·walk_at "ts");(·walk_at "so");(·walk_at "so")
 |(with_reducible apply L10.zl);(·walk_at "es")
 |(with_reducible apply L10.iE);(·walk_at "es")
 |(with_reducible apply L10.yZ);(·walk_at "es");(·walk_at "es");(·walk_at "es")
 |with_reducible exact L10.lP
 |(with_reducible apply L10.kn);(·walk_at "io");(·walk_at "gg");(·walk_at "so")
 |(with_reducible apply L10.mr);(·walk_at "ts");(·walk_at "so")
 |with_reducible exact L10.ml)
local macro_rules| `(tactic|walk_at "to")=> `(tactic|first
 |exact L2.jB
 |exact L2.rQ (by assumption)
 |exact L2.Dk (by assumption)
 |exact L3.se (by assumption)
 |exact L3.tJ (by assumption)
 |exact L3.gP
 |exact L3.zK
 |exact L9.uw
 |exact L3.ue
 |exact L3.Ds
 |exact L2.vR
 |exact L2.zf
 |exact L2.xW
 |exact L2.Cg
 |exact L3.Ax
 |exact L2.jC
 |exact L2.lB
 |exact L2.DT
 |exact L2.uS
 |exact L2.FC
 |exact L2.DW
 |exact L2.sJ
 |exact L2.fq
 |exact L2.g9
 |exact L2.nA
 |exact L3.eZ
 |exact L2.jz
 |exact L2.nX
 |exact L3.r9
 |exact L2.BL
 |exact Sd
 |exact L2.mK
 |exact L2.o7
 |exact L2.xX
 |exact L2.Et
 |exact L2.B3
 |exact L2.zw
 |exact L10.yf
 |exact L2.aD
 |with_reducible exact J1
 |with_reducible exact Nw
 |with_reducible exact Nx
 |with_reducible exact Nt
 |with_reducible exact PySem.F.type_list_insert
 |with_reducible exact PySem.F.slot_list_extend
 |with_reducible exact PySem.F.type_list_extend
 |with_reducible exact PySem.F.plainAttrs_dict
 |with_reducible exact PySem.F.slot_dict_values
 |with_reducible exact PySem.F.type_dict_values
 |exact L2.vj rfl
 |exact L3.k6 rfl
 |exact L10.kJ rfl
 |rfl)
local macro_rules| `(tactic|walk_at "pe")=> `(tactic|first
 |(with_reducible apply L2.pv);(·rfl);(·(first|exact Or.inl rfl|exact Or.inr (Or.inl rfl)|exact Or.inr (Or.inr rfl)));(·decide);(·decide)
 |with_reducible exact L2.aL
 |(with_reducible apply L2.my);(·walk_at "to");(·walk_at "pe");(·walk_at "pe");(·exact fun _ _=>rfl)
 |with_reducible exact L2.rq
 |(with_reducible apply L2.dJ);(·walk_at "to");(·walk_at "pe");(·walk_at "pe")
 |(with_reducible apply L2.j9);(·assumption);(·walk_at "pe");(·walk_at "pe");(·exact fun _ _=>rfl)
 |(with_reducible apply L2.sw);(·assumption);(·assumption);(·walk_at "pa");(·decide);(·rfl);(·decide);(·rfl);(·rfl)
 |(with_reducible apply L2.ju);(·walk_at "pa")
 |with_reducible exact L2.oS
 |(with_reducible apply L2.fF);(·walk_at "pa")
 |(with_reducible apply L2.aN);(·walk_at "to");(·rfl);(·assumption);(·walk_at "to");(·walk_at "pa");(·decide);(·decide);(·rfl);(·rfl)
 |(with_reducible apply L2.jy);(·walk_at "to");(·rfl);(·assumption);(·walk_at "to");(·walk_at "pa");(·decide);(·decide);(·rfl);(·rfl)
 |(with_reducible apply L2.cW);(·rfl);(·assumption);(·(first|rfl|exact⟨_,rfl⟩));(·decide)
 |with_reducible exact L2.lR
 |(with_reducible apply L2.iG);(·walk_at "to");(·walk_at "pe");(·walk_at "pe");(·(first|rfl|with_unfolding_all rfl))
 |(apply L2.tL);(·walk_at "to");(·walk_at "to");(·walk_at "to");(·walk_at "to");(·walk_at "pe");(·walk_at "pa");(·rfl);(·rfl);(·decide);(·rfl);(·rfl)
 |(with_reducible apply L2.oM);(·walk_at "pe")
 |(with_reducible apply L2.jx);(·walk_at "pe");(·walk_at "pe")
 |(with_reducible apply L2.Ch);(·walk_at "pc");(·(first|rfl|with_unfolding_all rfl))
 |(with_reducible apply L2.ui);(·walk_at "to");(·walk_at "pe")
 |(with_reducible apply L2.xD);(·walk_at "pe")
 |(apply L2.lg);(·walk_at "to");(·walk_at "pe");(·walk_at "po");(·walk_at "po")
 |(apply L2.AE);(·walk_at "pe");(·walk_at "po")
 |(apply L2.Cj);(·walk_at "pe");(·walk_at "po")
 |(with_reducible apply L2.gZ);(·rfl);(·assumption);(·walk_at "to");(·(first|rfl|exact⟨_,rfl⟩));(·decide);(·decide))
local macro_rules| `(tactic|walk_at "pa")=> `(tactic|first
 |(with_reducible apply L2.af);(·walk_at "pe");(·walk_at "pa");(·rfl)
 |with_reducible exact L2.az)
local macro_rules| `(tactic|walk_at "pt")=> `(tactic|first
 |(with_reducible apply L2.eG);(·walk_at "to");(·walk_at "pe");(·walk_at "pe");(·(first|rfl|with_unfolding_all rfl))
 |(with_reducible apply L2.na);(·walk_at "pt")
 |(with_reducible apply L2.sd);(·walk_at "pc");(·(first|rfl|with_unfolding_all rfl))
 |(with_reducible apply L2.PW.pt);(·walk_at "pw")
 |(with_reducible apply L2.lu);(·walk_at "pe");(·(intro _;rfl)))
local macro_rules| `(tactic|walk_at "pw")=> `(tactic|first
 |(with_reducible apply L2.uD);(·walk_at "pt")
 |(with_reducible apply L2.xS);(·walk_at "pt");(·walk_at "pw")
 |(with_reducible apply L2.r8);(·walk_at "pt")
 |(with_reducible apply L2.xC);(·walk_at "pt");(·walk_at "pw"))
local macro_rules| `(tactic|walk_at "pc")=> `(tactic|first
 |(with_reducible apply L2.CZ);(·assumption);(·walk_at "pe");(·walk_at "pe")
 |(with_reducible apply L2.jv);(·assumption);(·walk_at "pe");(·walk_at "pe"))
local macro_rules| `(tactic|walk_at "pg")=> `(tactic|first
 |(with_reducible apply L2.b5);(·(first|assumption|decide+kernel));(·rfl);(·(first|exact Or.inl rfl|exact Or.inr rfl|assumption|rfl));(·(first|exact Or.inl rfl|exact Or.inr rfl|assumption|rfl))
 |(with_reducible apply L2.gF);(·walk_at "pg");(·walk_at "pg");(·rfl)
 |with_reducible exact L2.oP
 |(apply L2.sC);(·rfl);(·walk_at "pg");(·rfl);(·rfl))
local macro_rules| `(tactic|walk_at "pi")=> `(tactic|first
 |(with_reducible apply L2.g7);(·rfl);(·assumption);(·walk_at "pa");(·rfl)
 |(apply L3.fH);(·walk_at "pe"))
local macro_rules| `(tactic|walk_at "po")=> `(tactic|first
 |with_reducible exact L2.z4
 |(with_reducible apply L2.iY);(·walk_at "pe"))
local macro_rules| `(tactic|walk_at "te")=> `(tactic|first
 |(with_reducible apply L2.ay);(·walk_at "te")
 |with_reducible exact L2.di
 |(with_reducible apply L2.ae);(·walk_at "te");(·walk_at "te")
 |(with_reducible apply L2.bV);(·(first|assumption|decide+kernel));(·rfl);(·(first|exact Or.inl rfl|exact Or.inr rfl|assumption|rfl));(·walk_at "pe");(·rfl);(·(first|exact Or.inl rfl|exact Or.inr rfl|assumption|rfl))
 |(with_reducible apply L2.nQ);(·walk_at "pe");(·rfl)
 |(with_reducible apply L2.bM);(·walk_at "pe")
 |(with_reducible apply L2.ia);(·walk_at "pt");(·walk_at "te");(·walk_at "te")
 |(with_reducible apply L2.ir);(·walk_at "to");(·rfl);(·walk_at "pi");(·walk_at "pg");(·walk_at "te");(·(intro _;rfl))
 |(with_reducible apply L2.Bd);(·assumption);(·walk_at "pe");(·walk_at "pe");(·walk_at "pe");(·rfl)
 |(with_reducible apply L2.pX);(·walk_at "to");(·walk_at "pt");(·walk_at "te")
 |with_reducible exact L2.pL)
local macro_rules| `(tactic|walk_at "ok")=> `(tactic|(intros;refine L3.Fq (by walk_at "so") ?_;first|(apply L2.ae);(·walk_at "te");(·walk_at "te")|(apply L2.ay);(·walk_at "te")))
local macro_rules| `(tactic|walk_at "os")=> `(tactic|(intros;refine L3.tU (by walk_at "so") ?_;first|(apply L2.ae);(·walk_at "te");(·walk_at "te")|(apply L2.ay);(·walk_at "te")))
namespace K62
open PySem L2 L3
noncomputable def top (i:Nat):Js:=PySem.Challenge.pw_chordbed_k62_words_written_and_read.main.body.getD i (.Pass ⟨0,0,0,0⟩)
noncomputable def fb:Js->List Js
 | .For _ _ b _ _=>b
 | .If _ b _ _=>b
 |_=>[]
noncomputable def av:Js->HI
 | .Assign _ v _=>v
 |_=> .Name "" ⟨0,0,0,0⟩
noncomputable def ss:HI->HI
 | .Subscript _ v _=>v
 |e=>e
noncomputable def sP:HI->Pos
 | .Subscript _ _ p=>p
 |_=>⟨0,0,0,0⟩
noncomputable def lp:HI->Pos
 | .List _ p=>p
 |_=>⟨0,0,0,0⟩
noncomputable def iT:Js->HI
 | .If c _ _ _=>c
 |_=> .Name "" ⟨0,0,0,0⟩
noncomputable def fI:Js->HI
 | .For _ i _ _ _=>i
 |_=> .Name "" ⟨0,0,0,0⟩
noncomputable def iP:Js->Pos
 | .If _ _ _ p=>p
 |_=>⟨0,0,0,0⟩
noncomputable def aP:Js->Pos
 | .Assign _ _ p=>p
 |_=>⟨0,0,0,0⟩
noncomputable def nP:Js->Pos
 | .Assign [.Name _ p] _ _=>p
 |_=>⟨0,0,0,0⟩
noncomputable def sv:HI->HI
 | .Subscript v _ _=>v
 |e=>e
noncomputable def le:HI->List HI
 | .List l _=>l
 |_=>[]
noncomputable def Hc:HI->Option HI
 | .Slice a _ _ _=>a
 |_=>none
noncomputable def Ha:HI->Option HI
 | .Slice _ a _ _=>a
 |_=>none
noncomputable def Hd:HI->Pos
 | .Slice _ _ _ p=>p
 |_=>⟨0,0,0,0⟩
noncomputable def He:HI->List HI
 | .Tuple l _ _=>l
 |_=>[]
noncomputable def Hb:Js->HI
 | .Return (some e) _=>e
 |_=> .Name "" ⟨0,0,0,0⟩
noncomputable def rP:Js->Pos
 | .Return _ p=>p
 |_=>⟨0,0,0,0⟩
noncomputable def bl:HI->HI
 | .BinOp a _ _ _=>a
 |e=>e
noncomputable def br:HI->HI
 | .BinOp _ _ b _=>b
 |e=>e
noncomputable def bP:HI->Pos
 | .BinOp _ _ _ p=>p
 |_=>⟨0,0,0,0⟩
noncomputable def dK:HI->List (Option HI)
 | .Dict k _ _=>k
 |_=>[]
noncomputable def dV:HI->List HI
 | .Dict _ v _=>v
 |_=>[]
noncomputable def dP:HI->Pos
 | .Dict _ _ p=>p
 |_=>⟨0,0,0,0⟩
noncomputable def DP:Js:= .Pass ⟨0,0,0,0⟩
noncomputable def DE:HI:= .Name "" ⟨0,0,0,0⟩
theorem A6 {l p t n env}:Ja (.List l p) t n env=pure false:=rfl
theorem FM {l k p t n env}:Ja (.Tuple l k p) t n env=pure false:=rfl
theorem Gb {a b c p t n env}:Ja (.Call a b c p) t n env=pure false:=rfl
theorem pB {a o b p t n env}:Ja (.BinOp a o b p) t n env=pure false:=rfl
theorem zY {a b p t n env}:Ja (.Subscript a b p) t n env=pure false:=rfl
theorem FP {a p t n env}:Ja (.Name a p) t n env=pure false:=rfl
theorem B7 {a b p t n env}:Ja (.Constant a b p) t n env=pure false:=rfl
theorem Ee {o a p t n env}:Ja (.UnaryOp o a p) t n env=pure false:=rfl
theorem CP {a b c p t n env}:Ja (.Compare a b c p) t n env=pure false:=rfl
theorem Ep {a b p t n env}:Ja (.BoolOp a b p) t n env=pure false:=rfl
theorem Fh {a b c p t n env}:Ja (.IfExp a b c p) t n env=pure false:=rfl
section
variable {P:Hy} {w:HU} {K:Hf} {mg:Str->Option Hg} {base:Heap} {f:Hj} {fd:IB}
theorem oO (F:Lc K "_law_cell" "_law_cell" (top 17) f fd):FnOk P w K mg base ez 1 f fd ["_law_script","_law_k"] (ic K 2 aI):=im (N:=["_law_script","_law_k"]) (g:=gr) F (by walk_at "sc") rfl rfl rfl fun Jr A outer s H E nd hr hu Nz hv=>tU (cV (bT jo (bT gW (xj kr au (gj au) (gj (bT gW au aR))) (jF (aU aR bz))) aR)) (ay (bM (my jB (dJ gP (lg r9 (pv 0) (iY (pv 1)) (iY (dJ gP (pv 1) aL))) (fF (af aL az))) aL (fun _ _=>rfl))))
theorem jW (F:Lc K "_law_stirred" "_law_stirred" (top 18) f fd):FnOk P w K mg base ez 1 f fd ["_law_cell_here","_law_salt"] (ic K 2 bg):=im (N:=["_law_cell_here","_law_salt","_law_number"]) (g:=cY) F (by walk_at "sc") rfl rfl rfl (by delta cY;walk_at "os")
theorem kT (F:Lc K "_law_stream" "_law_stream" (top 20) f fd) (Kh:cU P w K mg base 1 "_law_stirred" ["_law_cell_here","_law_salt"] 2 bg) (Po:mg "max"=none) (IQ:mg "range"=none):FnOk P w K mg base ez 2 f fd ["_law_cell_here","_law_many"] (ic K 2 dm):=im (N:=["_law_cell_here","_law_many","_law_found","_law_left","_law_k","_law_x","_law_j"]) (g:=dh) F (by walk_at "sc") rfl rfl rfl fun Jr A outer s H E nd hr hu Nz hv=>tU (ap (by walk_at "so")
   (ap (by walk_at "so")
   (ap (by walk_at "so")
   (cV au)))) (ae (by walk_at "te")
   (ae (by walk_at "te")
   (ae (by walk_at "te")
   (ay (bM (pv 2))))))
theorem jQ (F:Lc K "_law_name_of" "_law_name_of" (top 25) f fd) (IQ:mg "range"=none):FnOk P w K mg base ez 1 f fd ["_law_rest"] (ic K 1 cS):=im (N:=["_law_rest","_law_word","_law_many","_law_k"]) (g:=cT) F (by walk_at "sc") rfl rfl rfl fun Jr A outer s H E nd hr hu Nz hv=>tU (ap (d9 sZ bc)
   (ap (by walk_at "so")
   (ap (by walk_at "so")
   (ap (by walk_at "so")
   (cV au))))) (ae (bV (i:=1) nd rfl (Or.inl rfl) rq)
   (ae (by walk_at "te")
   (ae (by walk_at "te")
   (ae (by walk_at "te")
   (ay (bM (pv 1)))))))
theorem iZ (F:Lc K "_law_stroke_of" "_law_stroke_of" (top 26) f fd) (IQ:mg "range"=none) (JZ:mg "tuple"=none):FnOk P w K mg base ez 1 f fd ["_law_rest"] (ic K 1 cw):=im (N:=["_law_rest","_law_mask","_law_found","_law_key"]) (g:=bR) F (by walk_at "sc") rfl rfl rfl (by delta bR;walk_at "os")
theorem iU (F:Lc K "_law_read_book" "_law_read_book" (top 27) f fd) (Lx:cU P w K mg base 1 "_law_name_of" ["_law_rest"] 1 cS) (K7:cU P w K mg base 1 "_law_stroke_of" ["_law_rest"] 1 cw) (IQ:mg "range"=none) (JZ:mg "tuple"=none):FnOk P w K mg base ez 2 f fd ["_law_xs"] (ic K 1 cz):=im (N:=["_law_xs","_law_found","_law_k","_law_word","_law_strokes_here","_law_rest","_law_j"]) (g:=cx) F (by walk_at "sc") rfl rfl rfl fun Jr A outer s H E nd hr hu Nz hv=>tU (ap (by walk_at "so")
   (ap (oe (kh (aU (bT gW aR (bT gQ (bT jo au aR) aR)) bz)) bc (ap (by walk_at "so")
   (ap (by walk_at "so")
   (ap (by walk_at "so")
   (ap (by walk_at "so")
   (kB (cG (bT tK au (pW rfl rfl pU (rX (iM bc (iM bc sK))) d8 au))) (by walk_at "so") fQ))))))
   (by walk_at "so"))) (ae (by walk_at "te")
   (ae (ir KJ.never rfl (g7 rfl IQ (af (dJ gP aL (dJ jC (my jB (pv 0) aL (fun _ _=>rfl)) aL)) az)) (b5 (i:=2) nd rfl (Or.inl rfl)) (ae (by walk_at "te")
   (ae (by walk_at "te")
   (ae (by walk_at "te")
   (ae (by walk_at "te")
   (ay (ia (eG (tJ hv) (pv 3) (ja ["_law_name","_law_other"] [] rfl (fH (pv 1)) (fun _ _ _ _=>(sC rfl (gF (b5 (i:=0) (show Ky (["_law_name","_law_other"]:List Str) by decide+kernel) rfl (Or.inl rfl)) (gF (b5 (i:=1) (show Ky (["_law_name","_law_other"]:List Str) by decide+kernel) rfl (Or.inl rfl)) oP)))) (fun _ _ _ _=>fD) (fun _ _ _ _=>(pv 0)) trivial rfl) (by with_unfolding_all rfl)) (ay (by walk_at "te")) di)))))))
   (ay (by walk_at "te"))))
theorem mV (F:Lc K "_law_wide" "_law_wide" (top 19) f fd) (Kh:cU P w K mg base 1 "_law_stirred" ["_law_cell_here","_law_salt"] 2 bg) (Po:mg "max"=none):FnOk P w K mg base ez 2 f fd ["_law_cell_here","_law_salt"] (ic K 2 a7):=im (N:=["_law_cell_here","_law_salt"]) (g:=dw) F (by walk_at "sc") rfl rfl rfl (by delta dw;walk_at "os")
theorem lY (F:Lc K "_law_names" "_law_names" (top 24) f fd) (IQ:mg "range"=none):FnOk P w K mg base ez 1 f fd ["_law_cell_here","_law_many"] (ic K 2 cQ):=im (N:=["_law_cell_here","_law_many","_law_letters","_law_sign","_law_size","_law_at","_law_found","_law_k","_law_other"]) (g:=dL) F (by walk_at "sc") rfl rfl rfl fun Jr A outer s H E nd hr hu Nz hv=>tU (ap (d9 sZ bc)
   (ap (by walk_at "so")
   (ap (kB (uJ (cG (bT sY (bT gQ au aR) aR)) (cG (bT yd au aR))) (cV (iz rfl rfl (kh (aU au bz)) bc d8 (bT L9.pR au (bT gW au aR)))) fQ)
   (ap (by walk_at "so")
   (ap (by walk_at "so")
   (ap (d9 (jF bz) bc)
   (ap (by walk_at "so")
   (cV au)))))))) (ae (bV (i:=2) nd rfl (Or.inl rfl) rq)
   (ae (by walk_at "te")
   (ae (ia (PW.pt (xS (eG (rQ hu) (dJ jC (pv 0) aL) aL (gG _)) (uD (eG Cg (pv 1) aL (gG _))))) (ay (bM (ja ["_law_k"] [("_law_sign",3)] rfl (g7 rfl IQ (af (pv 1) az)) (fun _ _ _ _=>(b5 (i:=0) (show Ky (["_law_k","_law_sign"]:List Str) by decide+kernel) rfl (Or.inl rfl))) (fun _ _ _ _=>fD) (fun _ _ _ _=>(dJ L9.uw (pv 1) (dJ gP (pv 0) aL))) ⟨⟨rfl,rfl,Or.inl rfl⟩,trivial⟩ rfl))) di)
   (ae (by walk_at "te")
   (ae (by walk_at "te")
   (ae (bV (i:=6) nd rfl (Or.inl rfl) (fF az))
   (ae (by walk_at "te")
   (ay (bM (pv 6))))))))))
noncomputable abbrev Bb (P:Hy) (w:HU) (K:Hf) (mg:Str->Option Hg) (base:Heap) (f:Hj) (Jr:Hg) (A:HM) (outer:List Env) (s:Hi) (H:Hp) (E:XK):Cx:=(dH ez P w K mg base ["_law_cell_here","_law_wide_here","_law_some","_law_bits","_law_keys","_law_key"] "_law_stroke" (aq (top 23)) f Jr A outer s H E).Q6
noncomputable def gD:Js:=(bQ (top 23)).getD 0 DP
noncomputable def zx:Js:=(bQ (top 23)).getD 1 DP
noncomputable def xw:Js:=(bQ (top 23)).getD 2 DP
noncomputable def iO:HI:=av gD
noncomputable def uO:HI:=(le iO).getD 0 DE
noncomputable def tO:HI:=(le iO).getD 1 DE
noncomputable def uC:HI:=(le iO).getD 2 DE
noncomputable def ut:HI:=(le iO).getD 3 DE
theorem bA:JJ ["_law_cell_here","_law_wide_here","_law_some","_law_bits","_law_keys","_law_key"] ["_law_cell_here","_law_wide_here"] (aq (top 23)):=by walk_at "sc"
theorem kK (F:Lc K "_law_stroke" "_law_stroke" (top 23) f fd) (IQ:mg "range"=none) (KL:mg "len"=none) (JZ:mg "tuple"=none):FnOk P w K mg base ez 1 f fd ["_law_cell_here","_law_wide_here"] (ic K 2 bu):=by
 refine G3 (k:=0) (n:=2) (m:=6) (g:=dk) (FF:=bu) F bA rfl rfl rfl (fun Jr A outer s H E hr=> ?_);have hu:=hr.units;have hv:=uK hr;have nd:=bA.nd;obtain⟨tq3,YW,X1⟩:∃t,PE (Bb P w K mg base f Jr A outer s H E) uO t/\EO K E t (ck (ac (pC (.int 0)) ah)):=⟨_,(ju (af aL az)),(jG (aU aR bz))⟩;obtain⟨tq4,XZ,Yy⟩:∃t,PE (Bb P w K mg base f Jr A outer s H E) tO t/\EO K E t (ck (ac (pC (.int 1)) ah)):=⟨_,(ju (af aL az)),(jG (aU aR bz))⟩;obtain⟨tq5,YS,Yj⟩:∃t,PE (Bb P w K mg base f Jr A outer s H E) uC t/\EO K E t (ck (ac (pC (.int 0)) (ac (pC (.int 1)) ah))):=⟨_,(ju (af aL (af aL az))),(jG (aU aR (aU aR bz)))⟩;obtain⟨tq6,YO,Yr⟩:∃t,PE (Bb P w K mg base f Jr A outer s H E) ut t/\EO K E t (ck (ac (pC (.int 2)) (ac (pC (.int 11)) ah))):=⟨_,(ju (af aL (af aL az))),(jG (aU aR (aU aR bz)))⟩;have QE:wm uO=false:=rfl;have QC:wm tO=false:=rfl;have QB:wm uC=false:=rfl;have QA:wm ut=false:=rfl;obtain⟨pq2,T1⟩:∃pp,iO= .List [uO,tO,uC,ut] pp:=⟨_,rfl⟩;obtain⟨tq2,Yz,YU⟩:∃t,PE (Bb P w K mg base f Jr A outer s H E) iO t/\EO K E t (cH (ac (ck (ac (pC (.int 0)) ah)) (ac (ck (ac (pC (.int 1)) ah)) (ac (ck (ac (pC (.int 0)) (ac (pC (.int 1)) ah))) (ac (ck (ac (pC (.int 2)) (ac (pC (.int 11)) ah))) ah))))):=by rw[T1];generalize uO=z0 at*;generalize tO=z1 at*;generalize uC=z2 at*;generalize ut=z3 at*;exact⟨_,fF (F0 YW (F0 XZ (F0 YS (F0 YO az QA) QB) QC) QE),jF (aU X1 (aU Yy (aU Yj (aU Yr bz))))⟩
 clear T1 QE QC QB QA YW X1 XZ Yy YS Yj YO Yr;have TR:gD= .Assign [.Name "_law_some" (nP gD)] iO (aP gD):=rfl;have Uq:Ja iO (some (.Name "_law_some" (nP gD))) (aP gD).line (Bb P w K mg base f Jr A outer s H E).env=pure false:=rfl;obtain⟨tq1,uq1,vq1⟩:∃t,PS (Bb P w K mg base f Jr A outer s H E) gD t/\SO K E t (aJ (cH (ac (ck (ac (pC (.int 0)) ah)) (ac (ck (ac (pC (.int 1)) ah)) (ac (ck (ac (pC (.int 0)) (ac (pC (.int 1)) ah))) (ac (ck (ac (pC (.int 2)) (ac (pC (.int 11)) ah))) ah))))) (gN 2)):=by rw[TR];generalize iO=z0 at*;generalize nP gD=z1 at*;generalize aP gD=z2 at*;exact⟨_,bV (i:=2) bA.nd rfl (Or.inl rfl) Yz (hs:=Uq),d9 YU bc⟩
 clear TR Uq Yz YU;obtain⟨tq7,Zu,vq7⟩:∃t,PS (Bb P w K mg base f Jr A outer s H E) zx t/\SO K E t (ig (aC (aa 1)) (ak (aJ (am bN (aa 0) (pC (.int 4))) (gN 3))
 (ak (aJ (cH ah) (gN 4))
 (ak (dY (dM cK (ac (pC (.int 12)) ah)) (gN 5) (ak (ig (aC (am j7 (am aM (aa 3) (pC (.int 2))) (pC (.int 1)))) (cC (gH 4 (aa 5))) bO)
 (aJ (am bN (aa 3) (pC (.int 2))) (gN 3))))
 (ig (aC (am CN (fR dR (ac (aa 4) ah)) (pC (.int 0)))) (bU (fR j8 (ac (aa 4) ah))) bO)))) bO):=⟨_,(ia (lu (pv 1)) (ae (bV (i:=3) bA.nd rfl (Or.inl rfl) (dJ lB (pv 0) aL) (hs:=pB))
   (ae (bV (i:=4) bA.nd rfl (Or.inl rfl) (fF az) (hs:=A6))
   (ae (ir KJ.never rfl (g7 rfl IQ (af aL az)) (b5 (i:=5) bA.nd rfl (Or.inl rfl)) (ae (ia (eG (rQ hu) (dJ jC (pv 3) aL) aL (gG _)) (ay (nQ (tL J1 Nw Nx jz (pv 4) (af (pv 5) az)))) di)
   (ay (bV (i:=3) bA.nd rfl (Or.inl rfl) (dJ lB (pv 3) aL) (hs:=pB)))))
   (ay (ia (eG xW (aN fq rfl KL mK (af (pv 4) az)) aL (gG _)) (ay (bM (jy g9 rfl JZ o7 (af (pv 4) az)))) di))))) di),(kB (uM au) (ap (d9 (bT nt au aR) bc)
   (ap (d9 (jF bz) bc)
   (ap (oe (kh (aU aR bz)) bc (ap (kB (cG (bT sY (bT gQ au aR) aR)) (ug (yq au)) fQ)
   (d9 (bT nt au aR) bc)))
   (kB (cG (bT sW (jM jr (aU au bz)) aR)) (cV (jM pM (aU au bz))) fQ)))) fQ)⟩
 obtain⟨tq8,uq8,vq8⟩:∃t,PS (Bb P w K mg base f Jr A outer s H E) xw t/\SO K E t (bU (am cN (aa 2) (am aM (aa 0) (pC (.int 4))))):=⟨_,(bM (my jB (pv 2) (dJ jC (pv 0) aL) (fun _ _=>rfl))),(cV (bT jo au (bT gQ au aR)))⟩;have hb:(bQ (top 23))=[gD,zx,xw]:=rfl;rw[hb];generalize gD=z0 at*;generalize zx=z1 at*;generalize xw=z2 at*;exact tU (ap vq1
   (ap vq7
   vq8)) (ae uq1
   (ae Zu
   (ay uq8)))
theorem nM (F:Lc K "_law_book" "_law_book" (top 28) f fd) (K1:cU P w K mg base 1 "_law_cell" ["_law_script","_law_k"] 2 aI) (LQ:cU P w K mg base 2 "_law_stream" ["_law_cell_here","_law_many"] 2 dm) (K6:cU P w K mg base 2 "_law_read_book" ["_law_xs"] 1 cz) (KZ:cU P w K mg base 2 "_law_wide" ["_law_cell_here","_law_salt"] 2 a7) (Md:cU P w K mg base 1 "_law_names" ["_law_cell_here","_law_many"] 2 cQ) (Kq:cU P w K mg base 1 "_law_stroke" ["_law_cell_here","_law_wide_here"] 2 bu) (IQ:mg "range"=none) (JZ:mg "tuple"=none):FnOk P w K mg base ez 3 f fd ["_law_script","_law_at"] (ic K 2 eP):=im (N:=["_law_script","_law_at","_law_first","_law_sort","_law_many","_law_most","_law_names_here","_law_found","_law_k","_law_cell_here","_law_strokes_here","_law_j"]) (g:=eD) F (by walk_at "sc") rfl rfl rfl fun Jr A outer s H E nd hr hu Nz hv=>tU (ap (by walk_at "so")
   (ap (by walk_at "so")
   (ap (by walk_at "so")
   (ap (by walk_at "so")
   (ap (by walk_at "so")
   (ap (d9 aR bc)
   (ap (by walk_at "so")
   (ap (by walk_at "so")
   (ap (d9 (jF bz) bc)
   (ap (by walk_at "so")
   (by walk_at "so"))))))))))) (ae (by walk_at "te")
   (ae (by walk_at "te")
   (ae (by walk_at "te")
   (ae (by walk_at "te")
   (ae (by walk_at "te")
   (ae (bV (i:=5) nd rfl (Or.inl rfl) aL)
   (ae (by walk_at "te")
   (ae (by walk_at "te")
   (ae (bV (i:=7) nd rfl (Or.inl rfl) (fF az))
   (ae (by walk_at "te")
   (ay (by walk_at "te"))))))))))))
theorem l9 (F:Lc K "_law_whole" "_law_whole" (top 21) f fd) (HR:mg "isinstance"=none) (QF:mg "int"=none) (OY:mg "bool"=none):FnOk P w K mg base ez 1 f fd ["_law_thing"] (ic K 1 bZ):=im (N:=["_law_thing"]) (g:=fM) F (by walk_at "sc") rfl rfl rfl fun Jr A outer s H E nd hr hu Nz hv=>tU (cV (sR (kE (by simp) au) (xZ (kE (by simp) au)))) (ay (bM (jx (aN eZ rfl HR aD (af (pv 0) (af (gZ (v:= .ty "int") rfl QF B3 rfl) az))) (oM (xD (aN eZ rfl HR aD (af (pv 0) (af (gZ (v:= .ty "bool") rfl OY D6 rfl) az))))))))
theorem jY (F:Lc K "_law_strokes" "_law_strokes" (top 31) f fd) (Lg:cU P w K mg base 1 "_law_whole" ["_law_thing"] 1 bZ) (HR:mg "isinstance"=none) (JZ:mg "tuple"=none) (NK:mg "all"=none):FnOk P w K mg base ez 2 f fd ["_law_found"] (ic K 1 bS):=im (N:=["_law_found","_law_some"]) (g:=eg) F (by walk_at "sc") rfl rfl rfl fun Jr A outer s H E nd hr hu Nz hv=>tU (ap (by walk_at "so")
   (ap (oe (gx au) bc (kB (wL (n5 (uM (kE (by simp) au))) (n5 (uM (jM sB (aU (iz rfl rfl (gx au) bc d8 (yi (aU au bz))) bz))))) (cV pP) fQ))
   (cV pP))) (ae (by walk_at "te")
   (ae (ir KJ.never rfl (fH (pv 0)) (b5 (i:=1) nd rfl (Or.inl rfl)) (ay (ia (PW.pt (xC (na (lu (aN eZ rfl HR aD (af (pv 1) (af (gZ (v:= .ty "tuple") rfl JZ o7 rfl) az))))) (r8 (na (lu (aN (k6 rfl) rfl NK zw (af (ja ["_law_key"] [] rfl (fH (pv 1)) (fun _ _ _ _=>(b5 (i:=0) (show Ky (["_law_key"]:List Str) by decide+kernel) rfl (Or.inl rfl))) (fun _ _ _ _=>fD) (fun _ _ _ _=>(sw Lg hr (af (pv 0) az))) trivial rfl) az))))))) (ay (bM lR)) di)))
   (ay (bM lR))))
theorem jX (F:Lc K "_law_written" "_law_written" (top 29) f fd):FnOk P w K mg base ez 1 f fd ["_law_book_here","_law_words"] (ic K 2 aO):=im (N:=["_law_book_here","_law_words","_law_found","_law_word","_law_name","_law_strokes_here"]) (g:=dU) F (by walk_at "sc") rfl rfl rfl fun Jr A outer s H E nd hr hu Nz hv=>tU (ap (by walk_at "so")
   (ap (by walk_at "so")
   (cV au))) (ae (by walk_at "te")
   (ae (by walk_at "te")
   (ay (bM (pv 2)))))
theorem qS (F:Lc K "_law_row" "_law_row" (top 30) f fd) (HR:mg "isinstance"=none) (L5:mg "list"=none) (NK:mg "all"=none) (Qu:mg "str"=none):FnOk P w K mg base ez 1 f fd ["_law_found","_law_book_here"] (ic K 2 dg):=im (N:=["_law_found","_law_book_here"]) (g:=iu) F (by walk_at "sc") rfl rfl rfl fun Jr A outer s H E nd hr hu Nz hv=>tU (ap (by walk_at "so")
   (cV (jM sB (aU (iz rfl rfl (gx au) bc d8 (sR (kE (by simp) au) (bT su au (iz rfl rfl (gx au) (rX (iM bc (iM bc sK))) d8 au)))) bz)))) (ae (by walk_at "te")
   (ay (bM (aN (k6 rfl) rfl NK zw (af (ja ["_law_word"] [("_law_book_here",1)] rfl (fH (pv 0)) (fun _ _ _ _=>(b5 (i:=0) (show Ky (["_law_word","_law_book_here"]:List Str) by decide+kernel) rfl (Or.inl rfl))) (fun _ _ _ _=>fD) (fun _ _ _ _=>(jx (aN eZ rfl HR aD (af (pv 0) (af (gZ (v:= .ty "str") rfl Qu FD rfl) az))) (oM (iG (se hv) (pv 0) (ja ["_law_name","_law_strokes_here"] [] rfl (fH (pv 1)) (fun _ _ _ _=>(sC rfl (gF (b5 (i:=0) (show Ky (["_law_name","_law_strokes_here"]:List Str) by decide+kernel) rfl (Or.inl rfl)) (gF (b5 (i:=1) (show Ky (["_law_name","_law_strokes_here"]:List Str) by decide+kernel) rfl (Or.inl rfl)) oP)))) (fun _ _ _ _=>fD) (fun _ _ _ _=>(pv 0)) trivial rfl) (by with_unfolding_all rfl))))) ⟨⟨rfl,rfl,Or.inl rfl⟩,trivial⟩ rfl) az)))))
theorem oJ (F:Lc K "_law_read" "_law_read" (top 33) f fd) (Kf:cU P w K mg base 4 "read_strokes" ["book","strokes"] 2 aQ) (Na:cU P w K mg base 3 "_law_can" ["_law_book_here","_law_strokes_here"] 2 ej) (M7:cU P w K mg base 1 "_law_row" ["_law_found","_law_book_here"] 2 dg) (Kg:cU P w K mg base 1 "_law_written" ["_law_book_here","_law_words"] 2 aO) (IQ:mg "range"=none):FnOk P w K mg base ez 5 f fd ["_law_book_here","_law_strokes_here"] (ic K 2 bv):=im (N:=["_law_book_here","_law_strokes_here","_law_turn","_law_found"]) (g:=gL) F (by walk_at "sc") rfl rfl rfl fun Jr A outer s H E nd hr hu Nz hv=>tU (ap (by walk_at "so")
   (cV pP)) (ae (by walk_at "te")
   (ay (bM lR)))
theorem Dm (F:Lc K "law" "law" (top 35) f fd) (MH:cU P w K mg base 3 "_law_book" ["_law_script","_law_at"] 2 eP) (LH:cU P w K mg base 3 "written" ["book","words"] 2 de) (Ly:cU P w K mg base 2 "_law_strokes" ["_law_found"] 1 bS) (Kg:cU P w K mg base 1 "_law_written" ["_law_book_here","_law_words"] 2 aO) (MG:cU P w K mg base 5 "_law_read" ["_law_book_here","_law_strokes_here"] 2 bv) (K1:cU P w K mg base 1 "_law_cell" ["_law_script","_law_k"] 2 aI) (KZ:cU P w K mg base 2 "_law_wide" ["_law_cell_here","_law_salt"] 2 a7) (Kq:cU P w K mg base 1 "_law_stroke" ["_law_cell_here","_law_wide_here"] 2 bu) (Kf:cU P w K mg base 4 "read_strokes" ["book","strokes"] 2 aQ) (Lu:cU P w K mg base 5 "_law_refused" ["_law_book_here","_law_words"] 2 aV) (KL:mg "len"=none) (L5:mg "list"=none):FnOk P w K mg base ez 6 f fd ["_law_script"] (ic K 1 F_law):=im (N:=["_law_script","_law_book_here","_law_words","_law_handed","_law_strokes_here","_law_cell_here","_law_at","_law_other","_law_changed","_law_strange","_law_wrong"]) (g:=wM) F (by walk_at "sc") rfl rfl rfl fun Jr A outer s H E nd hr hu Nz hv=>tU (ap (by walk_at "so")
   (ap (d9 (iz rfl rfl (gx (xj BQ au (gj aR) (gj aR))) bc d8 (bT jo (bT jo au (bT gQ au (jM jr (aU au bz)))) aR)) bc)
   (ap (by walk_at "so")
   (ap (by walk_at "so")
   (ap (by walk_at "so")
   (ap (by walk_at "so")
   (ap (by walk_at "so")
   (ap (by walk_at "so")
   (ap (by walk_at "so")
   (ap (by walk_at "so")
   (ap (by walk_at "so")
   (ap (by walk_at "so")
   (ap (by walk_at "so")
   (ap (by walk_at "so")
   (ap (by walk_at "so")
   (by walk_at "so")))))))))))))))) (ae (by walk_at "te")
   (ae (Bt (i:=2) ["_law_cell_here"] [("_law_book_here",1)] nd rfl rfl rfl (fH (lg ue (pv 0) (iY aL) (iY aL))) (fun _ _ _ _=>(b5 (i:=0) (show Ky (["_law_cell_here","_law_book_here"]:List Str) by decide+kernel) rfl (Or.inl rfl))) (fun _ _ _ _=>fD) (fun _ _ _ _=>(my jB (my jB (pv 1) (dJ jC (pv 0) (aN fq rfl KL mK (af (pv 1) az))) (fun _ _=>rfl)) aL (fun _ _=>rfl))) ⟨⟨rfl,rfl,Or.inl rfl⟩,trivial⟩ rfl)
   (ae (by walk_at "te")
   (ae (by walk_at "te")
   (ae (by walk_at "te")
   (ae (by walk_at "te")
   (ae (by walk_at "te")
   (ae (by walk_at "te")
   (ae (by walk_at "te")
   (ae (by walk_at "te")
   (ae (by walk_at "te")
   (ae (by walk_at "te")
   (ae (by walk_at "te")
   (ae (by walk_at "te")
   (ae (by walk_at "te")
   (ay (by walk_at "te")))))))))))))))))
end
end K62
namespace K62
open PySem L2 L3 L10
section
variable {P:Hy} {w:HU} {K:Hf} {mg:Str->Option Hg} {base:Heap} {f:Hj} {fd:IB}
theorem js (F:Lc K "last_words_of" "last_words_of" (top 15) f fd) (IQ:mg "range"=none) (KL:mg "len"=none):FnOk P w K mg base ez 3 f fd ["book","strokes"] (wB K 2 bD):=Ac (N:=["book","strokes","last_words","place","word","part","end"]) (g:=dG) F (by walk_at "sc") rfl rfl rfl fun Jr A outer s H E nd hr hu Nz hv=>Fq (bf (iC (qE (ql (bx aR) (bx wN) ve)) dA)
   (bf (by walk_at "so")
   (iE eF))) (ae (bV (i:=2) nd rfl (Or.inl rfl) (uP (qk aL oS u4) rfl rfl (MQ _ _) (by decide)))
   (ae (by walk_at "te")
   (ay (bM (pv 2)))))
theorem j6 (F:Lc K "read_strokes" "read_strokes" (top 14) f fd) (Li:Gm P w K mg base 3 "last_words_of" ["book","strokes"] 2 bD) (L8:mg "dict"=none) (KL:mg "len"=none) (L5:mg "list"=none) (LX:mg "reversed"=none):FnOk P w K mg base ez 4 f fd ["book","strokes"] (wB K 2 cb):=Ac (N:=["book","strokes","strokes_of","last_words","place","words","word"]) (g:=dI) F (by walk_at "sc") rfl rfl rfl fun Jr A outer s H E nd hr hu Nz hv=>Fq (bf (by walk_at "so")
   (bf (by walk_at "so")
   (bf (by walk_at "so")
   (bf (by walk_at "so")
   (bf (by walk_at "so")
   (bf (mr (pF (cG (bT sW au aR))) (bf (by walk_at "so")
   (bf (by walk_at "so")
   (mZ qv (xI jr (qM (iA eF (bx au)) uu))))))
   (iE (xF eF)))))))) (ae (by walk_at "te")
   (ae (by walk_at "te")
   (ae (by walk_at "te")
   (ae (by walk_at "te")
   (ae (by walk_at "te")
   (ae (pX KJ.never (eG xW (pv 4) aL (gG _)) (ae (by walk_at "te")
   (ae (by walk_at "te")
   (ay (rT (i:=4) nd rfl (Or.inl rfl) (aN fq rfl KL mK (af (j9 Nz (pv 2) (pv 6) (fun _ _=>rfl)) az)) AN)))))
   (ay (bM (tm rfl rfl L5 rfl LX (pv 5))))))))))
theorem rM (F:Lc K "written" "written" (top 13) f fd) (L8:mg "dict"=none):FnOk P w K mg base ez 3 f fd ["book","words"] (wB K 2 fK):=Ac (N:=["book","words","strokes_of","strokes","word"]) (g:=li) F (by walk_at "sc") rfl rfl rfl fun Jr A outer s H E nd hr hu Nz hv=>Fq (bf (by walk_at "so")
   (bf (by walk_at "so")
   (bf (kn (iV (gx au)) dA (bf (sF (yJ (lj (bx au) eF)) ml lP)
   (mZ kA (iA eF (bx au)))))
   (iE (bx au))))) (ae (by walk_at "te")
   (ae (by walk_at "te")
   (ae (ir KJ.never rfl (fH (pv 1)) (b5 (i:=4) nd rfl (Or.inl rfl)) (ae (ia (sd (jv Nz (pv 4) (pv 2)) (by with_unfolding_all rfl)) (ay pL) di)
   (ay (rT (i:=3) nd rfl (Or.inl rfl) (j9 Nz (pv 2) (pv 4) (fun _ _=>rfl)) yy))))
   (ay (bM (pv 3))))))
theorem qK (F:Lc K "_law_can" "_law_can" (top 32) f fd) (KL:mg "len"=none) (IQ:mg "range"=none):FnOk P w K mg base ez 3 f fd ["_law_book_here","_law_strokes_here"] (wB K 2 eR):=Ac (N:=["_law_book_here","_law_strokes_here","_law_ends","_law_at","_law_name","_law_part"]) (g:=gJ) F (by walk_at "sc") rfl rfl rfl fun Jr A outer s H E nd hr hu Nz hv=>Fq (bf (iC (qE (ql (bx (jM jr (aU au bz))) (bx pP) ve)) dA)
   (bf (kn (iV (Ag (aU (bT uN (jM jr (aU au bz)) aR) (aU (zt nb aR) (aU (zt nb aR) bz))))) dA (by walk_at "so"))
   (by walk_at "so"))) (ae (bV (i:=2) nd rfl (Or.inl rfl) (uP (qk (aN fq rfl KL mK (af (pv 1) az)) lR u4) rfl rfl (MQ _ _) (by decide)))
   (ae (ir KJ.never rfl (vp rfl IQ (af (dJ zf (aN fq rfl KL mK (af (pv 1) az)) aL) (af (ui nX aL) (af (ui nX aL) az)))) (b5 (i:=3) nd rfl (Or.inl rfl)) (ay (by walk_at "te")))
   (ay (by walk_at "te"))))
end
end K62
namespace L2
open PySem PySem.Spec PyProof.Rows
section
variable {σ:St} {H:Hp} {Q:VK} {D:Ends}
theorem A2 {K:Hf} {ta tv:TE} {f:Str} (h:tv σ H fun y H1=>ta σ H1 fun x H2=>∃a C dx fs,x= .ref a/\H2 a=some (.ins C dx fs)/\Uo K C/\k8 K C f/\fs.length<1000/\D.nx σ (aY H2 a (.ins C dx (Ed f y fs)))):Gr K ta tv f D σ H:=h
theorem Dp {c:TT} {t u:TE} (h:c σ H fun b H1=>if b=true then t σ H1 Q else u σ H1 Q):G5 c t u σ H Q:=h
theorem Db {K:Hf} {ta:TE} {f:Str} (h:ta σ H fun x H1=>∃a C dx fs v,x= .ref a/\H1 a=some (.ins C dx fs)/\Uo K C/\k8 K C f/\fs.lookup f=some v/\Q v H1):GD K ta f σ H Q:=h
theorem Bu {C:Hj} {m:Str} {sp:Sp} {E:XK} {ta:TE} {t:TA} (h:ta σ H fun x H1=>∃a dx fs,x= .ref a/\H1 a=some (.ins C dx fs)/\fs.lookup m=none/\t σ H1 fun vs H2=>sp (x::(vs++[])) H2 Q E):EI C m sp [] E ta t σ H Q:=h
theorem A8 {C:Hj} {sp:Sp} {E:XK} {t:TA} (h:t σ H fun vs H1=>∀x dx,H1 x=none->H1 dx=none->dx≠x->sp (.ref x::(vs++[])) (aY (aY H1 dx (.own x)) x (.ins C dx [])) (fun v H2=>v= .JD/\Q (.ref x) H2) E):ER C sp [] E t σ H Q:=h
end
end L2
local macro_rules| `(tactic|walk_at "gh")=> `(tactic|repeat (first
 |with_reducible refine L2.DR ?_
 |with_reducible refine L2.C6 ?_
 |with_reducible refine L2.A2 ?_
 |with_reducible refine L2.Dp ?_
 |with_reducible refine L2.Db ?_
 |with_reducible refine L2.Bu ?_
 |with_reducible refine L2.A8 ?_
 |with_reducible refine L2.zX ?_
 |((with_reducible show L2.mY _ _ _ _);refine⟨_,rfl,?_⟩)
 |with_reducible refine L2.GF ?_
 |with_reducible refine L2.EL ?_
 |with_reducible refine L2.YD ?_
 |with_reducible refine L2.YG ?_
 |with_reducible refine L2.Zs ?_
 |((with_reducible refine L2.acf ?_ ?_);first|exact⟨by decide,by decide⟩|exact⟨by decide,by decide,by decide⟩|exact(show(0:Int)<_ by decide)|exact⟨by decide,by decide+kernel⟩)
 |((with_reducible refine L2.Fc ?_ ?_);exact rfl)
 |((with_reducible refine L2.FB ?_ ?_);exact rfl)
 |with_reducible refine L2.DC ?_
 |with_reducible refine L2.AJ ?_
 |with_reducible refine L2.DF ?_
 |with_reducible refine L2.Ao ?_
 |with_reducible refine L2.UC ?_
 |with_reducible refine L2.VP ?_
 |with_reducible refine L2.AD ?_
 |with_reducible refine L2.Gx ?_
 |with_reducible refine L2.FK ?_
 |with_reducible refine L2.W6 ?_
 |with_reducible refine L2.EZ ?_
 |with_reducible refine L2.D5 ?_
 |with_reducible refine L2.Bf ?_
 |with_reducible refine L2.W9 ?_
 |with_reducible refine L2.VW ?_
 |with_reducible refine L2.CK ?_
 |with_reducible refine L2.AA ?_
 |with_reducible refine L2.Ff ?_
 |with_reducible refine L2.AQ ?_
 |with_reducible refine L2.XF ?_
 |with_reducible refine L2.Eg ?_
 |with_reducible refine L2.E8 ?_
 |with_reducible refine L2.YT ?_
 |with_reducible refine L2.Tb ?_
 |with_reducible refine L2.VE ?_
 |with_reducible refine L2.XH ?_
 |with_reducible refine L2.UD ?_
 |with_reducible refine L2.Uh ?_
 |with_reducible refine L2.U9 ?_
 |with_reducible refine L2.VU ?_
 |with_reducible refine L2.Wi ?_
 |with_reducible refine L2.VC ?_
 |with_reducible refine L2.Vx ?_
 |with_reducible refine L2.Uj ?_
 |with_reducible refine L2.Vl ?_
 |with_reducible refine L2.T8 ?_
 |with_reducible refine L2.Vr ?_
 |with_reducible refine L2.VB ?_))
namespace K62
open PySem L2
theorem small {n:Nat} (h:n<=10000):n<Ht:=Qo h (by decide+kernel)
theorem lC {n:Nat} (h:n<=10000):n<=Ht:=JV (small h)
section
variable {P:Hy} {w:HU} {K:Hf} {mg:Str->Option Hg} {base:Heap} {f:Hj} {fd:IB}
def Sk (CR:Hj) (H:Hp) (e:Hj):Prop:=∃ob,H e=some (.frz ob (.own e))/\ob.cls= .ref CR/\(∀p,ob.dict=some p->∃fs,H p=some (.xd fs))/\M0 ob=true
theorem Sk.same {CR:Hj} {H H':Hp} {e:Hj} (h:Sk CR H e) (s:IX H H'):Sk CR H' e:=by obtain⟨ob,h1,h2,h3,h4⟩:=h;exact⟨ob,s _ _ h1,h2,fun p hp=>let⟨fs,z⟩:=h3 p hp;⟨fs,s _ _ z⟩,h4⟩
theorem cc {K:Hf} {CR C:Hj} {m:List Hg} {H:Hp} {e:Hj} {b:Bool} {Q:VK} (h:Sk CR H e) (L:L4.Lz K CR m) (k:HN K (.ref CR) (.ref C)=some b) (q:Q (.bl b) H):L4.wV K [.ref e,.ref C] H Q:=by obtain⟨ob,h1,h2,h3,h4⟩:=h;exact⟨_,.inl ⟨C,rfl,e,ob,CR,m,b,rfl,h1,h2,h3,h4,L,k,q⟩⟩
theorem D9 {K:Hf} {CR:Hj} {n:String} {m:List Hg} {H:Hp} {e:Hj} {b:Bool} {Q:VK} (h:Sk CR H e) (L:L4.Lz K CR m) (k:HN K (.ref CR) (.type n)=some b) (q:Q (.bl b) H):L4.wV K [.ref e,.ty n] H Q:=by obtain⟨ob,h1,h2,h3,h4⟩:=h;exact⟨_,.inr ⟨n,rfl,e,ob,CR,m,b,rfl,h1,h2,h3,h4,L,k,q⟩⟩
theorem xH {K:Hf} (C:Hj):HN K (.ref C) (.ref C)=some true:=by unfold HN;rw[if_pos (beq_iff_eq.mpr rfl)]
theorem fG {K:Hf} {CR C:Hj} (hs:IA K (.ref CR) (.ref CR)=some true) (h1:IU K C=true) (h2:IP K (.ref C)=some (.type "type")) (h3:IA K (.ref CR) (.ref C)=some false):HN K (.ref CR) (.ref C)=some false:=by
 have ne:(Hg.ref CR==Hg.ref C)=false:=by
  cases e:(Hg.ref CR==Hg.ref C) with
  |false=>rfl
  |true=>obtain rfl:=Hg.ref.inj (beq_iff_eq.mp e);rw[hs] at h3;cases h3
 unfold HN;rw[ne,if_neg Hu];show(if((LO K C).isSome&&IP K (.ref C)==some (.type "type"))=true then IA K (.ref CR) (.ref C) else none)=_;rw[show(LO K C).isSome=true from h1,h2,if_pos (by rw[N6];exact beq_iff_eq.mpr rfl)];exact h3
theorem Dh {K:Hf} {CR:Hj} (h:IA K (.ref CR) (.type "ValueError")=some true):HN K (.ref CR) (.type "ValueError")=some true:=by unfold HN;rw[if_neg (by intro z;cases beq_iff_eq.mp z)];show(if PySem.W.kitMeta "ValueError"=true then IA K (.ref CR) (.type "ValueError") else none)=_;rw[if_pos (by decide+kernel)];exact h
noncomputable def oU (C:Hj) (j:Nat):Sp:=fun vs H Q _=>∃e,vs=[.ref e]/\Sk C H e/\∀H',IX H H'->Q (.int (j:Int)) H'
theorem dQ:JJ ["_law_e","_law_found"] ["_law_e"] (aq (top 22)):=⟨rfl,rfl,rfl,by decide+kernel,rfl,by decide+kernel,by decide+kernel⟩
theorem Gj:∀j,j<10->([decide (j=0),decide (j=1),decide (j=2),decide (j=3),decide (j=4),decide (j=5),decide (j=6),decide (j=7),decide (j=8),decide (j=9)]:List Bool).count true=1:=by decide
theorem Gv:∀j,j<10->([decide (j=0),decide (j=1),decide (j=2),decide (j=3),decide (j=4),decide (j=5),decide (j=6),decide (j=7),decide (j=8),decide (j=9)]:List Bool)[j]? =some true:=by decide
theorem GN:∀j,j<10->∀m,m<j->([decide (j=0),decide (j=1),decide (j=2),decide (j=3),decide (j=4),decide (j=5),decide (j=6),decide (j=7),decide (j=8),decide (j=9)]:List Bool)[m]?≠some true:=by decide
theorem AM {C KW J2 Kv Ku Ib J4 Jz J3 Kt K0:Hj} {mR:List Hg} {j:Nat} (hj:j<10) (F:Lc K "_law_kind" "_law_kind" (top 22) f fd) (L:L4.Lz K C mR) (NV:mg "NoBed"=some (.ref KW)) (Mx:mg "NoChord"=some (.ref J2)) (Ni:mg "NoText"=some (.ref Kv)) (M8:mg "NoBook"=some (.ref Ku)) (Mf:mg "NoWord"=some (.ref Ib)) (Mv:mg "NoFrame"=some (.ref J4)) (LB:mg "NoReading"=some (.ref Jz)) (Ms:mg "TooMany"=some (.ref J3)) (Nb:mg "NoKeys"=some (.ref Kt)) (NX:mg "NoRow"=some (.ref K0)) (NS:HN K (.ref C) (.ref KW)=some (decide (j=0))) (My:HN K (.ref C) (.ref J2)=some (decide (j=1))) (Nf:HN K (.ref C) (.ref Kv)=some (decide (j=2))) (M5:HN K (.ref C) (.ref Ku)=some (decide (j=3))) (Nc:HN K (.ref C) (.ref Ib)=some (decide (j=4))) (MC:HN K (.ref C) (.ref J4)=some (decide (j=5))) (LA:HN K (.ref C) (.ref Jz)=some (decide (j=6))) (Mw:HN K (.ref C) (.ref J3)=some (decide (j=7))) (M6:HN K (.ref C) (.ref Kt)=some (decide (j=8))) (NY:HN K (.ref C) (.ref K0)=some (decide (j=9))) (kV:HN K (.ref C) (.type "ValueError")=some true) (HR:mg "isinstance"=none) (Lf:mg "ValueError"=none):
  FnOk P w K mg base ez 1 f fd ["_law_e"] (oU C j):=by
 refine F.ok dQ (fun vs H Q E h=> ?_) (fun Jr A outer s H vs Q E hr h=> ?_)
 ·obtain⟨_,rfl,_⟩:=h;rfl
 obtain⟨e,rfl,hc,q⟩:=h;refine⟨_,(ae (bV (i:=1) dQ.nd rfl (Or.inl rfl) (fF (af (aN L4.cr rfl HR aD (af (pv 0) (af (cW (v:= .ref KW) rfl NV rfl) az))) (af (aN L4.cr rfl HR aD (af (pv 0) (af (cW (v:= .ref J2) rfl Mx rfl) az))) (af (aN L4.cr rfl HR aD (af (pv 0) (af (cW (v:= .ref Kv) rfl Ni rfl) az))) (af (aN L4.cr rfl HR aD (af (pv 0) (af (cW (v:= .ref Ku) rfl M8 rfl) az))) az))))))
   (ae (bV (i:=1) dQ.nd rfl (Or.inl rfl) (dJ L3.ou (pv 1) (fF (af (aN L4.cr rfl HR aD (af (pv 0) (af (cW (v:= .ref Ib) rfl Mf rfl) az))) (af (aN L4.cr rfl HR aD (af (pv 0) (af (cW (v:= .ref J4) rfl Mv rfl) az))) (af (aN L4.cr rfl HR aD (af (pv 0) (af (cW (v:= .ref Jz) rfl LB rfl) az))) az))))))
   (ae (bV (i:=1) dQ.nd rfl (Or.inl rfl) (dJ L3.ou (pv 1) (fF (af (aN L4.cr rfl HR aD (af (pv 0) (af (cW (v:= .ref J3) rfl Ms rfl) az))) (af (aN L4.cr rfl HR aD (af (pv 0) (af (cW (v:= .ref Kt) rfl Nb rfl) az))) (af (aN L4.cr rfl HR aD (af (pv 0) (af (cW (v:= .ref K0) rfl NX rfl) az))) az))))))
   (ae (ia (PW.pt (xC (na (lu (aN L4.cr rfl HR aD (af (pv 0) (af (gZ (v:= .ty "ValueError") rfl Lf (show Iq "ValueError"=some (.type "ValueError") from rfl) rfl) az))))) (r8 (eG E1 (tL J1 NF PySem.F.type_list_count L4.vh (pv 1) (af lR az)) aL (gG _))))) (ay (bM (ui nX aL))) di)
   (ay (bM (tL J1 NG PySem.F.type_list_index L4.vv (pv 1) (af lR az)))))))),?_⟩
 walk_at "gh";refine cc hc L NS ?_;walk_at "gh";refine cc hc L My ?_;walk_at "gh";refine cc hc L Nf ?_;walk_at "gh";refine cc hc L M5 ?_;walk_at "gh";refine⟨lC (HQ rfl),fun p hp=> ?_⟩;have s1:IX H (aY H p (.lst [.bl (decide (j=0)),.bl (decide (j=1)),.bl (decide (j=2)),.bl (decide (j=3))])):=bq hp _;have WJ:=hc.same s1;walk_at "gh";refine cc WJ L Nc ?_;walk_at "gh";refine cc WJ L MC ?_;walk_at "gh";refine cc WJ L LA ?_;walk_at "gh";refine⟨lC (HQ rfl),fun p2 T3=> ?_⟩;have n2:p≠p2:=fun z=>by rw[<-z,ar] at T3;cases T3
 refine⟨p,p2,[.bl (decide (j=0)),.bl (decide (j=1)),.bl (decide (j=2)),.bl (decide (j=3))],[.bl (decide (j=4)),.bl (decide (j=5)),.bl (decide (j=6))],rfl,rfl,.inl (Rd.of ((aj n2).trans ar)),.inl (Rd.of ar),lC (HQ rfl),fun p3 hp3=> ?_⟩;have s2:=s1.trans (bq T3 (.lst [.bl (decide (j=4)),.bl (decide (j=5)),.bl (decide (j=6))]));have s3:=s2.trans (bq hp3 (.lst ([.bl (decide (j=0)),.bl (decide (j=1)),.bl (decide (j=2)),.bl (decide (j=3))]++[.bl (decide (j=4)),.bl (decide (j=5)),.bl (decide (j=6))])));have VT:=hc.same s3;walk_at "gh";have e3:(aY (aY (aY H p (.lst [.bl (decide (j=0)),.bl (decide (j=1)),.bl (decide (j=2)),.bl (decide (j=3))])) p2 (.lst [.bl (decide (j=4)),.bl (decide (j=5)),.bl (decide (j=6))])) p3 (.lst ([.bl (decide (j=0)),.bl (decide (j=1)),.bl (decide (j=2)),.bl (decide (j=3))]++[.bl (decide (j=4)),.bl (decide (j=5)),.bl (decide (j=6))]))) p3=some (.lst ([.bl (decide (j=0)),.bl (decide (j=1)),.bl (decide (j=2)),.bl (decide (j=3))]++[.bl (decide (j=4)),.bl (decide (j=5)),.bl (decide (j=6))])):=ar;generalize aY (aY (aY H p (.lst [.bl (decide (j=0)),.bl (decide (j=1)),.bl (decide (j=2)),.bl (decide (j=3))])) p2 (.lst [.bl (decide (j=4)),.bl (decide (j=5)),.bl (decide (j=6))])) p3 (.lst ([.bl (decide (j=0)),.bl (decide (j=1)),.bl (decide (j=2)),.bl (decide (j=3))]++[.bl (decide (j=4)),.bl (decide (j=5)),.bl (decide (j=6))]))=H3 at s3 VT e3;refine cc VT L Mw ?_;walk_at "gh";refine cc VT L M6 ?_;walk_at "gh";refine cc VT L NY ?_;walk_at "gh";refine⟨lC (HQ rfl),fun p4 Wz=> ?_⟩;have n4:p3≠p4:=fun z=>by rw[<-z,e3] at Wz;cases Wz
 refine⟨p3,p4,_,[.bl (decide (j=7)),.bl (decide (j=8)),.bl (decide (j=9))],rfl,rfl,.inl (Rd.of ((aj n4).trans e3)),.inl (Rd.of ar),lC (show 10<=10000 by decide),fun p5 hp5=> ?_⟩;have s5:=(s3.trans (bq Wz (.lst [.bl (decide (j=7)),.bl (decide (j=8)),.bl (decide (j=9))]))).trans (bq hp5 (.lst (([.bl (decide (j=0)),.bl (decide (j=1)),.bl (decide (j=2)),.bl (decide (j=3))]++[.bl (decide (j=4)),.bl (decide (j=5)),.bl (decide (j=6))])++[.bl (decide (j=7)),.bl (decide (j=8)),.bl (decide (j=9))])));have e5:(aY (aY H3 p4 (.lst [.bl (decide (j=7)),.bl (decide (j=8)),.bl (decide (j=9))])) p5 (.lst (([.bl (decide (j=0)),.bl (decide (j=1)),.bl (decide (j=2)),.bl (decide (j=3))]++[.bl (decide (j=4)),.bl (decide (j=5)),.bl (decide (j=6))])++[.bl (decide (j=7)),.bl (decide (j=8)),.bl (decide (j=9))]))) p5=some (.lst (([.bl (decide (j=0)),.bl (decide (j=1)),.bl (decide (j=2)),.bl (decide (j=3))]++[.bl (decide (j=4)),.bl (decide (j=5)),.bl (decide (j=6))])++[.bl (decide (j=7)),.bl (decide (j=8)),.bl (decide (j=9))])):=ar;generalize aY (aY H3 p4 (.lst [.bl (decide (j=7)),.bl (decide (j=8)),.bl (decide (j=9))])) p5 (.lst (([.bl (decide (j=0)),.bl (decide (j=1)),.bl (decide (j=2)),.bl (decide (j=3))]++[.bl (decide (j=4)),.bl (decide (j=5)),.bl (decide (j=6))])++[.bl (decide (j=7)),.bl (decide (j=8)),.bl (decide (j=9))]))=H5 at s5 e5;have hc5:=hc.same s5;walk_at "gh";refine D9 hc5 L kV ?_;walk_at "gh";rw[if_neg (by decide)];walk_at "gh";refine⟨.inl ⟨rfl,_,Lk.of e5⟩,?_⟩;walk_at "gh";refine⟨p5,[decide (j=0),decide (j=1),decide (j=2),decide (j=3),decide (j=4),decide (j=5),decide (j=6),decide (j=7),decide (j=8),decide (j=9)],true,rfl,e5,rfl,?_⟩;rw[Gj j hj];walk_at "gh";rw[if_neg (by decide)];walk_at "gh";refine⟨.inl ⟨rfl,_,Lk.of e5⟩,?_⟩;walk_at "gh";exact⟨p5,[decide (j=0),decide (j=1),decide (j=2),decide (j=3),decide (j=4),decide (j=5),decide (j=6),decide (j=7),decide (j=8),decide (j=9)],true,j,rfl,e5,rfl,Gv j hj,GN j hj,by omega,q _ s5⟩
end
section
open L3 L4
variable {P:Hy} {w:HU} {K:Hf} {mg:Str->Option Hg} {base:Heap} {f:Hj} {fd:IB}
theorem ib:JJ ["self","word"] ["self","word"] (aq (nW (top 10) 0)):=⟨rfl,rfl,rfl,by decide+kernel,rfl,by decide+kernel,by decide+kernel⟩
theorem wt {C B fI:Hj} (F:Lc K "__init__" "NoWord.__init__" (nW (top 10) 0) f fd) (hC:L9.XC K C B fI) (Zd:mg "BedError"=some (.ref B)) (YK:MJ K B (.type "type")=true) (SW:MK K (.ref B) (.type "type") "__init__"=some (.val (.builtin "ValueError.__init__")))
  (Q5:J8 K (.ref B) "__getattribute__"=some (some (.builtin "type.__getattribute__"))) (hp:Ia K (.ref C) "word"=some none):FnOk P w K mg base ez 1 f fd ["self","word"] (L9.mX C "word"):=by
 refine F.ok ib (fun vs H Q E h=> ?_) (fun Jr A outer s H vs Q E hr h=> ?_)
 ·obtain⟨_,_,rfl,_⟩:=h;rfl
 obtain⟨e,v,rfl,fv,hE,q⟩:=h;refine⟨_,(ae (nQ (L9.xh rfl Zd YK SW Q5 hC (af (pv 0) (af (L9.AU (L9.Dl (by decide) (L9.C3 (pv 1) L9.Du)) (by decide)) az)))) (ay (L9.A5 hC hp (pv 0) (pv 1) rfl))),?_⟩;walk_at "gh";refine⟨V.ref e,rfl,v,rfl,fv,fun y=>⟨e,y,rfl,hE,?_⟩⟩;exact⟨v,rfl,V.ref e,rfl,e,rfl,hE,fun p hp Uv=>q p hp Uv⟩
end
end K62
namespace K62
open PySem L2
section
variable {P:Hy} {w:HU} {K:Hf} {mg:Str->Option Hg} {base:Heap} {f:Hj} {fd:IB}
theorem lh:JJ ["book","words","strokes_of","strokes","word"] ["book","words"] (aq (top 13)):=⟨rfl,rfl,rfl,by decide+kernel,rfl,by decide+kernel,by decide+kernel⟩
theorem pj {C B fI:Hj} {Tn:IB} {oI:Obj} (F:Lc K "written" "written" (top 13) f fd) (hC:L9.XC K C B fI) (lI:K.lookup fI=some oI) (iI:J9 K (.ref fI)=true) (FI:FnOk P w K mg base ez 1 fI Tn ["self","word"] (L9.mX C "word")) (bI:Binds K Tn ["self","word"] [])
  (nC:HA K Hw "NoWord"=some (some (.ref C))) (mC:mg "NoWord"=some (.ref C)) (L8:mg "dict"=none):FnOk P w K mg base (L4.pz P w) 3 f fd ["book","words"] (L10.wB K 2 gz):=by
 refine L10.GH (g:=eK) F lh rfl rfl rfl fun Jr A outer s H E hr=> ?_;have hu:=hr.units;have nd:=lh.nd;have Nz:=yM hr;exact⟨_,(ae (bV (i:=2) nd rfl (Or.inl rfl) (jy (L10.kJ rfl) rfl L8 L10.yf (af (pv 0) az)))
  (ae (bV (i:=3) nd rfl (Or.inl rfl) (ju az))
  (ae (ir KJ.leaving rfl (L3.fH (pv 1)) (b5 (i:=4) nd rfl (Or.inl rfl)) (ae (ia (sd (jv Nz (pv 4) (pv 2)) (by with_unfolding_all rfl)) (ay (L9.vi hC lI iI FI bI (hr.mono (by decide)) rfl mC (af (pv 4) az))) di)
   (ay (rT (i:=3) nd rfl (Or.inl rfl) (j9 Nz (pv 2) (pv 4) (fun _ _=>rfl)) L10.yy))))
  (ay (bM (pv 3)))))),
  L10.bf (L10.iC (L10.pZ (L10.bx L3.au)) L10.dA)
  (L10.bf (L10.iC (L10.bx (L3.jG L3.bz)) L10.dA)
  (L10.bf (L10.kn (L10.iV (L3.gx L3.au)) L10.dA (L10.bf (L10.sF (L10.yJ (L10.lj (L10.bx L3.au) L10.eF)) (L10.sg nC (L10.bx L3.au)) L10.lP)
   (L10.mZ L10.kA (L10.iA L10.eF (L10.bx L3.au)))))
  (L10.iE (L10.bx L3.au))))⟩
theorem Fu {O:L3.aX} {H:Hp} {x y:V} {d e:L3.D} (n:L3.gd O H) (hx:L3.DX O K H x d) (hy:L3.DX O K H y e) (h:L3.wC d e=some (.fz (.bool true))) {Q:VK} (q:∀H',IX H H'->Q (.bl true) H'):L3.yS K false x y H Q:=L3.su O H x y d e (.fz (.bool true)) Q n hx hy h fun v H' s dv=>by cases dv;exact q H' s
theorem cJ:JJ ["_law_book_here","_law_words","_law_caught","_law_e"] ["_law_book_here","_law_words"] (aq (top 34)):=⟨rfl,rfl,rfl,by decide+kernel,rfl,by decide+kernel,by decide+kernel⟩
theorem rZ {C CB:Hj} {m mB:List Hg} (F:Lc K "_law_refused" "_law_refused" (top 34) f fd) (Ls:mE P w K mg base 1 "_law_kind" ["_law_e"] (oU C 4))
  (LH:L4.Bs P w K mg base 3 "written" ["book","words"] 2 cL)
  (hB:mg "BedError"=some (.ref CB)) (xB:L4.lA K CB mB) (bB:mB.contains (.type "BaseException")=true)
  (xR:L4.lA K C m) (up:(Hg.ref C::m).contains (.ref CB)=true) (nR:HA K Hw "NoWord"=some (some (.ref C))) (L:L4.Lz K C m) (hh:KQ K C=true) (hp:Ia K (.ref C) "word"=some none):
  FnOk P w K mg base ez 5 f fd ["_law_book_here","_law_words"] (L3.ic K 2 aV):=by
 refine F.ok cJ (fun vs H Q E h=>h.1) (fun Jr A outer s H vs Q E hr h=> ?_);have hu:=hr.units;have hv:=L3.uK hr;obtain⟨hl,O,ds,hO,dv,wr⟩:=h;obtain⟨b,ws,rfl⟩:∃b ws,ds=[b,ws]:=by
  have:=dv.length
  match ds,this.symm.trans hl with
  |[b,ws],_=>exact⟨b,ws,rfl⟩
 obtain⟨v0,v1,rfl,d0,d1⟩:∃v0 v1,vs=[v0,v1]/\L3.DV O K H v0 b/\L3.DV O K H v1 ws:=by
  cases dv with
  |cons d0 r0=>
   cases r0 with
   |cons d1 r1=>cases r1;exact⟨_,_,rfl,d0,d1⟩
 obtain⟨y,h1,SM⟩:∃y,cL [b,ws]= .er ⟨"NoWord",[("word",.str y)]⟩/\L3.wC (.str y) ws=some (.fz (.bool true)):=by
  unfold aV at wr;dsimp only at wr;cases h1:cL [b,ws] with
  |bad=>rw[h1] at wr;exact wr.elim
  |ok rv=>rw[h1] at wr;exact wr.elim
  |er x=>
   rw[h1] at wr;obtain⟨xc,xf⟩:=x;dsimp only at wr;split at wr
   ·rename_i hc
    subst hc;split at wr
    ·rename_i f y
     split at wr
     ·rename_i hf
      subst hf;split at wr
      ·rename_i hi;exact⟨y,rfl,hi⟩
      ·exact wr.elim
     ·exact wr.elim
    ·exact wr.elim
   ·exact wr.elim
 have q:∀v H',IX H H'->L3.DV O K H' v (.str y)->Q v H':=by
  have e:aV [b,ws]= .ok (.fz (.str y)):=by
   unfold aV;dsimp only;rw[h1];dsimp only;rw[if_pos rfl];show(match[(("word":Str),Hr.str y)] with
    |[(f,.str y)]=>if f= "word" then(match L3.wC (.str y) ws with
     |some (.fz (.bool true))=>L3.Res.ok (L3.RV.fz (.str y))
     |_=> .bad) else .bad
    |_=> .bad)=_
   dsimp only;rw[if_pos rfl,SM]
  rw[e] at wr;exact wr
 clear wr;refine⟨_,(ae (bV (i:=2) cJ.nd rfl (Or.inl rfl) oS)
  (ae (L4.Au (i:=3) (E2:=fun c dx H1=>IX H H1/\c= .ref C/\∃p fs v,dx=some p/\H1 p=some (.xd fs)/\fs.lookup ("word":Str)=some v/\L3.DV O K H1 v (.str y)) rfl cJ.nd rfl rfl rfl hB xB bB rfl rfl
   (fun l σ=>L4.vF rfl LH rfl rfl rfl rfl rfl hr (af (pv 0) (af (pv 1) az)))
   (fun l e=>ay (bV (i:=2) cJ.nd rfl (Or.inl rfl) (pv 3)))
   (fun c dx H1 h=>⟨C,m,h.2.1,xR,up⟩))
  (ay (bM (jx (iG uS (pv 2) oS (gG _)) (jx (iG Fr (sw Ls hr (af (pv 2) az)) aL (gG _)) (jx (iG (L3.se hv) (L9.vb (pv 2) rfl) (pv 1) (by with_unfolding_all rfl)) (oM (L9.vb (pv 2) rfl))))))))),?_⟩
 walk_at "gh";unfold L4.B4;refine⟨?_,fun c dx H1 h2 e ob he hc hd hn=> ?_⟩
 ·walk_at "gh"
  refine⟨rfl,O,[b,ws],hO,.cons d0 (.cons d1 .nil),?_⟩;rw[h1];rintro c dx H' s' ⟨⟨a',e1,e2⟩,fs,g2,g3⟩;obtain⟨nn,v,k1,k2⟩:=g3 "word" (.str y) rfl;have e3:=nR.symm.trans e2;cases e3;cases dx with
  |none=>exact absurd rfl nn
  |some p=>exact⟨s',e1,p,fs,v,rfl,g2 p rfl,k1,k2⟩
 ·obtain⟨s1,rfl,p,fs,v,rfl,hx,Wv,Xb⟩:=h2
  cases Xb;have Yu:IX H1 (aY H1 e (.frz ob (.own e))):=bq he _;have s2:IX H (aY H1 e (.frz ob (.own e))):=s1.trans Yu;have Q7:=Yu _ _ hx;have eE:(aY H1 e (.frz ob (.own e))) e=some (.frz ob (.own e)):=ar;have cg:Sk C (aY H1 e (.frz ob (.own e))) e:=⟨ob,ar,hc,fun p' Tj=>by rw[hd] at Tj;cases Tj;exact⟨fs,Q7⟩,hn⟩;generalize aY H1 e (.frz ob (.own e))=H2 at s2 Q7 eE cg;have xf:∀(σ:L2.St) (H4:Hp) (Q':VK),σ[2]? =some (some (.ref e))->IX H2 H4->Q' (.str y) H4->L9.Bz K (mY 2) "word" σ H4 Q':=fun σ H4 Q' z s4 hq=>⟨V.ref e,z,e,ob,C,m,p,fs,.str y,rfl,s4 _ _ eE,hc,hd,hn,L,hh,hp,s4 _ _ Q7,Wv,hq⟩;walk_at "gh";refine⟨rfl,true,?_,?_⟩
  ·show V.bl (!decide (V.ref e=V.JD))=V.bl true;rw[decide_eq_false (fun z=>nomatch z)];rfl
  rw[if_pos rfl];walk_at "gh";refine⟨e,rfl,cg,fun H3 s3=> ?_⟩;walk_at "gh";rw[if_pos (by decide)];walk_at "gh";have away:L3.gd O H3:=fun a z w=>hO a w (by
   cases k:H a with
   |none=>rfl
   |some o=>rw[s3 _ _ (s2 _ _ k)] at z;cases z)
  refine xf _ _ _ rfl s3 ?_;walk_at "gh";refine Fu away (L3.DV.x (.str y)) (L3.DV.x (L3.DV.ev (L3.Ev.grow (s2.trans s3)) d1)) SM fun H4 s4=> ?_;refine⟨true,rfl,?_⟩;rw[if_pos rfl];refine xf _ _ _ rfl (s3.trans s4) ?_;exact q _ _ (s2.trans (s3.trans s4)) (.str y)
end
end K62
local macro_rules| `(tactic|walk_at "ba")=> `(tactic|(intro _ _ _ _ _ _ us hl;first|(match us,hl with|[_],_=>rfl)|(match us,hl with|[_,_],_=>rfl)|(match us,hl with|[_,_,_],_=>rfl)|(match us,hl with|[_,_,_,_],_=>rfl)|(match us,hl with|[_,_,_,_,_],_=>rfl)|(match us,hl with|[],_=>rfl)))
local macro_rules| `(tactic|walk_at "fl")=> `(tactic|first|exact List.forall_mem_nil _|(refine List.forall_mem_cons.mpr ⟨?_,?_⟩;(·(show Ia _ _ _=_;k_is));walk_at "fl"))
local macro_rules| `(tactic|walk_at "ki")=> `(tactic|first|(refine' L3.NI.mk ?a ⟨_,L2.yc ?b ?c ?d⟩;(case a=>k_is);(case b=>k_is);(case c=>k_is);(case d=>k_is))|(refine' L3.MI.mk ?a ?e ⟨_,L2.yc ?b ?c ?d⟩;(case a=>k_is);(case e=>k_is);(case b=>k_is);(case c=>k_is);(case d=>k_is))|(refine' L3.CI.mk ?a ?b ?c ?d ?e ?f ?g ?i;(case a=>k_is);(case b=>k_is);(case c=>k_is);(case d=>k_is);(case e=>k_is);(case f=>k_is);(case g=>k_is);(case i=>walk_at "fl"))|k_is|k_exc|rfl|decide+kernel|(rw[<-Qr];rfl))
namespace K62
open PySem L2 L3
theorem all_mk {l:Qd} {w:HU} {K:Hf} {h:Heap} {mg:Str->Option Hg} {fa:Hj}
  {f0 f1 f2 f3 f4 f5 f6 f7 f8 f9 Zt Zn f12 f13 f14 f15 f16 f17 f18 f19 f20 ZY Wy:Hj}
  {KW J4 J2 Ib Kt K0 Kv Ku J3 Jz Jg:Hj} {mB:List Hg}
  {nmR qR:Str} {NR:Hj} {bsR:List Hg} {ZM:List Str} {WA:List Hg} {abR:Bool} {Xp:Option Bool} {Z8:Option Hj} {ZI Zy k2R k3R k5R:Option Hg}
  {nmB qB:Str} {NB:Hj} {bsB:List Hg} {hdB:Bool} {snB:List Str} {subB:List Hg} {abB:Bool} {WY:Option Bool} {Y0:Option Hj} {Y8 k1B k2B ZA Zv:Option Hg} {idB:String}
  {ocN:Hg} {Zk:Option Hj} {YI:Array TH} {nN:Nat} {slN:Array (Option Hg)} (X:K.In h) (G:h.Ns Hw mg) (WG:mg "law"=some (.ref fa))
  (h0:NI K f0 "_law_cell" (top 17))
  (h1:NI K f1 "_law_stirred" (top 18))
  (h2:NI K f2 "_law_stream" (top 20))
  (h3:NI K f3 "_law_name_of" (top 25))
  (h4:NI K f4 "_law_stroke_of" (top 26))
  (h5:NI K f5 "_law_read_book" (top 27))
  (h6:NI K f6 "_law_wide" (top 19))
  (h7:NI K f7 "_law_names" (top 24))
  (h8:NI K f8 "_law_stroke" (top 23))
  (h9:NI K f9 "_law_book" (top 28))
  (h10:NI K Zt "_law_whole" (top 21))
  (h11:NI K Zn "_law_strokes" (top 31))
  (h12:NI K f12 "_law_written" (top 29))
  (h13:NI K f13 "_law_row" (top 30))
  (ZF:NI K f14 "_law_read" (top 33))
  (WM:NI K f15 "last_words_of" (top 15))
  (ZS:NI K f16 "read_strokes" (top 14))
  (YR:NI K f17 "written" (top 13))
  (ZO:NI K f18 "_law_can" (top 32))
  (h19:NI K f19 "_law_kind" (top 22))
  (ZR:NI K f20 "_law_refused" (top 34))
  (ZL:NI K ZY "law" (top 35))
  (Qy:HA K Hw "NoBed"=some (some (.ref KW)))
  (OL:HA K Hw "NoFrame"=some (some (.ref J4)))
  (OV:HA K Hw "NoChord"=some (some (.ref J2)))
  (N3:HA K Hw "NoReading"=some (some (.ref Jz)))
  (Pz:HA K Hw "NoKeys"=some (some (.ref Kt)))
  (QP:HA K Hw "NoRow"=some (some (.ref K0)))
  (PM:HA K Hw "NoText"=some (some (.ref Kv)))
  (PK:HA K Hw "NoBook"=some (some (.ref Ku)))
  (OS:HA K Hw "TooMany"=some (some (.ref J3)))
  (MB:HA K Hw "NoWord"=some (some (.ref Ib)))
  (Og:HA K Hw "BedError"=some (some (.ref Jg)))
  (xR:K.lookup Ib=some (excClassObj nmR qR Ib NR bsR (.ref Jg::[.type "ValueError",.type "Exception",.type "BaseException",.type "object"]) true ZM WA abR Xp Z8 ZI Zy k2R k3R k5R "ValueError.__new__"))
  (xB:K.lookup Jg=some (excClassObj nmB qB Jg NB bsB mB hdB snB subB abB WY Y0 Y8 k1B k2B ZA Zv idB))
  (eI:LN K Jg [.type "ValueError",.type "Exception",.type "BaseException",.type "object"] "ValueError.__new__"=true)
  (ZG:mB.contains (.type "BaseException")=true)
  (gaR:Ia K (.ref Ib) "__getattribute__"=some (some (.builtin "BaseException.__getattribute__")))
  (gtR:Ia K (.ref Ib) "__getattr__"=some none)
  (csR:Ia K (.ref Ib) "__class__"=some (some (.builtin "object.__class__")))
  (ZH:Q0 K Ib (.type "object")=some true)
  (Rj:IA K (.ref Ib) (.ref Ib)=some true)
  (suV:IA K (.ref Ib) (.type "ValueError")=some true)
  (QK:IU K KW=true)
  (QQ:IP K (.ref KW)=some (.type "type"))
  (QI:IA K (.ref Ib) (.ref KW)=some false)
  (ON:IU K J4=true)
  (O8:IP K (.ref J4)=some (.type "type"))
  (OW:IA K (.ref Ib) (.ref J4)=some false)
  (OK:IU K J2=true)
  (O9:IP K (.ref J2)=some (.type "type"))
  (Pb:IA K (.ref Ib) (.ref J2)=some false)
  (NT:IU K Jz=true)
  (NU:IP K (.ref Jz)=some (.type "type"))
  (NW:IA K (.ref Ib) (.ref Jz)=some false)
  (PY:IU K Kt=true)
  (PX:IP K (.ref Kt)=some (.type "type"))
  (P0:IA K (.ref Ib) (.ref Kt)=some false)
  (QY:IU K K0=true)
  (QT:IP K (.ref K0)=some (.type "type"))
  (QR:IA K (.ref Ib) (.ref K0)=some false)
  (Py:IU K Kv=true)
  (PR:IP K (.ref Kv)=some (.type "type"))
  (PN:IA K (.ref Ib) (.ref Kv)=some false)
  (PF:IU K Ku=true)
  (PL:IP K (.ref Ku)=some (.type "type"))
  (P2:IA K (.ref Ib) (.ref Ku)=some false)
  (O0:IU K J3=true)
  (OP:IP K (.ref J3)=some (.type "type"))
  (OO:IA K (.ref Ib) (.ref J3)=some false)
  (lN:K.lookup NR=some ⟨ocN,Zk,.dict YI nN,slN⟩)
  (okN:(YI.all fun e=>match e.key with| .str _ _=>true|_=>false)=true)
  (S9:HA K NR "__init__"=some (some (.ref Wy)))
  (saR:Ia K (.ref Ib) "__setattr__"=some (some (.builtin "object.__setattr__")))
  (hdR:KQ K Ib=true)
  (YQ:Ia K (.ref Ib) "word"=some none)
  (Zj:MJ K Jg (.type "type")=true)
  (fcB:MK K (.ref Jg) (.type "type") "__init__"=some (.val (.builtin "ValueError.__init__")))
  (spB:J8 K (.ref Jg) "__getattribute__"=some (some (.builtin "type.__getattribute__")))
  (Yi:MI K Ib Wy "__init__" "NoWord.__init__" (nW (top 10) 0))
  (y0:HA K Hw "max"=some none)
  (y1:HA K Hw "range"=some none)
  (y2:HA K Hw "tuple"=some none)
  (y3:HA K Hw "len"=some none)
  (y4:HA K Hw "isinstance"=some none)
  (y5:HA K Hw "int"=some none)
  (y6:HA K Hw "bool"=some none)
  (y7:HA K Hw "all"=some none)
  (y8:HA K Hw "list"=some none)
  (y9:HA K Hw "str"=some none)
  (y10:HA K Hw "dict"=some none)
  (Zo:HA K Hw "reversed"=some none)
  (y12:HA K Hw "ValueError"=some none):
  ∃fd:IB,(∀(s:Hi) (v:Hg),MD s fd ⟨[v],[]⟩ [("_law_script",v)])/\∀base:Heap,K.In base->base.Ns Hw mg->FnOk l.prog w K mg base ez 6 fa fd ["_law_script"] (L3.ic K 1 F_law):=by
 have Po:=Ij X G y0;have IQ:=Ij X G y1;have JZ:=Ij X G y2;have KL:=Ij X G y3;have HR:=Ij X G y4;have QF:=Ij X G y5;have OY:=Ij X G y6;have NK:=Ij X G y7;have L5:=Ij X G y8;have Qu:=Ij X G y9;have L8:=Ij X G y10;have LX:=Ij X G Zo;have Lf:=Ij X G y12;refine ZL.law X G WG (by walk_at "ba") fun base fd SG=> ?_;have K1:=h0.Ny (P:=l.prog) (w:=w) (mg:=mg) (base:=base) X G (by walk_at "ba") fun _ z=>oO z;have Kh:=h1.Ny (P:=l.prog) (w:=w) (mg:=mg) (base:=base) X G (by walk_at "ba") fun _ z=>jW z;have LQ:=h2.Ny (P:=l.prog) (w:=w) (mg:=mg) (base:=base) X G (by walk_at "ba") fun _ z=>kT z Kh Po IQ;have Lx:=h3.Ny (P:=l.prog) (w:=w) (mg:=mg) (base:=base) X G (by walk_at "ba") fun _ z=>jQ z IQ;have K7:=h4.Ny (P:=l.prog) (w:=w) (mg:=mg) (base:=base) X G (by walk_at "ba") fun _ z=>iZ z IQ JZ;have K6:=h5.Ny (P:=l.prog) (w:=w) (mg:=mg) (base:=base) X G (by walk_at "ba") fun _ z=>iU z Lx K7 IQ JZ;have KZ:=h6.Ny (P:=l.prog) (w:=w) (mg:=mg) (base:=base) X G (by walk_at "ba") fun _ z=>mV z Kh Po;have Md:=h7.Ny (P:=l.prog) (w:=w) (mg:=mg) (base:=base) X G (by walk_at "ba") fun _ z=>lY z IQ;have Kq:=h8.Ny (P:=l.prog) (w:=w) (mg:=mg) (base:=base) X G (by walk_at "ba") fun _ z=>kK z IQ KL JZ;have MH:=h9.Ny (P:=l.prog) (w:=w) (mg:=mg) (base:=base) X G (by walk_at "ba") fun _ z=>nM z K1 LQ K6 KZ Md Kq IQ JZ;have Lg:=h10.Ny (P:=l.prog) (w:=w) (mg:=mg) (base:=base) X G (by walk_at "ba") fun _ z=>l9 z HR QF OY;have Ly:=h11.Ny (P:=l.prog) (w:=w) (mg:=mg) (base:=base) X G (by walk_at "ba") fun _ z=>jY z Lg HR JZ NK;have Kg:=h12.Ny (P:=l.prog) (w:=w) (mg:=mg) (base:=base) X G (by walk_at "ba") fun _ z=>jX z;have M7:=h13.Ny (P:=l.prog) (w:=w) (mg:=mg) (base:=base) X G (by walk_at "ba") fun _ z=>qS z HR L5 NK Qu;have Li:=WM.Ny (P:=l.prog) (w:=w) (mg:=mg) (base:=base) X G (by walk_at "ba") fun _ z=>js z IQ KL;have Kf:L3.cU l.prog w K mg base 4 "read_strokes" ["book","strokes"] 2 aQ:=ZS.Ny X G (by walk_at "ba") fun _ z=>(j6 z Li L8 KL L5 LX).imp (fun _ _ _ _ h=>L10.oi h);have LH:L3.cU l.prog w K mg base 3 "written" ["book","words"] 2 de:=YR.Ny X G (by walk_at "ba") fun _ z=>(rM z L8).imp (fun _ _ _ _ h=>L10.oi h);have Na:L3.cU l.prog w K mg base 3 "_law_can" ["_law_book_here","_law_strokes_here"] 2 ej:=ZO.Ny X G (by walk_at "ba") fun _ z=>(qK z KL IQ).imp (fun _ _ _ _ h=>L10.oi h);have MG:=ZF.Ny (P:=l.prog) (w:=w) (mg:=mg) (base:=base) X G (by walk_at "ba") fun _ z=>oJ z Kf Na M7 Kg IQ;have okN:MZ K NR=true:=by unfold MZ;rw[lN];exact okN
 have XR:L4.lA K Ib (.ref Jg::[.type "ValueError",.type "Exception",.type "BaseException",.type "object"]):=⟨_,_,_,_,_,_,_,_,_,_,_,_,_,_,_,_,xR⟩;have XB:L4.lA K Jg mB:=⟨_,_,_,_,_,_,_,_,_,_,_,_,_,_,_,_,xB⟩;have LR:L4.Lz K Ib (.ref Jg::[.type "ValueError",.type "Exception",.type "BaseException",.type "object"]):=⟨XR,rfl,gaR,gtR,csR,ZH⟩;have XX:L9.XC K Ib Jg Wy:=⟨⟨_,_,_,_,_,_,_,_,_,_,_,_,_,_,xR,okN,S9⟩,eI,saR⟩;have NV:=IH X G Qy;have Mv:=IH X G OL;have Mx:=IH X G OV;have LB:=IH X G N3;have Nb:=IH X G Pz;have NX:=IH X G QP;have Ni:=IH X G PM;have M8:=IH X G PK;have Ms:=IH X G OS;have Mf:=IH X G MB;have Nd:=IH X G Og;have NS:=fG Rj QK QQ QI;have MC:=fG Rj ON O8 OW;have My:=fG Rj OK O9 Pb;have LA:=fG Rj NT NU NW;have M6:=fG Rj PY PX P0;have NY:=fG Rj QY QT QR;have Nf:=fG Rj Py PR PN;have M5:=fG Rj PF PL P2;have Mw:=fG Rj O0 OP OO;have Nc:HN K (.ref Ib) (.ref Ib)=some true:=xH _;obtain⟨Tn,zI⟩:=Yi.F;obtain⟨_,_,_,_,_,_,_,_,_,rfl,lI,_⟩:=zI.ex;have Ls:mE l.prog w K mg base 1 "_law_kind" ["_law_e"] (oU Ib 4):=h19.Ny (P:=l.prog) (w:=w) (mg:=mg) (base:=base) X G (by walk_at "ba") fun _ z=>AM (j:=4) (by decide) z LR NV Mx Ni M8 Mf Mv LB Ms Nb NX NS My Nf M5 Nc MC LA Mw M6 NY (Dh suV) HR Lf;have oI:=wt (P:=l.prog) (w:=w) (mg:=mg) (base:=base) zI XX Nd Zj fcB spB YQ;have OM:L4.Bs l.prog w K mg base 3 "written" ["book","words"] 2 cL:=YR.W2 (P:=l.prog) (w:=w) (mg:=mg) (base:=base) X G (by walk_at "ba") fun _ z=>(pj z XX lI Yi.i oI (zI.binds (by walk_at "ba")) MB Mf L8).imp (fun _ _ _ _ h=>L10.oi h);have Lu:L3.cU l.prog w K mg base 5 "_law_refused" ["_law_book_here","_law_words"] 2 aV:=ZR.Ny (P:=l.prog) (w:=w) (mg:=mg) (base:=base) X G (by walk_at "ba") fun _ z=>rZ z Ls OM Nd XB ZG XR (by rw[J7,J7,beq_self_eq_true,Lo,KP]) MB LR hdR YQ;exact Dm SG MH LH Ly Kg MG K1 KZ Kq Kf Lu KL L5
end K62
noncomputable def PySem.W.Fast.tw9417582558229841858:Unit:=()
noncomputable def PySem.W.Fast.tw1635209813098696314:Unit:=()
noncomputable def PySem.W.Fast.tw10263426188628169327:Unit:=()
noncomputable def PySem.W.Fast.tw2688762860647603263:Unit:=()
noncomputable def PySem.W.Fast.tw8536034683799278070:Unit:=()
noncomputable def PySem.W.Fast.tw13978718199867552837:Unit:=()
noncomputable def PySem.W.Fast.tw4012057380823343267:Unit:=()
noncomputable def PySem.W.Fast.tw3169799569346568499:Unit:=()
noncomputable def PySem.W.Fast.tw17272550329092473600:Unit:=()
noncomputable def PySem.W.Fast.tw2176915228034613058:Unit:=()
noncomputable def PySem.W.Fast.tw17312696093351566449:Unit:=()
noncomputable def PySem.W.Fast.tw9189102222553688599:Unit:=()
open PySem PySem.W PyProof.Rows
set_option maxRecDepth 100000 in
set_option maxHeartbeats 0 in
theorem PySem.Challenge.cw_chordbed_k62_words_written_and_read_holds : PySem.Challenge.rw_chordbed_k62_words_written_and_read.Holds := by
 w_on;o_law;k_head;(case hw=>w_witness2)
 k_fill
 refine L3.FH (l:=PySem.Challenge.rw_chordbed_k62_words_written_and_read) (n:=63) (k:=6) (x:= "_law_script") (F:=K62.F_law) rfl (by decide) rfl ⟨rfl,by decide,by decide⟩ (fun w h Y=>PySem.W.kIn_of Y) ?F K62.main
 case F=>
  intro w mg fa h KX G UR
  apply K62.all_mk KX G UR
  all_goals walk_at "ki"
