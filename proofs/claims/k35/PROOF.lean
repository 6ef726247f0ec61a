import PyProof.Rows.All
import Wide.All
import OpenK.AllK
import Wide.FinOn
import Lean
import PyProof.EqAt
import PyProof.EqKinds
import PyProof.TupleCall
import KE.KIntText
import KE.KRevSl
import PyProof.Rows.SeqMore
import PyProof.WalkInts
import PyProof.Rows.MinMaxN
import PyProof.ExcInit
import OpenK.KMake
import PyProof.InstStoreFacts
import PyProof.FString2
import PyProof.Rows.FStr
import PyProof.Rows.SetFrom
import PyProof.SeqRoads2
import PyProof.RangeFor
import PyProof.WalksMore
import PyProof.StrBlock2
import PyProof.Rows.SortShell
import PyProof.TupleOfSeq
import KE.KDictList
import KE.KDictOf
import PyProof.IsiH_tuple
import PyProof.Rows.RuleN_abs
import PySem.Challenge.RW_chordbed_k35_whole_step_by_step
set_option Elab.async false
set_option linter.all false
set_option maxRecDepth 100000
open PySem.W renaming Frag->Bn,nsIn->MG,mg_none_of->M0,findIn->M9,emptyDict->Nm,instObj->NP,keepIn->Ol,kia_one->OD,cellsFrom_some->OP,fnOf->OQ,plainGet->OY,hasDictIn->PF,mg_of->PN,lookIn->Qo,plainGet_of->QB,callWith_K->QN,methodObj->QW,isFn->QX,plainOver->QY,takerIn->Rp,makesIn->Rq,codeIn->RA,methodCall_KW->Sz,specialIn->Tt,handedIn->TN,OpenLaw->T8,kitOne->Uq
open PySem renaming Value->L5,wpAny_bind->L6,Addr->L8,Shared->Ma,PyData->Mb,wpAny_pure->Mi,sizeLine->Mq,mainGlobals->Mv,Program->My,NameKind->MK,starEach->ML,Around->MO,Expr->MR,World->MS,Builtin->MU,bootBuiltins->M6,wpAny_truthy_bool->Nj,FuncData->Nk,wpAny_field->Np,wpAny_newObj_type->Nr,mem_of_lookup->NJ,wpAny_seqItems->NK,compareOp->NM,swapsWith->NN,cellsFrom->NQ,binaryOp->NU,wpAny_callSpecial?_slot->Ob,wpAny_call_entry->Oc,sysModules->Oi,Stmt->Oj,wpAny_setField_rec->Om,Scope->OH,wpAny_holding->OU,wpAny_pyIter_list->OV,plainId_quiet->OW,codeAny_builtin->OX,wpAny_Call_Name_kw->OZ,sizeLine_eq->Px,wpAny_letGo->Py,wpAny_passesOwn->PM,IsZip->Ql,call_meets->QP,wpAny_pyIter_tuple->QZ,wpAny_updateSeq_pair->Q9,wpAny_tryCatch->Ra,BindsTo->Rh,wpAny_onRaise->Rx,typeIs_int->RD,wpAny_rule->RF,tupleKind_room_in1->RG,codeAny_mono->RP,Keyword->RQ,ZipApart->RU,PassesOwn->Sj,IsPart->Sm,wpAny_of_eq->SE,Within->SK,wpAny_execs_nil->SM,pushCells_keeps->SN,wpAny_updateSeq->SQ,GenState->S8,CmpOp->S9,Result->Ta,wpAny_binaryOp_repeat_ref->Tv,wpAny_comprehension_free->TQ,Data->Um,Code->Uo,wpAny_typeOf->Up,wpAny_isTrue_Compare1->UY,builtinLookup_eq_fast->U0,codeAny_call_builtin->U9,wpAny_Name->VS,wpAny_Constant_int->VT,wpAny_load->VW,wpAny_call->VX,wpAny_assign_Name->WJ,slot_list_getitem->WK,wpAny_execs_cons->Xe,DictEntry->Xf,noFill_tuple_add->Xi,call->Xk,wpAny_isInstance->Xl,wpAny_pyIter_zip->Xm,typeLookup_type->Yk,Drawn->YW,Model->YX,wpAny_Compare1->YY,Walks->YZ,wpAny_setField->Y6,intBits_le_64->aaU,seq_tuple_add->aaV,call_list_seq->aaW,wpAny_standAt->aaX,wpAny_attempt->aaY,wpAny_newList->aaZ,ItemsOf->aa0
open List renaming length_map->L7,getElem?_eq_some_iff->Md,replicate->Me,getElem?_eq_getElem->Mf,length_append->Mg,mem_cons_of_mem->Mj,getElem?_map->Ml,length_cons->Mm,size_toArray->Mo,mem_cons_self->Mp,map_cons->Ms,lookup_cons->Mu,range->Mz,mem_singleton->MC,append_nil->ME,mem_cons->MH,length_replicate->MJ,getElem?_append_left->MM,getElem?_append_right->MP,map_map->MV,length_range->MW,map_append->MZ,Nodup->M5,mem_append_right->M8,replicate_succ->Na,mem_of_getElem?->Nb,length_set->Nc,mem_map->Nd,getElem?_set->Nf,mem_filter->Ng,mem_append->Nh,append_assoc->Ni,length_take->Nl,not_mem_nil->Nu,getElem?_replicate->NB,nodup_cons->NC,find?_cons->NG,length_nil->NH,mem_range->NO,drop_eq_getElem_cons->NT,flatten_cons->NW,any_eq_true->N2,getElem?_set_self->N7,mem_filterMap->N8,map_nil->N9,drop_eq_nil_of_le->Oa,nil_append->Od,lookup_cons_self->Oh,getElem?_set_ne->Ox,all_eq_true->OB,any_cons->OL,length_singleton->Pd,length_filter_le->Pe,mem_iff_getElem?->Pf,filter_cons->Pj,lookup->Pm,of_mem_zip->Pp,map_congr_left->Pq,foldl->PH,pairwise_cons->PJ,mem_of_find?_eq_some->PY,pairwise_map->PZ,nodup_append->P0,filterMap_cons_none->Qa,filterMap_cons_some->Qb,getElem_mem->Qd,getElem?_cons_succ->Qe,cons_append->Qf,pairwise_lt_range->Qm,foldl_cons->Qp,length->QD,nodup_nil->QE,filterMap_cons->QS,filter_sublist->QT,length_filter_eq_length_iff->Ri,length_drop->Rv,forIn_cons->RM,length_zip->RN,forIn_nil->Sd,perm_ext_iff_of_nodup->Se,length_filterMap_le->SG,getElem?_cons_zero->SR,mem_append_left->Ts,mem_iff_getElem->Tw,set->Tz,mem_of_mem_take->TB,set_cons_zero->T9,set_cons_succ->Ua,filterMap_nil->Ub,map_filterMap->Uc,find?_eq_none->Ud,getElem_range->Ue,take_add_one->Ur,zipIdx_cons->UZ,zipIdx_nil->U8,find?_some->Va,all_cons->VY
open Nat renaming le_of_ble_eq_true->Mc,le_refl->Mh,lt_of_lt_of_le->MA,ne_of_lt->MD,zero_le->MN,le_trans->MQ,lt_irrefl->Nx,ne_of_gt->Ny,lt_trans->O0,le_of_succ_le->P5,lt_succ_of_lt->P6,lt_succ_self->Qi,le_of_lt->Qn,le_succ->QO,lt_of_le_of_lt->Q8,min_le_right->RB,mul_le_mul->So,zero_add->Tb,le_add_right->Vb,le_of_eq->Xh,succ_mul->Xj,sub_self->Xn,max_le->Y7
open Option.some renaming inj->Mw
open Bool renaming false_ne_true->Mx,and_eq_true->MB,and_self->NX,false_or->Pk,and_true->P9,true_or->Qk,or_eq_true->Qr,eq_iff_iff->Qs,false_and->QC,or_eq_false_iff->QF,true_and->Q0,false_eq_true->Q7,or_false->SD
open PyProof.Rows renaming envOfC->M4,slot_tuple_getitem->OJ,callWith_type1->Pa,callWith_builtin1->Yj,kws_cons->Yl,kws_nil->Ym
open Array renaming length_toList->M7,getElem?_toList->S5,toList->VU
open Int renaming toNat_natCast->ND,toNat_of_nonneg->OI,emod_lt_of_pos->OS,emod_nonneg->Pr,le_refl->P8,ofNat->RH,fdiv_eq_ediv_of_nonneg->Sk,toNat->S6,le_antisymm->Vw
open PySem.F renaming slot_dict_values->OC,plainAttrs_dict->OM,type_dict_values->PR,args_tuple_add_2->RT,slot_list_append->RX,type_list_append->RY,entry_tuple_add->Sb,plainAttrs_list->Sf,slot_tuple_add->Sl,slot_dict_pop->SF
open Option renaming isSome_iff_exists->PX,getD_some->P7,none->S4,isSome_some->Tu,toList_none->Tx,isSome_map->TR,getD_none->T7
open List.Pairwise renaming filter->P1,nil->Qq,filterMap->Xo
open List.Perm renaming refl->Rr,swap->abX,nil->ab1
open PySem.PassesOwn renaming never->VZ
open PySem.W.Looks renaming here->Xg
open PySem.Within renaming cons->Yi
open PySem.SeqAt renaming compareEq_reads->Y0,compareNe_reads->Y1,in_list_reads->Y2,in_tuple_reads->Y3,notIn_list_reads->Y4,notIn_tuple_reads->Y5,eqv_refl->Y8
open List.Nodup renaming sublist->aa1
open PySem.IsL renaming update->abW
open List.cons renaming injEq->ab0
namespace L2
open PySem PySem.Spec PyProof.Rows
abbrev bt:=Sum Int Str
noncomputable def tt:bt->L5->Bool
 | .inl k,v=>L5.isInt k v
 | .inr x,v=>L5.isStrOf x v
noncomputable def Lg (w:MS):bt->Int
 | .inl k=>hashInt k
 | .inr x=>hashStr w x
theorem c9:∀{k:bt} {v:L5},tt k v=true->(∃i t,k=Sum.inl i/\v=L5.int i t)\/(∃x t,k=Sum.inr x/\v=L5.str x t)
 | .inl i,v,h=>by obtain⟨t,e⟩:=L5.isInt_shape (k:=i) (v:=v) h;exact .inl ⟨i,t,rfl,e⟩
 | .inr x,v,h=>by obtain⟨t,e⟩:=L5.isStrOf_shape (x:=x) (v:=v) h;exact .inr ⟨x,t,rfl,e⟩
theorem Ao (i:Int) (t:Tok):tt (.inl i) (.int i t)=true:=by simp[tt,L5.isInt]
theorem Ap (x:Str) (t:Tok):tt (.inr x) (.str x t)=true:=by simp[tt,L5.isStrOf]
theorem HK (a b:Int):decide ((Sum.inl a:bt)=Sum.inl b)=(a==b):=by
 by_cases e:a=b
 ·subst e;simp
 ·have h:¬(Sum.inl a:bt)=Sum.inl b:=fun q=>e (Sum.inl.inj q);rw[decide_eq_false h];exact(beq_eq_false_iff_ne.mpr e).symm
theorem Jr (a b:Str):decide ((Sum.inr a:bt)=Sum.inr b)=decide (a=b):=by
 by_cases e:a=b
 ·subst e;simp
 ·have h:¬(Sum.inr a:bt)=Sum.inr b:=fun q=>e (Sum.inr.inj q);rw[decide_eq_false h,decide_eq_false e]
theorem IV (a:Int) (b:Str):decide ((Sum.inl a:bt)=Sum.inr b)=false:=decide_eq_false (fun q=>nomatch q)
theorem IB (a:Str) (b:Int):decide ((Sum.inr a:bt)=Sum.inl b)=false:=decide_eq_false (fun q=>nomatch q)
noncomputable def bZ (prog:My) (w:MS):PySem.KeyKind prog w bt where
 is:=tt
 hash:=Lg w
 inj:=fun v a b ha hb=>by
  rcases c9 ha with⟨i,t,rfl,rfl⟩|⟨x,t,rfl,rfl⟩
  ·rcases c9 hb with⟨j,u,rfl,e⟩|⟨y,u,rfl,e⟩
   ·injection e with e1 _;rw[e1]
   ·exact nomatch e
  ·rcases c9 hb with⟨j,u,rfl,e⟩|⟨y,u,rfl,e⟩
   ·exact nomatch e
   ·injection e with e1 _;rw[e1]
 byValue:=fun k v h=>by rcases c9 h with⟨i,t,rfl,rfl⟩|⟨x,t,rfl,rfl⟩<;>rfl
 pyHash:=fun hv h=>by
  rcases c9 hv with⟨i,t,rfl,rfl⟩|⟨x,t,rfl,rfl⟩
  ·exact wpAny_pyHash_int h
  ·exact wpAny_pyHash_str h
 eqBool:=fun hu hv h=>by
  rcases c9 hu with⟨i,t,rfl,rfl⟩|⟨x,t,rfl,rfl⟩
  ·rcases c9 hv with⟨j,u,rfl,rfl⟩|⟨y,u,rfl,rfl⟩
   ·rw[HK] at h;exact wpAny_eqBool_int h
   ·rw[IV] at h;exact SeqAt.EqAt.int_str i t y u _ _ _ _ h
  ·rcases c9 hv with⟨j,u,rfl,rfl⟩|⟨y,u,rfl,rfl⟩
   ·rw[IB] at h;exact SeqAt.EqAt.str_int x t j u _ _ _ _ h
   ·rw[Jr] at h;exact wpAny_eqBool_str h
 «strs»:=fun k x t v h=>by
  rcases c9 h with⟨i,u,rfl,e⟩|⟨y,u,rfl,e⟩
  ·exact nomatch e
  ·injection e with e1 _
   subst e1;cases v<;>rfl
theorem v5 (prog:My) (w:MS) (i:Int) (t:Tok):(bZ prog w).is (.inl i) (.int i t)=true:=Ao i t
theorem wk (prog:My) (w:MS) (x:Str) (t:Tok):(bZ prog w).is (.inr x) (.str x t)=true:=Ap x t
inductive V where
 |OT|bl (b:Bool)|int (i:Int)|str (x:Str)|WW (b:Array UInt8)|WY (b:UInt64)|ref (a:L8)|ty (n:String)
 deriving DecidableEq
def RelV:V->L5->Prop
 | .OT,u=>u=L5.none
 | .bl b,u=>u=L5.bool b
 | .int i,u=>∃t,u=L5.int i t
 | .str x,u=>∃t,u=L5.str x t
 | .WW b,u=>∃t,u=L5.bytes b t
 | .WY b,u=>∃t,u=L5.float b t
 | .ref a,u=>u=L5.ref a
 | .ty n,u=>u=L5.type n
noncomputable abbrev Vals:List V->List L5->Prop:=Paired RelV
theorem Vals.length {xs:List V} {us:List L5} (r:Vals xs us):xs.length=us.length:=Paired.length r
theorem Vals.get:∀{xs:List V} {us:List L5} {i:Nat} {x:V},Vals xs us->xs[i]? =some x->∃u,us[i]? =some u/\RelV x u
 |_,_,_,_,.nil,e=>by simp at e
 |_,_,0,_,.cons r _,e=>by simp at e;subst e;exact⟨_,rfl,r⟩
 |_,_,i+1,x,.cons _ t,e=>by obtain⟨u,h1,h2⟩:=Vals.get (i:=i) (x:=x) t (by simpa using e);exact⟨u,by simpa using h1,h2⟩
theorem Vals.append:∀{xs ys:List V} {us ws:List L5},Vals xs us->Vals ys ws->Vals (xs++ys) (us++ws)
 |_,_,_,_,.nil,s=>s
 |_,_,_,_,.cons r t,s=> .cons r (Vals.append t s)
theorem Vals.take:∀{xs:List V} {us:List L5} (n:Nat),Vals xs us->Vals (xs.take n) (us.take n)
 |_,_,0,_=> .nil
 |_,_,_+1,.nil=> .nil
 |_,_,n+1,.cons r t=> .cons r (Vals.take n t)
theorem Vals.drop:∀{xs:List V} {us:List L5} (n:Nat),Vals xs us->Vals (xs.drop n) (us.drop n)
 |_,_,0,r=>r
 |_,_,_+1,.nil=> .nil
 |_,_,n+1,.cons _ t=>Vals.drop n t
def QA:Option V->Option L5->Prop
 |some v,some u=>RelV v u
 |none,none=>True
 |_,_=>False
def KV {κ:Type}:List (κ×V)->List (κ×L5)->Prop:=Paired fun(p:κ×V) (q:κ×L5)=>p.1=q.1/\RelV p.2 q.2
noncomputable def kV:bt->V
 | .inl i=> .int i
 | .inr x=> .str x
inductive HO where
 |lst (xs:List V)
 |tup (xs:List V)
 |dK (kvs:List (bt×V))|dT (kvs:List (List bt×V))
 |set (S:Int->Bool) (n:Nat)
 |ins (C dx:L8) (fs:List (Str×V))
 |own (x:L8)
 |xd (fs:List (Str×V))
 |met (f x:L8)
 |ZK (lo hi:Int)
 |frz (o:Obj) (u:HO)
 |We (ps:Array L5)
 |ext (φ:Heap->Prop)
abbrev Hp:=L8->Option HO
noncomputable def bA (H:Hp) (a:L8) (o:HO):Hp:=fun b=>if b=a then some o else H b
theorem aH {H:Hp} {a:L8} {o:HO}:bA H a o a=some o:=by unfold bA;rw[if_pos rfl]
theorem aO {H:Hp} {a b:L8} {o:HO} (h:b≠a):bA H a o b=H b:=by unfold bA;rw[if_neg h]
theorem Kj {H:Hp} {a b:L8} {o u:HO} (h:H a=some o) (h':H b=some u) (d:o≠u):a≠b:=by intro e;subst e;rw[h] at h';exact d (Mw h')
theorem cC {H:Hp} {a b:L8} {o:HO} (h:H a=some o) (h':H b=none):a≠b:=by intro e;subst e;rw[h] at h';cases h'
def Rt (h:Heap) (a:L8) (items:Array L5):Prop:=∃o,h.get? a=some o/\(o.cls= .type "tuple"/\∃n,o.data= .seq items n)/\o.dict=none
theorem Rt.tup {h:Heap} {a:L8} {items:Array L5} (x:Rt h a items):IsTup h a items:=let⟨o,e,c,_⟩:=x;⟨o,e,c⟩
theorem Rt.lt {h:Heap} {a:L8} {items:Array L5} (x:Rt h a items):a<h.objs.size:=let⟨_,e,_⟩:=x;Heap.lt_size e
theorem Rt.new (h:Heap) (xs:Array L5):Rt (h.push {cls:= .type "tuple",data:= .seq xs}) h.objs.size xs:=⟨_,Heap.get?_push_size _ rfl,⟨rfl,_,rfl⟩,rfl⟩
section
variable (P:My) (w:MS)
def ObjOk (H:Hp) (h:Heap) (a:L8):HO->Prop
 | .lst xs=>xs.length<=Mq/\∃(MY:List L5) (n:Nat),Vals xs MY/\h.get? a=some {cls:= .type "list",data:= .seq MY.toArray n}
 | .tup xs=>xs.length<=Mq/\∃MY:List L5,Vals xs MY/\Rt h a MY.toArray
 | .dK kvs=>kvs.length<=Mq/\(a==Oi)=false/\∃vs,KV kvs vs/\h.DictOf (bZ P w) a vs
 | .dT kvs=>kvs.length<=Mq/\(a==Oi)=false/\∃xs:List (List bt×L8×L5),
   Paired (fun(p:List bt×V) (q:List bt×L8×L5)=>p.1=q.1/\H q.2.1=some (.tup (p.1.map kV))/\RelV p.2 q.2.2) kvs xs/\
   ∃o es ep,h.get? a=some o/\o.ExactDict/\o.data= .dict es ep/\es.toList=xs.map (entryOfKey (tupleKind (bZ P w)))/\(xs.map (·.1)).Nodup
 | .set S n=>h.SetOf (intKind P w) a S n
 | .ins C dx fs=>H dx=some (.own a)/\fs.length<=1000/\dx≠a/\h.get? a=some (NP C dx)/\
   ∃mA,h.Ns1 dx mA/\(∀f,QA (fs.lookup f) (mA f))/\SK mA (fs.map (·.1))
 | .own _=>∃o,h.get? a=some o
 | .xd fs=>∃mA,h.Ns1 a mA/\∀f,QA (fs.lookup f) (mA f)
 | .ZK lo hi=>∃t u v,h.get? a=some {cls:= .type "range",data:= .fields #[.int lo t,.int hi u,.int 1 v]}
 | .frz o u=>h.get? a=some o/\ObjOk H h a u
 | .We ps=>h.get? a=some {cls:= .none,data:= .fields ps}
 | .met f x=>h.get? a=some (QW (.ref f) (.ref x))
 | .ext φ=>φ h/\(∃o,h.get? a=some o)/\∀h1 h2:Heap,φ h1->(∀o,h1.get? a=some o->h2.get? a=some o)->φ h2
def QU (H:Hp) (h:Heap):Prop:=∀a o,H a=some o->ObjOk P w H h a o
end
section
variable {P:My} {w:MS} {H H':Hp} {h h':Heap} {a:L8} {o:HO}
theorem ObjOk.lt (x:ObjOk P w H h a o):a<h.objs.size:=by
 cases o with
 |lst xs=>obtain⟨_,_,_,_,e⟩:=x;exact Heap.lt_size e
 |tup xs=>obtain⟨_,_,_,p⟩:=x;exact p.lt
 |dK kvs=>obtain⟨_,_,_,_,o,_,_,e,_⟩:=x;exact Heap.lt_size e
 |dT kvs=>obtain⟨_,_,_,_,o,_,_,e,_⟩:=x;exact Heap.lt_size e
 |set S n=>obtain⟨o,_,_,_,e,_⟩:=x;exact Heap.lt_size e
 |ins C dx fs=>obtain⟨_,_,_,e,_⟩:=x;exact Heap.lt_size e
 |own y=>obtain⟨_,e⟩:=x;exact Heap.lt_size e
 |xd fs=>obtain⟨_,⟨_,_,_,e,_⟩,_⟩:=x;exact Heap.lt_size e
 |ZK lo hi=>obtain⟨_,_,_,e⟩:=x;exact Heap.lt_size e
 |frz ob u=>obtain⟨e,_⟩:=x;exact Heap.lt_size e
 |We ps=>exact Heap.lt_size (show h.get? a=some _ from x)
 |met f y=>exact Heap.lt_size (show h.get? a=some _ from x)
 |ext φ=>obtain⟨_,⟨_,e⟩,_⟩:=x;exact Heap.lt_size e
theorem Paired.Ph {α β:Type} {F G:α->β->Prop}:∀{l₁:List α} {l₂:List β},Paired F l₁ l₂->(∀a b,F a b->G a b)->Paired G l₁ l₂
 |_,_,.nil,_=> .nil
 |_,_,.cons r t,f=> .cons (f _ _ r) (Paired.Ph t f)
theorem ObjOk.To (x:ObjOk P w H h a o) (k:∀b u,(b=a\/H b=some (.own a))->h.get? b=some u->h'.get? b=some u)
  (ho:∀b,H b=some (.own a)->H' b=some (.own a)) (ht:∀b xs,H b=some (.tup xs)->H' b=some (.tup xs)):ObjOk P w H' h' a o:=by
 induction o with
 |lst xs=>obtain⟨z,MY,n,r,e⟩:=x;exact⟨z,MY,n,r,k _ _ (.inl rfl) e⟩
 |tup xs=>obtain⟨z,MY,r,ob,e,c⟩:=x;exact⟨z,MY,r,ob,k _ _ (.inl rfl) e,c⟩
 |dK kvs=>obtain⟨z,y,vs,r,ob,es,ep,e,c⟩:=x;exact⟨z,y,vs,r,ob,es,ep,k _ _ (.inl rfl) e,c⟩
 |dT kvs=>obtain⟨z,y,xs,r,ob,es,ep,e,c⟩:=x;exact⟨z,y,xs,Paired.Ph r fun p q z=>⟨z.1,ht _ _ z.2.1,z.2.2⟩,ob,es,ep,k _ _ (.inl rfl) e,c⟩
 |set S n=>obtain⟨ob,es,ep,t,e,c⟩:=x;exact⟨ob,es,ep,t,k _ _ (.inl rfl) e,c⟩
 |ins C dx fs=>obtain⟨d,z,ne,e,mA,⟨od,es,ep,e2,c⟩,r⟩:=x;exact⟨ho _ d,z,ne,k _ _ (.inl rfl) e,mA,⟨od,es,ep,k _ _ (.inr d) e2,c⟩,r⟩
 |own y=>obtain⟨ob,e⟩:=x;exact⟨ob,k _ _ (.inl rfl) e⟩
 |xd fs=>obtain⟨mA,⟨od,es,ep,e,c⟩,r⟩:=x;exact⟨mA,⟨od,es,ep,k _ _ (.inl rfl) e,c⟩,r⟩
 |ZK lo hi=>obtain⟨t,u,v,e⟩:=x;exact⟨t,u,v,k _ _ (.inl rfl) e⟩
 |frz ob u ih=>obtain⟨e,q⟩:=x;exact⟨k _ _ (.inl rfl) e,ih q⟩
 |We ps=>have e:h.get? a=some {cls:= .none,data:= .fields ps}:=x;show h'.get? a=some {cls:= .none,data:= .fields ps};exact k a _ (.inl rfl) e
 |met f y=>have e:h.get? a=some (QW (.ref f) (.ref y)):=x;show h'.get? a=some (QW (.ref f) (.ref y));exact k a _ (.inl rfl) e
 |ext φ=>obtain⟨p,⟨o,e⟩,st⟩:=x;exact⟨st _ _ p fun o q=>k _ _ (.inl rfl) q,⟨o,k _ _ (.inl rfl) e⟩,st⟩
theorem QU.lt (x:QU P w H h) (e:H a=some o):a<h.objs.size:=(x a o e).lt
theorem QU.fresh (x:QU P w H h) (e:h.objs.size<=a):H a=none:=by
 cases q:H a with
 |none=>rfl
 |some u=>exact absurd (MA (x.lt q) e) (Nx _)
theorem QU.kept (x:QU P w H h) (k:∀b u,h.get? b=some u->h'.get? b=some u):QU P w H h':=fun a o e=>
 (x a o e).To (fun b u _ q=>k b u q) (fun _ q=>q) fun _ _ q=>q
theorem QU.laid (x:QU P w H h) (k:∀b u,h.get? b=some u->h'.get? b=some u) (hp:h.objs.size<=a) (new:ObjOk P w (bA H a o) h' a o):QU P w (bA H a o) h':=fun b u e=>by
 have hn:=x.fresh hp;by_cases hb:b=a
 ·subst hb;rw[aH] at e;cases e;exact new
 ·rw[aO hb] at e;exact(x b u e).To (fun c v _ q=>k c v q) (fun c q=>by rw[aO (cC q hn)];exact q) fun c xs q=>by rw[aO (cC q hn)];exact q
end
def Rd (H:Hp) (a:L8) (u:HO):Prop:=H a=some u\/∃o,H a=some (.frz o u)
theorem Rd.ok {P:My} {w:MS} {H:Hp} {h:Heap} {a:L8} {u:HO} (r:Rd H a u) (x:QU P w H h):ObjOk P w H h a u:=by
 rcases r with r|⟨o,r⟩
 ·exact x a u r
 ·obtain⟨_,q⟩:=x a _ r;exact q
def KC:Option HO->Prop
 |some (.lst _)=>True
 |some (.dK _)=>True
 |some (.dT _)=>True
 |some (.set _ _)=>True
 |some (.ins _ _ _)=>True
 |some (.ext _)=>True
 |_=>False
section
variable {P:My} {w:MS} {H:Hp} {h h':Heap} {x e:L8} {o':HO}
theorem QU.write (ok:QU P w H h) (mu:KC (H x)) (he:e=x\/H e=some (.own x)) (k:∀b u,b≠e->h.get? b=some u->h'.get? b=some u) (W7:∃u,h'.get? e=some u)
  (new:ObjOk P w (bA H x o') h' x o'):QU P w (bA H x o') h':=fun b u q=>by
 have XO:∀c y,H c=some (.own y)->c≠x:=fun c y r z=>by subst z;rw[r] at mu;exact mu
 have Zg:∀c xs,H c=some (.tup xs)->c≠x:=fun c xs r z=>by subst z;rw[r] at mu;exact mu
 by_cases hb:b=x
 ·subst hb;rw[aH] at q;cases q;exact new
 ·rw[aO hb] at q
  by_cases Wn:b=e
  ·have q':H b=some (.own x):=by
    rcases he with z|z
    ·exact absurd (Wn.trans z) hb
    ·rw[Wn];exact z
   rw[q] at q';cases q';obtain⟨v,hv⟩:=W7;exact⟨v,by rw[Wn];exact hv⟩
  ·refine(ok b u q).To (fun c v hc r=>k c v ?_ r) (fun c r=>by rw[aO (XO c b r)];exact r) fun c xs r=>by rw[aO (Zg c xs r)];exact r
   rcases hc with rfl|hc
   ·exact Wn
   ·rintro rfl
    rcases he with z|z
    ·exact XO c b hc z
    ·rw[hc] at z;cases z;exact hb rfl
end
structure Un (fs ex:List L8) (H H':Hp) (h h':Heap):Prop where
 keep:∀b o,h.get? b=some o->H b=none->b∉fs->b∉ex->h'.get? b=some o
 slot:∀b o,h.get? b=some o->H b=none->b∈fs->b∉ex->∃sl,h'.get? b=some {o with slots:=sl}
 free:∀b o,h.get? b=some o->H b=none->b∉ex->H' b=none
 there:∀b o,h.get? b=some o->b∉ex->∃o',h'.get? b=some o'
 SY:∀b xs,H b=some (.tup xs)->H' b=some (.tup xs)
 Ss:∀b o u,H b=some (.frz o u)->H' b=some (.frz o u)
 S2:∀b ps,H b=some (.We ps)->∃more,H' b=some (.We (ps++more))
section
variable {fs fs' ex ex':List L8} {H H1 H2:Hp} {h h1 h2 h':Heap} {a x e:L8} {o:HO}
theorem Un.any (u:Un fs ex H H1 h h1) {b:L8} {ob:Obj} (q:h.get? b=some ob) (n:H b=none) (hx:b∉ex):∃sl,h1.get? b=some {ob with slots:=sl}:=by
 by_cases hb:b∈fs
 ·exact u.slot b ob q n hb hx
 ·exact⟨ob.slots,u.keep b ob q n hb hx⟩
theorem Un.kept (k:∀b u,h.get? b=some u->h'.get? b=some u):Un fs ex H H h h':=
 ⟨fun b ob q _ _ _=>k b ob q,fun b ob q _ _ _=>⟨ob.slots,k b ob q⟩,fun _ _ _ n _=>n,fun b ob q _=>⟨ob,k b ob q⟩,fun _ _ q=>q,fun _ _ _ q=>q,fun _ ps q=>⟨#[],by rw[q];simp⟩⟩
theorem Un.refl:Un fs ex H H h h:=Un.kept fun _ _ q=>q
theorem Un.laid (k:∀b u,h.get? b=some u->h'.get? b=some u) (hp:h.objs.size<=a) (hn:H a=none):Un fs ex H (bA H a o) h h' where
 keep:=fun b u q _ _ _=>k b u q
 slot:=fun b u q _ _ _=>⟨u.slots,k b u q⟩
 free:=fun b u q n _=>by rw[aO (MD (MA (Heap.lt_size q) hp))];exact n
 there:=fun b u q _=>⟨u,k b u q⟩
 SY:=fun b xs q=>by rw[aO (cC q hn)];exact q
 Ss:=fun b u xs q=>by rw[aO (cC q hn)];exact q
 S2:=fun b ps q=>⟨#[],by rw[aO (cC q hn),q];simp⟩
theorem Un.write (mu:KC (H x)) (he:e=x\/H e=some (.own x)) (k:∀b u,b≠e->h.get? b=some u->h'.get? b=some u) (W7:∃u,h'.get? e=some u):Un fs ex H (bA H x o) h h':=by
 have hx:∀b,H b=none->b≠x:=fun b n z=>by subst z;rw[n] at mu;exact mu
 have hb:∀b,H b=none->b≠e:=fun b n z=>by
  subst z;rcases he with r|r
  ·exact hx b n r
  ·rw[n] at r;cases r
 have hm:∀b u,H b=some u->¬KC (some u)->b≠x:=fun b u q nm z=>by subst z;rw[q] at mu;exact nm mu
 refine⟨fun b u q n _ _=>k b u (hb b n) q,fun b u q n _ _=>⟨u.slots,k b u (hb b n) q⟩,fun b u q n _=>by rw[aO (hx b n)];exact n,fun b u q _=> ?_,
  fun b xs q=>by rw[aO (hm b _ q fun z=>z)];exact q,fun b u xs q=>by rw[aO (hm b _ q fun z=>z)];exact q,fun b ps q=>⟨#[],by rw[aO (hm b _ q fun z=>z),q];simp⟩⟩
 by_cases Wn:b=e
 ·subst Wn;exact W7
 ·exact⟨u,k b u Wn q⟩
end
noncomputable def K5 (h:Heap) (H:Hp):List L8:=(Mz h.objs.size).filter fun a=>(H a).isSome
noncomputable def uv (h:Heap) (H:Hp):Heap:=PySem.W.hideAll h (K5 h H)
theorem Az (h:Heap) (H:Hp):(uv h H).objs.size=h.objs.size:=PySem.W.hideAll_size _ _
theorem CL {h:Heap} {H:Hp} {b:L8} {o:Obj} (e:h.get? b=some o) (n:H b=none):(uv h H).get? b=some o:=
 PySem.W.hideAll_get _ e fun hm=>by have q:(H b).isSome=true:=(Ng.mp hm).2;rw[n] at q;simp at q
theorem FW {h:Heap} {H:Hp} {b:L8} {o:Obj} (e:(uv h H).get? b=some o):h.get? b=some o/\H b=none:=by
 have e':h.get? b=some o:=PySem.W.of_hideAll (K5 h H) e;refine⟨e',?_⟩;cases q:H b with
 |none=>rfl
 |some x=>have hm:b∈K5 h H:=Ng.mpr ⟨NO.mpr (Heap.lt_size e'),by simp[q]⟩;have z:(uv h H).get? b=none:=PySem.W.hideAll_none (K5 h H) hm;rw[z] at e;cases e
structure Mod (K:Bn) (mg:Str->Option L5) (base:Heap):Prop where
 Xy:K.In base
 glob:base.Ns Mv mg
 blt:∃mb,base.Ns builtinsNs mb/\∀x:Str,x≠ "__name__"->mb x=M6 x
 nolimit:base.NoLimit
structure Cx where
 prog:My
 w:MS
 K:Bn
 mg:Str->Option L5
 base:Heap
 A:MO
 N:List Str
 s₀:Ma
 H₀:Hp
 env:Env
 outer:List Env
 stack:List Env
 ex:List L8
 fn:Str->Bool
 calm:Bool
 pn:List (L8×Obj)
 xe:L5->Ma->Prop
noncomputable def A0 (l:List Env):List L8:=l.filterMap (·.frame)
noncomputable abbrev Cx.fs (X:Cx):List L8:=A0 X.outer
def Lq (sc:OH) (x:Str):Prop:=sc.names.lookup x=some .local\/sc.names.lookup x=some .cell\/sc.names.lookup x=some .free
def KW (sc:OH) (x:Str):Prop:=sc.names.lookup x=some .local\/sc.names.lookup x=some .cell
def Lb (env:Env) (h:Heap) (m:Str->Option L5) (x:Str) (u:L5):Prop:=
 (env.kindOf x=some .local/\m x=some u)\/((env.kindOf x=some .cell\/env.kindOf x=some .free)/\∃c,env.cells.lookup x=some c/\h.IsCell c (some u))
structure Cx.Ok (X:Cx):Prop where
 mod:Mod X.K X.mg X.base
 kind:X.env.scope.kind= .function
 glob:X.env.globals=Mv
 blt:X.env.builtins=builtinsNs
 above:X.s₀.heap.objs.size<=X.env.locals
 inj:∀x y c,X.env.cells.lookup x=some c->X.env.cells.lookup y=some c->x=y
 has:∀x,(X.env.kindOf x=some .cell\/X.env.kindOf x=some .free)->∃c,X.env.cells.lookup x=some c
 W2:∀x c,X.fn x=true->X.env.cells.lookup x=some c->X.s₀.heap.objs.size<=c
 hd:X.calm=true->X.A.handled=none
 frames:X.A.frames=some X.stack
 XT:X.stack=X.outer\/(X.stack=X.env::X.outer/\X.env.frame=some X.env.locals)
 XS:∀b∈X.ex,b≠X.env.locals/\∀x c,X.env.cells.lookup x=some c->c≠b
 bs:∀b o,X.base.get? b=some o->X.s₀.heap.get? b=some o/\X.H₀ b=none
 U1:X.base.objs.size<=X.s₀.heap.objs.size
 TZ:∀b o,X.base.get? b=some o->b∉X.ex
 TX:∀b∈X.ex,b∉X.fs
 Rb:X.s₀.heap.FunFrames X.base X.outer
 VH:∀b∈X.fs,X.H₀ b=none
structure Inv (X:Cx) (pins:List (L8×Obj)) (σ:List (Option V)) (H:Hp) (s:Ma):Prop where
 ok:X.Ok
 os:s.os=X.s₀.os
 bare:AllBare s.gens
 base:Un X.fs X.ex X.H₀ H X.s₀.heap s.heap
 loc:∃m,s.heap.Ns X.env.locals m/\∀(i:Nat) (x:Str) (v:V),X.N[i]? =some x->σ[i]? =some (some v)->Lq X.env.scope x->∃u,RelV v u/\Lb X.env s.heap m x u
 cell:∀x c,X.env.cells.lookup x=some c->∃v,s.heap.IsCell c v
 free:H X.env.locals=none
 QM:∀x c,X.env.cells.lookup x=some c->H c=none
 pin:∀p∈X.pn++pins,s.heap.get? p.1=some p.2/\H p.1=none/\p.1≠X.env.locals/\p.1∉X.fs/\∀v,p.2.data≠ .cell v
 Nw:QU X.prog X.w H s.heap
 len:σ.length=X.N.length
section
variable {X:Cx} {pins:List (L8×Obj)} {σ:List (Option V)} {H H':Hp} {s:Ma} {h':Heap}
theorem Cx.Ok.Zs (ok:X.Ok) {b:L8} {o:Obj} (e:X.base.get? b=some o):b∉X.fs:=fun hb=>by have:=(ok.Rb.mem hb).1;rw[e] at this;cases this
theorem Inv.bs (I:Inv X pins σ H s):∀b o,X.base.get? b=some o->s.heap.get? b=some o/\H b=none:=fun b o e=>
 ⟨I.base.keep b o (I.ok.bs b o e).1 (I.ok.bs b o e).2 (I.ok.Zs e) (I.ok.TZ b o e),I.base.free b o (I.ok.bs b o e).1 (I.ok.bs b o e).2 (I.ok.TZ b o e)⟩
theorem Inv.bk (I:Inv X pins σ H s):∀b o,X.base.get? b=some o->s.heap.get? b=some o:=fun b o e=>(I.bs b o e).1
theorem Inv.mod (I:Inv X pins σ H s):Mod X.K X.mg X.base:=I.ok.mod
theorem Inv.RO (I:Inv X pins σ H s):X.K.In s.heap:=I.ok.mod.Xy.keeps I.bk
theorem Inv.lt (I:Inv X pins σ H s):X.env.locals<s.heap.objs.size:=let⟨_,hn,_⟩:=I.loc;hn.lt
theorem Inv.sz (I:Inv X pins σ H s):X.s₀.heap.objs.size<=s.heap.objs.size:=MQ I.ok.above (Qn I.lt)
theorem Inv.aax (I:Inv X pins σ H s) {a:L8} (h:s.heap.objs.size<=a):a∉X.fs:=fun hb=>by obtain⟨_,o,ho,_⟩:=I.ok.Rb.mem hb;exact absurd (MA (Heap.lt_size ho) (MQ I.sz h)) (Nx _)
theorem Inv.Wo (I:Inv X pins σ H s):∀x c,X.env.cells.lookup x=some c->c≠X.env.locals:=fun x c e z=>by obtain⟨v,o,ho,hd⟩:=I.cell x c e;obtain⟨m,⟨o',es,ep,Ve,T5,_⟩,_⟩:=I.loc;rw[z,Ve] at ho;cases ho;rw[T5] at hd;cases hd
theorem Inv.Rb (I:Inv X pins σ H s):s.heap.FunFrames X.base X.outer:=by
 have all:∀(l:List Env),(∀b∈A0 l,b∈X.fs)->X.s₀.heap.FunFrames X.base l->s.heap.FunFrames X.base l:=by
  intro l
  induction l with
  |nil=>intro _ _;trivial
  |cons env r ih=>intro hs hl;obtain⟨hk,⟨L,o,hf,hn,ho,hd⟩,hr⟩:=hl;have hL:L∈X.fs:=hs L (by unfold A0;rw[QS,hf];exact Mp);obtain⟨sl,e⟩:=I.base.slot L o ho (I.ok.VH L hL) hL fun z=>I.ok.TX L z hL;exact⟨hk,⟨L,_,hf,hn,e,hd⟩,ih (fun b hb=>hs b (by unfold A0;rw[QS,hf];exact Mj _ hb)) hr⟩
 exact all X.outer (fun _ hb=>hb) I.ok.Rb
theorem Inv.stack (I:Inv X pins σ H s):s.heap.FunFrames X.base X.stack:=by
 rcases I.ok.XT with e|⟨e,hf⟩
 ·rw[e];exact I.Rb
 ·rw[e];obtain⟨m,hn,_⟩:=I.loc;refine .cons (by rw[I.ok.kind];decide) hf hn ?_ I.Rb;exact Heap.get?_none_of_le (MQ I.ok.U1 I.ok.above)
theorem Inv.Ti (I:Inv X pins σ H s):∀b∈A0 X.stack,b∈X.env.locals::X.fs:=fun b hb=>by
 rcases I.ok.XT with e|⟨e,hf⟩
 ·rw[e] at hb;exact Mj _ hb
 ·rw[e] at hb;unfold A0 at hb;rw[QS,hf] at hb;exact hb
theorem Inv.TH (I:Inv X pins σ H s):∀b∈A0 X.stack,H b=none:=fun b hb=>by
 rcases MH.mp (I.Ti b hb) with e|hb
 ·rw[e];exact I.free
 ·obtain⟨_,o,ho,_⟩:=I.ok.Rb.mem hb;exact I.base.free b o ho (I.ok.VH b hb) fun z=>I.ok.TX b z hb
theorem Inv.step {g':Array S8} {t':Nat} {d':YW} {ch:List L8} (I:Inv X pins σ H s)
  (U4:∀b∈ch,(b∈X.ex\/X.s₀.heap.objs.size<=b)/\b≠X.env.locals/\(∀x c,X.env.cells.lookup x=some c->c≠b)/\∀p∈X.pn++pins,p.1≠b)
  (keep:∀b o,b≠X.env.locals->b∉X.fs->b∉ch->s.heap.get? b=some o->H b=none->h'.get? b=some o)
  (slot:∀b o,b≠X.env.locals->b∈X.fs->b∉ch->s.heap.get? b=some o->H b=none->∃sl,h'.get? b=some {o with slots:=sl}) (free:∀b o,b∉ch->s.heap.get? b=some o->H b=none->H' b=none)
  (there:∀b o,b∉ch->s.heap.get? b=some o->∃o',h'.get? b=some o')
  (SY:∀b xs,H b=some (.tup xs)->H' b=some (.tup xs)) (Ss:∀b o u,H b=some (.frz o u)->H' b=some (.frz o u)) (S2:∀b ps,H b=some (.We ps)->∃more,H' b=some (.We (ps++more)))
  (ns:∀m,s.heap.Ns X.env.locals m->h'.Ns X.env.locals m) (Nw:QU X.prog X.w H' h') (hg:AllBare g'):
  Inv X pins σ H' {s with heap:=h',gens:=g',drawn:=d',toks:=t'}:=by
 have neL:∀b o,X.s₀.heap.get? b=some o->b≠X.env.locals:=fun b o e=>MD (MA (Heap.lt_size e) I.ok.above);have Yq:∀b o,X.s₀.heap.get? b=some o->b∉X.ex->b∉ch:=fun b o e hx hb=>by
  rcases(U4 b hb).1 with z|z
  ·exact hx z
  ·exact absurd (MA (Heap.lt_size e) z) (Nx _)
 have cellK:∀x c,X.env.cells.lookup x=some c->∀v,s.heap.IsCell c v->h'.IsCell c v:=fun x c e v ⟨o,ho,hd⟩=>by
  have Uw:c∉ch:=fun z=>(U4 c z).2.2.1 x c e rfl;by_cases hc:c∈X.fs
  ·obtain⟨sl,q⟩:=slot c o (I.Wo x c e) hc Uw ho (I.QM x c e);exact⟨_,q,hd⟩
  ·exact⟨o,keep c o (I.Wo x c e) hc Uw ho (I.QM x c e),hd⟩
 refine⟨I.ok,I.os,hg,⟨fun b o e n hb hx=> ?_,fun b o e n hb hx=> ?_,fun b o e n hx=> ?_,fun b o e hx=> ?_,fun b xs e=>SY b xs (I.base.SY b xs e),fun b o xs e=>Ss b o xs (I.base.Ss b o xs e),fun b ps e=> ?_⟩,?_,fun x c e=> ?_,?_,fun x c e=> ?_,fun p hp=> ?_,Nw,I.len⟩
 ·exact keep b o (neL b o e) hb (Yq b o e hx) (I.base.keep b o e n hb hx) (I.base.free b o e n hx)
 ·obtain⟨sl,e1⟩:=I.base.slot b o e n hb hx;obtain⟨sl',e2⟩:=slot b _ (neL b o e) hb (Yq b o e hx) e1 (I.base.free b o e n hx);exact⟨sl',e2⟩
 ·obtain⟨o',e1⟩:=I.base.there b o e hx;exact free b o' (Yq b o e hx) e1 (I.base.free b o e n hx)
 ·obtain⟨o',e1⟩:=I.base.there b o e hx;exact there b o' (Yq b o e hx) e1
 ·obtain⟨m1,e1⟩:=I.base.S2 b ps e;obtain⟨m2,e2⟩:=S2 b _ e1;exact⟨m1++m2,by rw[e2,Array.append_assoc]⟩
 ·obtain⟨m,hn,hl⟩:=I.loc
  refine⟨m,ns m hn,fun i x v e1 e2 e3=> ?_⟩;obtain⟨u,r,l⟩:=hl i x v e1 e2 e3;refine⟨u,r,?_⟩;rcases l with l|⟨k,c,e,z⟩
  ·exact .inl l
  ·exact .inr ⟨k,c,e,cellK x c e _ z⟩
 ·obtain⟨v,z⟩:=I.cell x c e;exact⟨v,cellK x c e v z⟩
 ·obtain⟨m,⟨o,_,_,ho,_⟩,_⟩:=I.loc;exact free _ o (fun z=>(U4 _ z).2.1 rfl) ho I.free
 ·obtain⟨v,o,ho,hd⟩:=I.cell x c e;exact free c o (fun z=>(U4 c z).2.2.1 x c e rfl) ho (I.QM x c e)
 ·obtain⟨e,n,ne,nf,d⟩:=I.pin p hp;have Uw:p.1∉ch:=fun z=>(U4 p.1 z).2.2.2 p hp rfl;exact⟨keep p.1 p.2 ne nf Uw e n,free p.1 p.2 Uw e n,ne,nf,d⟩
theorem Inv.un {t':Nat} (I:Inv X pins σ H s) (u:Un X.fs [] H H' s.heap h') (Nw:QU X.prog X.w H' h'):Inv X pins σ H' {s with heap:=h',toks:=t'}:=by obtain⟨m,⟨o,es,ep,ho,r⟩,_⟩:=id I.loc;obtain⟨sl,hL⟩:=u.any ho I.free (by simp);exact I.step (g':=s.gens) (d':=s.drawn) (ch:=[]) (fun _ z=>nomatch z) (fun b o _ hb _ e n=>u.keep b o e n hb (by simp)) (fun b o _ hb _ e n=>u.slot b o e n hb (by simp)) (fun b o _ e n=>u.free b o e n (by simp)) (fun b o _ e=>u.there b o e (by simp)) u.SY u.Ss u.S2 (fun m' hm=>by obtain⟨o',Wh,Ul,Ve,r'⟩:=hm;rw[ho] at Ve;cases Ve;exact⟨_,Wh,Ul,hL,r'⟩) Nw I.bare
theorem Inv.call {g':Array S8} {t':Nat} {d':YW} {ch:List L8} (I:Inv X pins σ H s) (u:Un (A0 X.stack) ch H H' s.heap h') (Nw:QU X.prog X.w H' h') (hg:AllBare g')
  (U4:∀b∈ch,(b∈X.ex\/X.s₀.heap.objs.size<=b)/\b≠X.env.locals/\(∀x c,X.env.cells.lookup x=some c->c≠b)/\∀p∈X.pn++pins,p.1≠b):
  Inv X pins σ H' {s with heap:=h',gens:=g',drawn:=d',toks:=t'}:=by
 obtain⟨m,⟨o,es,ep,ho,r⟩,_⟩:=id I.loc;obtain⟨sl,hL⟩:=u.any ho I.free fun z=>(U4 _ z).2.1 rfl;exact I.step (ch:=ch) U4 (fun b o hL hb hc e n=>u.keep b o e n (fun z=>(MH.mp (I.Ti b z)).elim hL hb) hc) (fun b o _ _ hc e n=>u.any e n hc) (fun b o hc e n=>u.free b o e n hc) (fun b o hc e=>u.there b o e hc) u.SY u.Ss u.S2 (fun m' hm=>by obtain⟨o',Wh,Ul,Ve,r'⟩:=hm;rw[ho] at Ve;cases Ve;exact⟨_,Wh,Ul,hL,r'⟩) Nw hg
theorem Inv.turned {t':Nat} {it:L8} (I:Inv X pins σ H s) (k:∀b o,b≠it->s.heap.get? b=some o->h'.get? b=some o) (hn:H it=none) (hL:it≠X.env.locals)
  (h1:it∈X.ex\/X.s₀.heap.objs.size<=it) (h2:∀x c,X.env.cells.lookup x=some c->c≠it) (h3:∀p∈X.pn++pins,p.1≠it):Inv X pins σ H {s with heap:=h',toks:=t'}:=by
 have nit:∀b u,H b=some u->b≠it:=fun b u e z=>by rw[z,hn] at e;cases e
 refine I.step (g':=s.gens) (d':=s.drawn) (ch:=[it]) (fun b hb=> ?_) (fun b o _ _ hc e _=>k b o (fun z=>hc (by simp[z])) e) (fun b o _ _ hc e _=>⟨o.slots,k b o (fun z=>hc (by simp[z])) e⟩) (fun _ _ _ _ n=>n)
  (fun b o hc e=>⟨o,k b o (fun z=>hc (by simp[z])) e⟩) (fun _ _ e=>e) (fun _ _ _ e=>e) (fun b ps e=>⟨#[],by rw[e];simp⟩) (fun m hm=> ?_) (fun b u e=> ?_) I.bare
 ·have e:b=it:=by simpa using hb
  subst e;exact⟨h1,hL,h2,h3⟩
 ·obtain⟨o,es,ep,ho,r⟩:=hm;exact⟨o,es,ep,k _ o (Ne.symm hL) ho,r⟩
 ·refine(I.Nw b u e).To (fun c v hc q=>k c v ?_ q) (fun _ q=>q) fun _ _ q=>q
  rcases hc with z|z
  ·rw[z];exact nit b u e
  ·exact nit c _ z
theorem Inv.tok (I:Inv X pins σ H s) (t:Nat):Inv X pins σ H {s with toks:=t}:=I.un (h':=s.heap) (t':=t) Un.refl I.Nw
theorem Inv.kept {t':Nat} (I:Inv X pins σ H s) (k:∀b u,s.heap.get? b=some u->h'.get? b=some u):Inv X pins σ H {s with heap:=h',toks:=t'}:=I.un (Un.kept k) (I.Nw.kept k)
theorem Inv.laid {a:L8} {o:HO} {t':Nat} (I:Inv X pins σ H s) (k:∀b u,s.heap.get? b=some u->h'.get? b=some u) (hp:s.heap.objs.size<=a) (new:ObjOk X.prog X.w (bA H a o) h' a o):
  Inv X pins σ (bA H a o) {s with heap:=h',toks:=t'}:=I.un (Un.laid k hp (I.Nw.fresh hp)) (I.Nw.laid k hp new)
theorem Inv.write {x e:L8} {o:HO} {t':Nat} (I:Inv X pins σ H s) (mu:KC (H x)) (he:e=x\/H e=some (.own x)) (k:∀b u,b≠e->s.heap.get? b=some u->h'.get? b=some u) (W7:∃u,h'.get? e=some u)
  (new:ObjOk X.prog X.w (bA H x o) h' x o):Inv X pins σ (bA H x o) {s with heap:=h',toks:=t'}:=I.un (Un.write mu he k W7) (I.Nw.write mu he k W7 new)
theorem Inv.TC {VG:List (L8×Obj)} (I:Inv X pins σ H s) (h:∀p∈VG,s.heap.get? p.1=some p.2/\H p.1=none/\p.1≠X.env.locals/\p.1∉X.fs/\∀v,p.2.data≠ .cell v):Inv X VG σ H s:=
 ⟨I.ok,I.os,I.bare,I.base,I.loc,I.cell,I.free,I.QM,fun p hp=>(Nh.mp hp).elim (fun z=>I.pin p (Ts _ z)) (h p),I.Nw,I.len⟩
theorem vZ {N:List Str} (hN:N.Nodup) {i j:Nat} {x:Str} (a:N[i]? =some x) (b:N[j]? =some x):i=j:=by obtain⟨h1,e1⟩:=Md.mp a;obtain⟨h2,e2⟩:=Md.mp b;exact(List.getElem_inj hN).mp (e1.trans e2.symm)
theorem sr {M:YX} {A:MO} {E:L5->Ma->Prop} {i:Nat} {x:Str} {v:V} {u:L5} {Q:Unit->Ma->Prop} (I:Inv X pins σ H s) (hN:X.N.Nodup) (hi:X.N[i]? =some x) (hx:KW X.env.scope x) (r:RelV v u)
  (h:∀s',Inv X pins (σ.set i (some v)) H s'->(∃a,Heap.SameBut a s.heap s'.heap/\(a=X.env.locals\/X.env.cells.lookup x=some a))->Q () s') (hf:X.fn x=true\/X.env.scope.names.lookup x=some .local:=by first|exact .inl rfl|exact .inr rfl|assumption):wpAny M A (storeName X.env x u) Q E s:=by
 obtain⟨m,hn,hl⟩:=id I.loc;have ZX:(X.env.scope.kind== .class||(X.env.scope.kind== .module&&X.env.locals !=X.env.globals))=false:=by rw[I.ok.kind];rfl
 have hiσ:i<σ.length:=by rw[I.len];exact(Md.mp hi).1
 have Wo:=I.Wo;have tracked:∀{a:L8} {h':Heap},(∃o,s.heap.get? a=some o/\H a=none)->Heap.SameBut a s.heap h'->QU X.prog X.w H h':=fun{a h'} ha hs b ob e=>by
  obtain⟨_,_,VI⟩:=ha;refine(I.Nw b ob e).To (fun c w' hc q=>(hs.2 c ?_).trans q) (fun _ q=>q) fun _ _ q=>q;rintro rfl;rcases hc with rfl|hc
  ·rw[VI] at e;cases e
  ·rw[VI] at hc;cases hc
 rcases hx with hk|hk
 ·refine wpAny_storeName_local hk hn (fun h' UL hs=> ?_) ZX
  obtain⟨oL,_,_,hoL,_⟩:=id hn;refine h _ ⟨I.ok,I.os,I.bare,⟨fun b o e n hb hx=> ?_,fun b o e n hb hx=> ?_,I.base.free,fun b o e hx=> ?_,I.base.SY,I.base.Ss,I.base.S2⟩,⟨_,UL,fun j y v' e1 e2 e3=> ?_⟩,fun y c e=> ?_,I.free,I.QM,fun p hp=> ?_,tracked ⟨oL,hoL,I.free⟩ hs,by simpa using I.len⟩ ⟨_,hs,.inl rfl⟩
  ·exact(hs.2 b (MD (MA (Heap.lt_size e) I.ok.above))).trans (I.base.keep b o e n hb hx)
  ·obtain⟨sl,e1⟩:=I.base.slot b o e n hb hx;exact⟨sl,(hs.2 b (MD (MA (Heap.lt_size e) I.ok.above))).trans e1⟩
  ·obtain⟨o',e1⟩:=I.base.there b o e hx;exact⟨o',(hs.2 b (MD (MA (Heap.lt_size e) I.ok.above))).trans e1⟩
  ·by_cases hj:j=i
   ·subst hj;rw[hi] at e1;cases e1;rw[N7 hiσ] at e2;cases e2;exact⟨u,r,.inl ⟨hk,by simp⟩⟩
   ·rw[Ox (Ne.symm hj)] at e2
    obtain⟨u',r',q⟩:=hl j y v' e1 e2 e3;refine⟨u',r',?_⟩;rcases q with⟨k,e⟩|⟨k,c,e,z⟩
    ·refine .inl ⟨k,?_⟩;have:y≠x:=fun e=>hj (vZ hN e1 (e▸hi));simp[this,e]
    ·exact .inr ⟨k,c,e,z.sameBut hs (Wo y c e)⟩
  ·obtain⟨w',z⟩:=I.cell y c e;exact⟨w',z.sameBut hs (Wo y c e)⟩
  ·obtain⟨e,n,ne,nf,d⟩:=I.pin p hp;exact⟨(hs.2 p.1 ne).trans e,n,ne,nf,d⟩
 ·have hfn:X.fn x=true:=by
   rcases hf with z|z
   ·exact z
   ·rw[z] at hk;cases hk
  obtain⟨c,hc⟩:=I.ok.has x (.inl hk);obtain⟨w',z⟩:=I.cell x c hc;refine wpAny_storeName_cell I.ok.kind hk hc z (fun h' SH hs=> ?_);obtain⟨oc,WZ,Zk⟩:=id z;refine h {s with heap:=h'} ⟨I.ok,I.os,I.bare,⟨fun b o e n hb hx=> ?_,fun b o e n hb hx=> ?_,I.base.free,fun b o e hx=> ?_,I.base.SY,I.base.Ss,I.base.S2⟩,⟨m,hn.sameBut hs (Ne.symm (Wo x c hc)),fun j y v' e1 e2 e3=> ?_⟩,fun y c' e=> ?_,I.free,I.QM,fun p hp=> ?_,tracked ⟨oc,WZ,I.QM x c hc⟩ hs,by simpa using I.len⟩ ⟨c,hs,.inr hc⟩
  ·exact(hs.2 b (MD (MA (Heap.lt_size e) (I.ok.W2 x c hfn hc)))).trans (I.base.keep b o e n hb hx)
  ·obtain⟨sl,e1⟩:=I.base.slot b o e n hb hx;exact⟨sl,(hs.2 b (MD (MA (Heap.lt_size e) (I.ok.W2 x c hfn hc)))).trans e1⟩
  ·obtain⟨o',e1⟩:=I.base.there b o e hx;exact⟨o',(hs.2 b (MD (MA (Heap.lt_size e) (I.ok.W2 x c hfn hc)))).trans e1⟩
  ·by_cases hj:j=i
   ·subst hj;rw[hi] at e1;cases e1;rw[N7 hiσ] at e2;cases e2;exact⟨u,r,.inr ⟨.inl hk,c,hc,SH⟩⟩
   ·rw[Ox (Ne.symm hj)] at e2
    obtain⟨u',r',q⟩:=hl j y v' e1 e2 e3;refine⟨u',r',?_⟩;rcases q with q|⟨k,c',e,z'⟩
    ·exact .inl q
    ·refine .inr ⟨k,c',e,z'.sameBut hs ?_⟩;rintro rfl;exact hj (vZ hN e1 (I.ok.inj _ _ _ e hc▸hi))
  ·by_cases hcc:c'=c
   ·subst hcc;exact⟨_,SH⟩
   ·obtain⟨w2,z2⟩:=I.cell y c' e;exact⟨w2,z2.sameBut hs hcc⟩
  ·obtain⟨e,n,ne,nf,d⟩:=I.pin p hp;refine⟨(hs.2 p.1 ?_).trans e,n,ne,nf,d⟩;intro q;rw[q,WZ] at e;have q':oc=p.2:=Mw e;exact d w' (by rw[<-q'];exact Zk)
theorem wE {M:YX} {A:MO} {E:L5->Ma->Prop} {i:Nat} {x:Str} {v:V} {u:L5} {Q:Unit->Ma->Prop} (I:Inv X pins σ H s) (hN:X.N.Nodup) (hi:X.N[i]? =some x) (hx:KW X.env.scope x) (r:RelV v u)
  (h:∀s',Inv X pins (σ.set i (some v)) H s'->Q () s') (hf:X.fn x=true\/X.env.scope.names.lookup x=some .local:=by first|exact .inl rfl|exact .inr rfl|assumption):wpAny M A (storeName X.env x u) Q E s:=
 sr I hN hi hx r (fun s' I' _=>h s' I') hf
theorem Inv.Yc {s':Ma} {ch:List L8} (I:Inv X pins σ H s) (ho:s'.os=s.os) (u:Un (A0 X.stack) ch H H' s.heap s'.heap) (Nw:QU X.prog X.w H' s'.heap) (hg:AllBare s'.gens)
  (U4:∀b∈ch,(b∈X.ex\/X.s₀.heap.objs.size<=b)/\b≠X.env.locals/\(∀x c,X.env.cells.lookup x=some c->c≠b)/\∀p∈X.pn++pins,p.1≠b):Inv X pins σ H' s':=by
 obtain⟨h',g',d',t',o'⟩:=s';have e:o'=s.os:=ho;subst e;exact I.call (g':=g') (t':=t') (d':=d') u Nw hg U4
end
abbrev XK:=L5->Option L8->Hp->Prop
abbrev St:=List (Option V)
abbrev VK:=V->Hp->Prop
abbrev TE:=St->Hp->VK->Prop
abbrev TT:=St->Hp->(Bool->Hp->Prop)->Prop
abbrev TA:=St->Hp->(List V->Hp->Prop)->Prop
structure Ends where
 nx:St->Hp->Prop
 rt:VK
 bk:St->Hp->Prop:=fun _ _=>False
 ct:St->Hp->Prop:=fun _ _=>False
abbrev TS:=Ends->St->Hp->Prop
def EP (X:Cx) (pins:List (L8×Obj)) (σ:St) (Q:VK) (u:L5) (s':Ma):Prop:=∃v H',Inv X pins σ H' s'/\RelV v u/\Q v H'
def TP (X:Cx) (pins:List (L8×Obj)) (σ:St) (Q:Bool->Hp->Prop) (b:Bool) (s':Ma):Prop:=∃H',Inv X pins σ H' s'/\Q b H'
def AP (X:Cx) (pins:List (L8×Obj)) (σ:St) (Q:List V->Hp->Prop) (us:List L5) (s':Ma):Prop:=∃vs H',Inv X pins σ H' s'/\Vals vs us/\Q vs H'
def SP (X:Cx) (pins:List (L8×Obj)) (D:Ends) (f:Flow) (s':Ma):Prop:=
 match f with
 | .next=>∃σ' H',Inv X pins σ' H' s'/\D.nx σ' H'
 | .brk=>∃σ' H',Inv X pins σ' H' s'/\D.bk σ' H'
 | .cont=>∃σ' H',Inv X pins σ' H' s'/\D.ct σ' H'
 | .ret u=>∃v σ' H',Inv X pins σ' H' s'/\RelV v u/\D.rt v H'
def PE (X:Cx) (e:MR) (t:TE):Prop:=
 ∀(pins:List (L8×Obj)) (s:Ma) (σ:St) (H:Hp) (Q:VK),Inv X pins σ H s->t σ H Q->wpAny (model X.prog X.w) X.A (eval e X.env) (EP X pins σ Q) X.xe s
def PT (X:Cx) (e:MR) (t:TT):Prop:=
 ∀(pins:List (L8×Obj)) (s:Ma) (σ:St) (H:Hp) (Q:Bool->Hp->Prop),Inv X pins σ H s->t σ H Q->wpAny (model X.prog X.w) X.A (isTrue e X.env (eval e X.env)) (TP X pins σ Q) X.xe s
def PW (X:Cx) (e:MR) (t:TT):Prop:=
 ∀(whole:Sem L5) (pins:List (L8×Obj)) (s:Ma) (σ:St) (H:Hp) (Q:Bool->Hp->Prop),Inv X pins σ H s->t σ H Q->wpAny (model X.prog X.w) X.A (isTrue e X.env whole) (TP X pins σ Q) X.xe s
theorem PW.pt {X:Cx} {e:MR} {t:TT} (h:PW X e t):PT X e t:=h _
def PA (X:Cx) (es:List MR) (t:TA):Prop:=
 ∀(pos:Pos) (pins:List (L8×Obj)) (s:Ma) (σ:St) (H:Hp) (Q:List V->Hp->Prop),Inv X pins σ H s->t σ H Q->wpAny (model X.prog X.w) X.A (spliced (backTo pos (ML es X.env))) (AP X pins σ Q) X.xe s
def PS (X:Cx) (st:Oj) (t:TS):Prop:=
 ∀(pins:List (L8×Obj)) (s:Ma) (σ:St) (H:Hp) (D:Ends),Inv X pins σ H s->t D σ H->wpAny (model X.prog X.w) X.A (exec st X.env) (SP X pins D) X.xe s
def RZ (X:Cx) (st:List Oj) (t:TS):Prop:=
 ∀(pins:List (L8×Obj)) (s:Ma) (σ:St) (H:Hp) (D:Ends),Inv X pins σ H s->t D σ H->wpAny (model X.prog X.w) X.A (execs st X.env) (SP X pins D) X.xe s
theorem c8 {α:Type} {t:Sem α} {Q Q':α->Ma->Prop} {M:YX} {A:MO} {E:L5->Ma->Prop} {s:Ma} (h:wpAny M A t Q E s) (hQ:∀a s,Q a s->Q' a s):wpAny M A t Q' E s:=wpAny_mono h hQ fun _ _ x=>x
section
variable {X:Cx}
def Aa (i:Nat):TE:=fun σ H Q=>∃v,σ[i]? =some (some v)/\Q v H
def tC (v:V):TE:=fun _ H Q=>Q v H
theorem Hr {i:Nat} {x:Str} {pos:Pos} (hN:X.N[i]? =some x) (hv:Lq X.env.scope x) (hd:(x==("__debug__":Str))=false:=by decide) (Ui:(x==("__classdict__":Str))=false:=by decide):PE X (.Name x pos) (Aa i):=by
 intro pins s σ H Q I h;obtain⟨v,e,h⟩:=h;obtain⟨m,hn,hl⟩:=I.loc;obtain⟨u,r,l⟩:=hl i x v hN e hv;have fin:EP X pins σ Q u s:=⟨v,H,I,r,h⟩;rcases l with⟨hk,hm⟩|⟨hk,c,hc,VR⟩
 ·exact VS (wpAny_loadName_local I.ok.kind hk hn hm fin) hd
 ·rcases hk with hk|hk
  ·exact VS (wpAny_loadName_cell I.ok.kind hk hc VR fin) hd
  ·exact VS (wpAny_loadName_free I.ok.kind hk hc VR fin Ui) hd
theorem a9 {i j pos}:PE X (.Constant (.int i) j pos) (tC (.int i)):=fun _ _ _ H _ I h=>VT ⟨.int i,H,I.tok _,⟨_,rfl⟩,h⟩
theorem B2 {b j pos}:PE X (.Constant (.bool b) j pos) (tC (.bl b)):=fun _ _ _ H _ I h=>Constant_bool ⟨.bl b,H,I,rfl,h⟩
theorem lI {j pos}:PE X (.Constant .none j pos) (tC .OT):=fun _ _ _ H _ I h=>Constant_none ⟨.OT,H,I,rfl,h⟩
theorem dZ {x j pos}:PE X (.Constant (.str x) j pos) (tC (.str x)):=fun _ _ _ H _ I h=>Calls.Constant_str ⟨.str x,H,I.tok _,⟨_,rfl⟩,h⟩
def Gl (X:Cx) (x:Str):Prop:=X.env.kindOf x=some .globalImplicit
theorem tV {E:L5->Ma->Prop} {pins:List (L8×Obj)} {s:Ma} {σ:St} {H:Hp} {x:Str} {u:L5} {pos:Pos} {Q:L5->Ma->Prop} (I:Inv X pins σ H s) (hg:Gl X x) (hm:X.mg x=some u) (h:Q u s)
  (hd:(x==("__debug__":Str))=false:=by decide):wpAny (model X.prog X.w) X.A (eval (.Name x pos) X.env) Q E s:=
 Calls.Name_function_global I.ok.kind hg (Calls.loadGlobal_global (by rw[I.ok.glob];exact I.mod.glob.keeps I.bk) hm h) hd
theorem on {E:L5->Ma->Prop} {pins:List (L8×Obj)} {s:Ma} {σ:St} {H:Hp} {x:Str} {u:L5} {pos:Pos} {Q:L5->Ma->Prop} (I:Inv X pins σ H s) (hg:Gl X x) (hm:X.mg x=none) (hv:M6 x=some u) (h:Q u s)
  (hn:x≠ "__name__":=by decide) (hd:(x==("__debug__":Str))=false:=by decide):wpAny (model X.prog X.w) X.A (eval (.Name x pos) X.env) Q E s:=by
 obtain⟨mb,h1,h2⟩:=I.mod.blt;exact Calls.Name_function_global I.ok.kind hg (Calls.loadGlobal_builtin (by rw[I.ok.glob];exact I.mod.glob.keeps I.bk) hm (by rw[I.ok.blt];exact h1.keeps I.bk) ((h2 x hn).trans hv) h) hd
theorem Ga {x:Str} {v:V} {u:L5} {pos:Pos} (hg:Gl X x) (hm:X.mg x=some u) (r:RelV v u) (hd:(x==("__debug__":Str))=false:=by decide):PE X (.Name x pos) (tC v):=
 fun _ _ _ H _ I h=>tV I hg hm ⟨v,H,I,r,h⟩ hd
theorem EX {x:Str} {v:V} {u:L5} {pos:Pos} (hg:Gl X x) (hm:X.mg x=none) (hv:M6 x=some u) (r:RelV v u) (hn:x≠ "__name__":=by decide) (hd:(x==("__debug__":Str))=false:=by decide):PE X (.Name x pos) (tC v):=
 fun _ _ _ H _ I h=>on I hg hm hv ⟨v,H,I,r,h⟩ hn hd
variable {a b:MR} {ta tb:TE} {pos:Pos}
def PC (X:Cx) (op:S9) (a b:MR) (t:TE):Prop:=
 ∀(pins:List (L8×Obj)) (s:Ma) (σ:St) (H:Hp) (Q:VK),Inv X pins σ H s->t σ H Q->
  wpAny (model X.prog X.w) X.A (eval a X.env) (fun v s₁=>wpAny (model X.prog X.w) X.A (eval b X.env) (fun u s₂=>wpAny (model X.prog X.w) X.A (NM op v u) (EP X pins σ Q) X.xe s₂) X.xe s₁) X.xe s
def tB (t:TE):TT:=fun σ H Q=>t σ H fun x H1=>∃c,x= .bl c/\Q c H1
theorem CC {op:S9} {t:TE} (h:PC X op a b t) (h1:behindInMarks op b=false:=by first|exact UK _ (by decide) (by decide)|rfl):PE X (.Compare a [op] [b] pos) t:=fun pins s σ H Q I hw=>YY (h pins s σ H Q I hw) h1
theorem Jd {op:S9} {t:TE} (h:PC X op a b t) (h1:behindInMarks op b=false:=by first|exact UK _ (by decide) (by decide)|rfl):PT X (.Compare a [op] [b] pos) (tB t):=by intro pins s σ H Q I hw;refine UY (c8 (h pins s σ H _ I hw) fun v s1 h1=>c8 h1 fun u s2 h2=>c8 h2 fun c s3 ⟨x,H1,I1,r1,q1⟩=> ?_) h1;obtain⟨d,rfl,q⟩:=q1;cases r1;exact Nj ⟨H1,I1,q⟩
theorem xQ {e:MR} {t:TE} (h:PE X e t) (he:∀whole,isTrue e X.env whole=(do let v<-whole;standAt e.pos;holding [v] (truthy v)):=by intro _;rfl):PT X e (tB t):=by intro pins s σ H Q I hw;refine isTrue_plain (c8 (h pins s σ H _ I hw) fun v s1 ⟨x,H1,I1,r1,q1⟩=> ?_) (he _);obtain⟨d,rfl,q⟩:=q1;cases r1;exact Nj ⟨H1,I1,q⟩
variable {tA YA:TT} {rest:List MR}
def Hw (t u:TT):TT:=fun σ H Q=>t σ H fun c H1=>if c=true then u σ H1 Q else Q false H1
def LL (t u:TT):TT:=fun σ H Q=>t σ H fun c H1=>if c=true then Q true H1 else u σ H1 Q
def IT (t:TT):TT:=fun σ H Q=>t σ H fun c H1=>Q (!c) H1
theorem mV (ha:PT X a tA):PW X (.BoolOp .And [a] pos) tA:=by
 intro wh pins s σ H Q I h;refine isTrue_and (c8 (ha pins s σ H Q I h) fun c s1 e=> ?_);cases c with
 |true=>exact isTrue_and_nil e
 |false=>exact e
theorem Hs (ha:PT X a tA):PW X (.BoolOp .Or [a] pos) tA:=by
 intro wh pins s σ H Q I h;refine isTrue_or (c8 (ha pins s σ H Q I h) fun c s1 e=> ?_);cases c with
 |false=>exact isTrue_or_nil e
 |true=>exact e
theorem lM (ha:PT X a tA) (hb:PW X (.BoolOp .And (b::rest) pos) YA):PW X (.BoolOp .And (a::b::rest) pos) (Hw tA YA):=by
 intro wh pins s σ H Q I h;refine isTrue_and (c8 (ha pins s σ H _ I h) fun c s1 ⟨H1,I1,q1⟩=> ?_);cases c with
 |true=>exact hb wh pins s1 σ H1 Q I1 q1
 |false=>exact⟨H1,I1,q1⟩
theorem KM (ha:PT X a tA) (hb:PW X (.BoolOp .Or (b::rest) pos) YA):PW X (.BoolOp .Or (a::b::rest) pos) (LL tA YA):=by
 intro wh pins s σ H Q I h;refine isTrue_or (c8 (ha pins s σ H _ I h) fun c s1 ⟨H1,I1,q1⟩=> ?_);cases c with
 |true=>exact⟨H1,I1,q1⟩
 |false=>exact hb wh pins s1 σ H1 Q I1 q1
theorem IS (ha:PT X a tA):PT X (.UnaryOp .Not a pos) (IT tA):=by intro pins s σ H Q I h;exact isTrue_not (ha pins s σ H (fun c H1=>Q (!c) H1) I h)
def GM (ta tb:TE):TE:=fun σ H Q=>ta σ H fun x H1=>∃c,x= .bl c/\if c=true then tb σ H1 Q else Q (.bl false) H1
def KH (ta tb:TE):TE:=fun σ H Q=>ta σ H fun x H1=>∃c,x= .bl c/\if c=true then Q (.bl true) H1 else tb σ H1 Q
theorem uH {op} {t:TE} (h:PE X a t):PE X (.BoolOp op [a] pos) t:=fun pins s σ H Q I hw=>BoolOp_one (h pins s σ H Q I hw)
theorem xf (ha:PE X a ta) (hb:PE X (.BoolOp .And (b::rest) pos) tb):PE X (.BoolOp .And (a::b::rest) pos) (GM ta tb):=by
 intro pins s σ H Q I h;refine BoolOp_and (c8 (ha pins s σ H _ I h) fun v s1 ⟨x,H1,I1,r1,q1⟩=> ?_);obtain⟨c,rfl,q1⟩:=q1;cases r1;refine Nj ?_;cases c with
 |true=>exact hb pins s1 σ H1 Q I1 q1
 |false=>exact⟨.bl false,H1,I1,rfl,q1⟩
theorem GS (ha:PE X a ta) (hb:PE X (.BoolOp .Or (b::rest) pos) tb):PE X (.BoolOp .Or (a::b::rest) pos) (KH ta tb):=by
 intro pins s σ H Q I h;refine BoolOp_or (c8 (ha pins s σ H _ I h) fun v s1 ⟨x,H1,I1,r1,q1⟩=> ?_);obtain⟨c,rfl,q1⟩:=q1;cases r1;refine Nj ?_;cases c with
 |false=>exact hb pins s1 σ H1 Q I1 q1
 |true=>exact⟨.bl true,H1,I1,rfl,q1⟩
def Lu (t:TT) (ta tb:TE):TE:=fun σ H Q=>t σ H fun c H1=>if c=true then ta σ H1 Q else tb σ H1 Q
theorem v4 {c:MR} (hc:PT X c tA) (ha:PE X a ta) (hb:PE X b tb):PE X (.IfExp c a b pos) (Lu tA ta tb):=by
 intro pins s σ H Q I h;refine wpAny_IfExp (c8 (hc pins s σ H _ I h) fun d s1 ⟨H1,I1,q1⟩=> ?_);cases d with
 |true=>exact ha pins s1 σ H1 Q I1 q1
 |false=>exact hb pins s1 σ H1 Q I1 q1
end
def PU (K:Bn) (H:Hp) (a:L8) (xs:List V):Prop:=
 Rd H a (.lst xs)\/
  ∃(o:Obj) (MY:Array L5) (n:Nat),K.lookup a=some o/\o.cls= .type "list"/\o.dict=none/\o.data= .seq MY n/\MY.size<=Mq/\Vals xs MY.toList
def P4 (K:Bn) (H:Hp) (a:L8) (xs:List V):Prop:=
 Rd H a (.tup xs)\/
  ∃(o:Obj) (MY:Array L5) (n:Nat),K.lookup a=some o/\(o.cls= .type "tuple"/\o.dict=none)/\o.data= .seq MY n/\MY.size<=Mq/\Vals xs MY.toList
noncomputable def Lp:L5->Option V
 | .none=>some .OT
 | .bool b=>some (.bl b)
 | .int i _=>some (.int i)
 | .str x _=>some (.str x)
 | .bytes b _=>some (.WW b)
 | .float b _=>some (.WY b)
 | .ref a=>some (.ref a)
 | .type n=>some (.ty n)
 |_=>none
theorem RelV.abs {x:V} {u:L5} (r:RelV x u):Lp u=some x:=by
 cases x with
 |OT=>cases r;rfl
 |bl _=>cases r;rfl
 |int _=>obtain⟨t,rfl⟩:=r;rfl
 |str _=>obtain⟨t,rfl⟩:=r;rfl
 |WW _=>obtain⟨t,rfl⟩:=r;rfl
 |WY _=>obtain⟨t,rfl⟩:=r;rfl
 |ref _=>cases r;rfl
 |ty _=>cases r;rfl
theorem RelV.inj {x y:V} {u:L5} (r:RelV x u) (q:RelV y u):x=y:=Mw (r.abs.symm.trans q.abs)
theorem Vals.inj:∀{xs ys:List V} {us:List L5},Vals xs us->Vals ys us->xs=ys
 |_,_,_,.nil,.nil=>rfl
 |_,_,_,.cons r t,.cons r' t'=>by rw[r.inj r',Vals.inj t t']
section
variable {X:Cx} {pins:List (L8×Obj)} {σ:St} {H:Hp} {s:Ma} {a:L8} {xs ys:List V}
theorem PU.of {K:Bn} (h:H a=some (.lst xs)):PU K H a xs:= .inl (.inl h)
theorem P4.of {K:Bn} (h:H a=some (.tup xs)):P4 K H a xs:= .inl (.inl h)
theorem Inv.list (I:Inv X pins σ H s) (h:PU X.K H a xs):∃MY:List L5,Vals xs MY/\PlainL s.heap a MY.toArray/\xs.length<=Mq:=by
 rcases h with h|⟨o,MY,n,hk,hc,hd,hs,hz,r⟩
 ·obtain⟨z,MY,n,r,e⟩:=h.ok I.Nw;exact⟨MY,r,⟨_,n,e,rfl,rfl,rfl⟩,z⟩
 ·refine⟨MY.toList,r,⟨o,n,I.RO a o hk,hc,hd,by simpa using hs⟩,?_⟩;have e:=r.length;simp only[M7] at e;omega
theorem Inv.tuple (I:Inv X pins σ H s) (h:P4 X.K H a xs):∃MY:List L5,Vals xs MY/\IsTup s.heap a MY.toArray/\xs.length<=Mq:=by
 rcases h with h|⟨o,MY,n,hk,hc,hs,hz,r⟩
 ·obtain⟨z,MY,r,p⟩:=h.ok I.Nw;exact⟨MY,r,p.tup,z⟩
 ·refine⟨MY.toList,r,⟨o,I.RO a o hk,hc.1,n,by simpa using hs⟩,?_⟩;have e:=r.length;simp only[M7] at e;omega
theorem Inv.Ws (I:Inv X pins σ H s) (h:P4 X.K H a xs):∃MY:List L5,Vals xs MY/\Rt s.heap a MY.toArray/\xs.length<=Mq:=by
 rcases h with h|⟨o,MY,n,hk,hc,hs,hz,r⟩
 ·obtain⟨z,MY,r,p⟩:=h.ok I.Nw;exact⟨MY,r,p,z⟩
 ·refine⟨MY.toList,r,⟨o,I.RO a o hk,⟨hc.1,n,by simpa using hs⟩,hc.2⟩,?_⟩;have e:=r.length;simp only[M7] at e;omega
theorem Inv.UI (I:Inv X pins σ H s) (h:PU X.K H a xs) (h':PU X.K H a ys):xs=ys:=by
 obtain⟨MY,r,⟨o,n,e,_,_,d⟩,_⟩:=I.list h;obtain⟨its',r',⟨o',n',e',_,_,d'⟩,_⟩:=I.list h';rw[e] at e';cases e';rw[d] at d';injection d' with d1 _;have:MY=its':=by simpa using congrArg VU d1
 subst this;exact r.inj r'
theorem Inv.T3 (I:Inv X pins σ H s) (h:P4 X.K H a xs) (h':P4 X.K H a ys):xs=ys:=by
 obtain⟨MY,r,⟨o,e,_,n,d⟩,_⟩:=I.tuple h;obtain⟨its',r',⟨o',e',_,n',d'⟩,_⟩:=I.tuple h';rw[e] at e';cases e';rw[d] at d';injection d' with d1 _;have:MY=its':=by simpa using congrArg VU d1
 subst this;exact r.inj r'
end
noncomputable abbrev Cx.R9 (X:Cx) (E:L5->Ma->Prop):Cx:={X with xe:=E}
noncomputable abbrev Cx.Vi (X:Cx):Cx:=X.R9 fun _ _=>False
theorem Cx.Ok.R9 {X:Cx} (ok:X.Ok) (E:L5->Ma->Prop):(X.R9 E).Ok:=
 ⟨ok.mod,ok.kind,ok.glob,ok.blt,ok.above,ok.inj,ok.has,ok.W2,ok.hd,ok.frames,ok.XT,ok.XS,ok.bs,ok.U1,ok.TZ,ok.TX,ok.Rb,ok.VH⟩
theorem Cx.Ok.Qt {X:Cx} {E:L5->Ma->Prop} (ok:(X.R9 E).Ok):X.Ok:=
 ⟨ok.mod,ok.kind,ok.glob,ok.blt,ok.above,ok.inj,ok.has,ok.W2,ok.hd,ok.frames,ok.XT,ok.XS,ok.bs,ok.U1,ok.TZ,ok.TX,ok.Rb,ok.VH⟩
section
variable {X:Cx} {pins:List (L8×Obj)} {σ:St} {H:Hp} {s:Ma} {E:L5->Ma->Prop}
theorem Inv.R9 (I:Inv X pins σ H s) (E:L5->Ma->Prop):Inv (X.R9 E) pins σ H s:=⟨I.ok.R9 E,I.os,I.bare,I.base,I.loc,I.cell,I.free,I.QM,I.pin,I.Nw,I.len⟩
theorem Inv.Qt (I:Inv (X.R9 E) pins σ H s):Inv X pins σ H s:=⟨I.ok.Qt,I.os,I.bare,I.base,I.loc,I.cell,I.free,I.QM,I.pin,I.Nw,I.len⟩
theorem SP.Qt {D:Ends} {f:Flow} {s':Ma} (h:SP (X.R9 E) pins D f s'):SP X pins D f s':=by
 cases f with
 |next=>obtain⟨σ',H',I,q⟩:=h;exact⟨σ',H',I.Qt,q⟩
 |brk=>obtain⟨σ',H',I,q⟩:=h;exact⟨σ',H',I.Qt,q⟩
 |cont=>obtain⟨σ',H',I,q⟩:=h;exact⟨σ',H',I.Qt,q⟩
 |ret u=>obtain⟨v,σ',H',I,r,q⟩:=h;exact⟨v,σ',H',I.Qt,r,q⟩
theorem RZ.Vi {st:List Oj} {t:TS} (h:RZ X.Vi st t):RZ X st t:=fun pins s σ H D I hw=>
 wpAny_mono (h pins s σ H D (I.R9 _) hw) (fun _ _ q=>q.Qt) fun _ _ z=>False.elim z
end
section
variable {X:Cx} {st:Oj} {rest:List Oj} {t u:TS} {e:MR} {te:TE} {pos:Pos}
def Ed:TS:=fun D σ H=>D.nx σ H
def IM (t u:TS):TS:=fun D σ H=>t {D with nx:=u D} σ H
theorem mL:RZ X [] Ed:=fun _ _ σ H _ I h=>SM ⟨σ,H,I,h⟩
theorem ap (h1:PS X st t) (h2:RZ X rest u):RZ X (st::rest) (IM t u):=by
 intro pins s σ H D I h;refine Xe (c8 (h1 pins s σ H {D with nx:=u D} I h) fun f s1 q=> ?_);cases f with
 |next=>obtain⟨σ',H',I',q⟩:=q;exact h2 pins s1 σ' H' D I' q
 |ret v=>exact q
 |brk=>exact q
 |cont=>exact q
theorem aX (h1:PS X st t):RZ X [st] t:=by
 intro pins s σ H D I h;refine Xe (c8 (h1 pins s σ H D I h) fun f s1 q=> ?_);cases f with
 |next=>exact SM q
 |ret v=>exact q
 |brk=>exact q
 |cont=>exact q
theorem Inv.quiet {pins:List (L8×Obj)} {σ:St} {H:Hp} {s:Ma} (I:Inv X pins σ H s):interactive X.env=false:=by simp[interactive,I.ok.kind]
def Cj (te:TE):TS:=fun D σ H=>te σ H fun _ H1=>D.nx σ H1
theorem ur (he:PE X e te) (hs:NN e none pos.line X.env=pure false:=by rfl):PS X (.Expr e pos) (Cj te):=by intro pins s σ H D I h;exact wpAny_Expr_any (c8 (he pins s σ H _ I h) fun v s1 ⟨x,H1,I1,r1,q1⟩=>⟨σ,H1,I1,q1⟩) I.quiet hs
def Iw (te:TE):TS:=fun D σ H=>te σ H D.rt
theorem fF (he:PE X e te):PS X (.Return (some e) pos) (Iw te):=by intro pins s σ H D I h;exact wpAny_Return_some (c8 (he pins s σ H _ I h) fun v s1 ⟨x,H1,I1,r1,q1⟩=>⟨x,σ,H1,I1,r1,q1⟩)
def G7:TS:=fun D _ H=>D.rt .OT H
theorem Gp:PS X (.Return none pos) G7:=fun _ _ σ H _ I h=>wpAny_Return_none ⟨.OT,σ,H,I,rfl,h⟩
def Iu (c:TT) (t u:TS):TS:=fun D σ H=>c σ H fun b H1=>if b=true then t D σ H1 else u D σ H1
theorem qD {c:MR} {a b:List Oj} {tc:TT} (hc:PT X c tc) (ha:RZ X a t) (hb:RZ X b u):PS X (.If c a b pos) (Iu tc t u):=by
 intro pins s σ H D I h;refine wpAny_If (c8 (hc pins s σ H _ I h) fun d s1 ⟨H1,I1,q1⟩=> ?_);cases d with
 |true=>exact ha pins s1 σ H1 D I1 q1
 |false=>exact hb pins s1 σ H1 D I1 q1
end
abbrev TG:=V->St->Hp->(St->Hp->Prop)->Prop
abbrev AJ:=List V->St->Hp->(St->Hp->Prop)->Prop
def PG (X:Cx) (target:MR) (t:TG):Prop:=
 ∀(pins:List (L8×Obj)) (s:Ma) (σ:St) (H:Hp) (v:V) (u:L5) (Q:St->Hp->Prop),Inv X pins σ H s->RelV v u->t v σ H Q->
  wpAny (model X.prog X.w) X.A (assign target X.env u) (fun _ s'=>∃σ' H',Inv X pins σ' H' s'/\Q σ' H') X.xe s
def KU (X:Cx) (ts:List MR) (t:AJ):Prop:=
 ∀(pins:List (L8×Obj)) (s:Ma) (σ:St) (H:Hp) (vs:List V) (us:List L5) (Q:St->Hp->Prop),Inv X pins σ H s->Vals vs us->t vs σ H Q->
  wpAny (model X.prog X.w) X.A (assignInOrder ((assignEach ts X.env).map (·.2)) us) (fun _ s'=>∃σ' H',Inv X pins σ' H' s'/\Q σ' H') X.xe s
section
variable {X:Cx} {pos:Pos}
def wm (i:Nat):TG:=fun v σ H Q=>Q (σ.set i (some v)) H
theorem bX {i:Nat} {x:Str} (hN:X.N.Nodup) (hi:X.N[i]? =some x) (hx:KW X.env.scope x) (hf:X.fn x=true\/X.env.scope.names.lookup x=some .local:=by first|exact .inl rfl|exact .inr rfl|assumption):PG X (.Name x pos) (wm i):=by intro pins s σ H v u Q I r h;exact WJ (wE I hN hi hx r (fun s' I'=>⟨_,H,I',h⟩) hf)
noncomputable def Jn:AJ:=fun vs σ H Q=>vs=[]/\Q σ H
noncomputable def DB (t:TG) (u:AJ):AJ:=fun vs σ H Q=>∃v r,vs=v::r/\t v σ H fun σ' H'=>u r σ' H' Q
theorem zv:KU X [] Jn:=by intro pins s σ H vs us Q I r h;obtain⟨e,h⟩:=h;subst e;cases r;exact assignInOrder_nil ⟨σ,H,I,h⟩
theorem qS {e:MR} {es:List MR} {t:TG} {u:AJ} (h1:PG X e t) (h2:KU X es u)
  (hs:(assignEach (e::es) X.env).map (·.2)=assign e X.env::(assignEach es X.env).map (·.2):=by rfl):KU X (e::es) (DB t u):=by
 intro pins s σ H vs us Q I r h;obtain⟨v,vr,e1,h⟩:=h;subst e1;cases r with
 |cons r rr=>rw[hs];refine assignInOrder_cons (c8 (h1 pins s σ H _ _ _ I r h) fun _ s1 ⟨σ1,H1,I1,q1⟩=> ?_);exact h2 pins s1 σ1 H1 _ _ Q I1 rr q1
def IK (K:Bn) (n:Nat) (t:AJ):TG:=fun v σ H Q=>∃a xs,v= .ref a/\P4 K H a xs/\xs.length=n/\t xs σ H Q
theorem CQ {es:List MR} {k:Nat} {t:AJ} {n:Nat} (hc:X.calm=true) (h:KU X es t)
  (hn:(assignEach es X.env).length=n:=by rfl) (eC:(assignEach es X.env).findIdx? (·.1)=none:=by rfl):PG X (.Tuple es k pos) (IK X.K n t):=by
 intro pins s σ H v u Q I r hw;obtain⟨a,xs,e1,hq,hl,hw⟩:=hw;subst e1;cases r;obtain⟨MY,rv,ht,hz⟩:=I.tuple hq;refine assign_Tuple_tuple (I.ok.hd hc) ht (by simp[hn,<-hl,rv.length]) eC fun h' hx=> ?_;have I1:Inv X pins σ H {s with heap:=h'}:=I.kept (t':=s.toks) fun b o e=>hx b o (MD (Heap.lt_size e)) e;exact h pins _ σ H xs _ Q I1 (by simpa using rv) hw
def DQ (te:TE) (g:TG):TS:=fun D σ H=>te σ H fun x H1=>g x σ H1 D.nx
theorem Jq {tg e:MR} {te:TE} {g:TG} (he:PE X e te) (hg:PG X tg g) (hs:swapsWithSole [tg] e pos.line X.env=pure false:=by rfl) (hw:swappedStores [tg] e X.env=pure none:=by rfl)
  (h1:(assignEach [tg] X.env).map (·.2)=[assign tg X.env]:=by rfl):PS X (.Assign [tg] e pos) (DQ te g):=by
 intro pins s σ H D I h;refine wpAny_Assign_stores (c8 (he pins s σ H _ I h) fun v s1 ⟨x,H1,I1,r1,q1⟩=> ?_) hs hw;rw[h1];exact c8 (hg pins s1 σ H1 x v _ I1 r1 q1) fun _ s2 q=>q
theorem nM {i:Nat} {x:Str} {e:MR} {te:TE} {pos':Pos} (hN:X.N.Nodup) (hi:X.N[i]? =some x) (hx:KW X.env.scope x) (he:PE X e te) (hs:NN e (some (.Name x pos')) pos.line X.env=pure false:=by rfl) (hf:X.fn x=true\/X.env.scope.names.lookup x=some .local:=by first|exact .inl rfl|exact .inr rfl|assumption):
  PS X (.Assign [.Name x pos'] e pos) (DQ te (wm i)):=by
 intro pins s σ H D I h;refine wpAny_Assign_Name (c8 (he pins s σ H _ I h) fun v s1 ⟨y,H1,I1,r1,q1⟩=> ?_) hs;exact wE I1 hN hi hx r1 (fun s2 I2=>⟨_,H1,I2,q1⟩) hf
end
structure It where
 go:Nat->Hp->Prop
 Xt:Nat->Hp->V->Hp->Prop
 stop:Nat->Hp->Prop
def nV (X:Cx) (pins:List (L8×Obj)) (H:Hp) (b:L8):Prop:=
 H b=none/\b≠X.env.locals/\b∉X.fs/\(b∈X.ex\/X.s₀.heap.objs.size<=b)/\(∀x c,X.env.cells.lookup x=some c->c≠b)/\∀p∈X.pn++pins,p.1≠b
theorem Inv.Tf {X:Cx} {pins:List (L8×Obj)} {σ:St} {H H':Hp} {s:Ma} {b:L8} (I:Inv X pins σ H s) (hb:s.heap.objs.size<=b) (hn:H' b=none):nV X pins H' b:=by
 refine⟨hn,Ny (MA I.lt hb),I.aax hb,.inr (MQ I.sz hb),fun x c e z=> ?_,fun p hp z=> ?_⟩
 ·obtain⟨v,q⟩:=I.cell x c e;exact absurd (MA q.lt (by rw[z];exact hb)) (Nx _)
 ·exact absurd (MA (Heap.lt_size (I.pin p hp).1) (by rw[z];exact hb)) (Nx _)
structure Turn (P:My) (w:MS) (K:Bn) (tg:MR) (J:It) (fp:List L8) (it:L8) (tn:Nat->Heap->Prop):Prop where
 mem:it∈fp
 obj:∀i h,tn i h->∀b∈fp,∃o,h.get? b=some o/\∀v,o.data≠ .cell v
 keep:∀i h h',tn i h->(∀b∈fp,∀o,h.get? b=some o->h'.get? b=some o)->tn i h'
 item:∀(X:Cx),X.prog=P->X.w=w->X.K=K->X.calm=true->∀(i:Nat) (pins:List (L8×Obj)) (s:Ma) (σ:St) (H:Hp) (E:L5->Ma->Prop),Inv X pins σ H s->(∀b∈fp,nV X pins H b)->tn i s.heap->J.go i H->
  wpAny (model P w) X.A (pyNext (.ref it)) (fun r s1=>∃u,r=some u/\
   wpAny (model P w) X.A (letOwnedTupleGo tg (.ref it) u) (fun _ s2=>∃x H',Inv X pins σ H' s2/\RelV x u/\J.Xt i H x H'/\tn (i+1) s2.heap/\∀b∈fp,H' b=none) E s1) E s
 done:∀(X:Cx),X.prog=P->X.w=w->X.K=K->X.calm=true->∀(i:Nat) (pins:List (L8×Obj)) (s:Ma) (σ:St) (H:Hp) (E:L5->Ma->Prop),Inv X pins σ H s->(∀b∈fp,nV X pins H b)->tn i s.heap->J.stop i H->
  wpAny (model P w) X.A (pyNext (.ref it)) (fun r s1=>r=none/\Inv X pins σ H s1) E s
 self:∀(A:MO) (i:Nat) (s:Ma) (Q:L5->Ma->Prop) (E:L5->Ma->Prop),tn i s.heap->Q (.ref it) s->wpAny (model P w) A (pyIter (.ref it)) Q E s
abbrev TI:=St->Hp->(It->Hp->Prop)->Prop
def LJ (X:Cx) (pins:List (L8×Obj)) (σ:St) (tg:MR) (R:It->Hp->Prop) (YN:L5) (s2:Ma):Prop:=
 ∃(it:L8) (fp:List L8) (tn:Nat->Heap->Prop) (J:It) (H':Hp),YN= .ref it/\Inv X pins σ H' s2/\Turn X.prog X.w X.K tg J fp it tn/\tn 0 s2.heap/\(∀b∈fp,nV X pins H' b)/\R J H'
def PI (X:Cx) (tg iter:MR) (wi:TI):Prop:=
 ∀(pins:List (L8×Obj)) (s:Ma) (σ:St) (H:Hp) (R:It->Hp->Prop),Inv X pins σ H s->wi σ H R->
  wpAny (model X.prog X.w) X.A (eval iter X.env) (fun v s1=>wpAny (model X.prog X.w) X.A (pyIter v) (LJ X pins σ tg R) X.xe s1) X.xe s
theorem yq {M:YX} {A:MO} {E:L5->Ma->Prop} {s:Ma} {tg:MR} {it:L8} {u:L5} {o:Obj} {n:String} {vs:Array L5} {Q:Unit->Ma->Prop} (ho:s.heap.get? it=some o) (hc:o.cls= .type n) (hd:o.data= .fields vs)
  (hn:["enumerate","zip","dict_itemiterator","dict_reverseitemiterator","odict_iterator","itertools.zip_longest","itertools.pairwise"].contains n=false) (hQ:Q () s):wpAny M A (letOwnedTupleGo tg (.ref it) u) Q E s:=by
 unfold letOwnedTupleGo;cases tg<;>first
  |exact Mi hQ
  |(cases u<;>first
    |exact Mi hQ
    |(refine L6 (VW ho ?_)
      rw[hc,hd];show wpAny M A (if(["enumerate","zip","dict_itemiterator","dict_reverseitemiterator","odict_iterator","itertools.zip_longest","itertools.pairwise"].contains n&&vs[0]? ==some (rawInt _))=true then _ else _) Q E s;rw[if_neg (by intro h;rw[hn,QC] at h;cases h)];exact Mi hQ))
noncomputable def Lr (K:Bn) (a:L8):It:=
 ⟨fun i H=>∃xs x,PU K H a xs/\xs[i]? =some x,fun i H x H'=>H'=H/\∀xs,PU K H a xs->xs[i]? =some x,fun i H=>∃xs,PU K H a xs/\xs.length<=i⟩
noncomputable def Ll (K:Bn) (a:L8):It:=
 ⟨fun i H=>∃xs x,P4 K H a xs/\xs[i]? =some x,fun i H x H'=>H'=H/\∀xs,P4 K H a xs->xs[i]? =some x,fun i H=>∃xs,P4 K H a xs/\xs.length<=i⟩
noncomputable def K8 (lo:Int) (n:Nat):It:=⟨fun i _=>i<n,fun i H x H'=>H'=H/\x= .int (lo+i),fun i _=>n<=i⟩
theorem AH {P:My} {w:MS} {K:Bn} {tg:MR} (a it:L8):Turn P w K tg (Lr K a) [it] it (fun i h=>h.IsListIter it a i) where
 mem:=by simp
 obj:=fun i h st b hb=>by
  have e:b=it:=by simpa using hb
  subst e;obtain⟨o,e,c,d⟩:=st;exact⟨o,e,fun v z=>by rw[d] at z;cases z⟩
 keep:=fun i h h' st k=>st.at fun o e=>k it (by simp) o e
 item:=by intro X hP hw hK hc i pins s σ H E I hf st hg;subst hP hw hK;obtain⟨xs,x,hq,hx⟩:=hg;obtain⟨MY,rv,p,hz⟩:=I.list hq;obtain⟨u,hu,ru⟩:=rv.get hx;obtain⟨f0,f1,f2,f3,f4,f5⟩:=hf it (by simp);refine wpAny_pyNext_list_item st p.isList (x:=u) (by simpa using hu) fun h' TV sb=> ?_;have I1:Inv X pins σ H {s with heap:=h'}:=I.turned (t':=s.toks) (fun b o hb e=>(sb.2 b hb).trans e) f0 f1 f3 f4 f5;obtain⟨o,e,c,d⟩:=id TV;exact⟨u,rfl,yq (s:={s with heap:=h'}) e c d (by decide) ⟨x,H,I1,ru,⟨rfl,fun ys hy=>by rw[I.UI hy hq];exact hx⟩,TV,fun b hb=>(hf b hb).1⟩⟩
 done:=by intro X hP hw hK hc i pins s σ H E I hf st hg;subst hP hw hK;obtain⟨xs,hq,hx⟩:=hg;obtain⟨MY,rv,p,hz⟩:=I.list hq;obtain⟨f0,f1,f2,f3,f4,f5⟩:=hf it (by simp);have hl:=rv.length;exact wpAny_pyNext_list_end (I.ok.hd hc) st p.isList (by simp;omega) fun h' eb=>⟨rfl,I.turned (t':=s.toks) (fun b o hb e=>eb b o hb e) f0 f1 f3 f4 f5⟩
 self:=fun _ _ _ _ _ st h=>wpAny_pyIter_listiter st h
theorem xq {P:My} {w:MS} {K:Bn} {tg:MR} (a it:L8):Turn P w K tg (Ll K a) [it] it (fun i h=>h.IsTupleIter it a i) where
 mem:=by simp
 obj:=fun i h st b hb=>by
  have e:b=it:=by simpa using hb
  subst e;obtain⟨o,e,c,d⟩:=st;exact⟨o,e,fun v z=>by rw[d] at z;cases z⟩
 keep:=fun i h h' st k=>st.at fun o e=>k it (by simp) o e
 item:=by intro X hP hw hK hc i pins s σ H E I hf st hg;subst hP hw hK;obtain⟨xs,x,hq,hx⟩:=hg;obtain⟨MY,rv,p,hz⟩:=I.tuple hq;obtain⟨u,hu,ru⟩:=rv.get hx;obtain⟨f0,f1,f2,f3,f4,f5⟩:=hf it (by simp);refine wpAny_pyNext_tuple_item st (show s.heap.IsTuple a MY.toArray from p) (x:=u) (by simpa using hu) fun h' TV sb=> ?_;have I1:Inv X pins σ H {s with heap:=h'}:=I.turned (t':=s.toks) (fun b o hb e=>(sb.2 b hb).trans e) f0 f1 f3 f4 f5;obtain⟨o,e,c,d⟩:=id TV;exact⟨u,rfl,yq (s:={s with heap:=h'}) e c d (by decide) ⟨x,H,I1,ru,⟨rfl,fun ys hy=>by rw[I.T3 hy hq];exact hx⟩,TV,fun b hb=>(hf b hb).1⟩⟩
 done:=by intro X hP hw hK hc i pins s σ H E I hf st hg;subst hP hw hK;obtain⟨xs,hq,hx⟩:=hg;obtain⟨MY,rv,p,hz⟩:=I.tuple hq;obtain⟨f0,f1,f2,f3,f4,f5⟩:=hf it (by simp);have hl:=rv.length;exact wpAny_pyNext_tuple_end (I.ok.hd hc) st (show s.heap.IsTuple a MY.toArray from p) (by simp;omega) fun h' eb=>⟨rfl,I.turned (t':=s.toks) (fun b o hb e=>eb b o hb e) f0 f1 f3 f4 f5⟩
 self:=fun _ _ _ _ _ st h=>wpAny_pyIter_tupleiter st h
theorem xu {P:My} {w:MS} {K:Bn} {tg:MR} (it:L8) (lo:Int) (n:Nat):Turn P w K tg (K8 lo n) [it] it (fun i h=>IsRangeIter h it (lo+(i:Nat)*1) ((n:Int) - (i:Nat)) 1) where
 mem:=by simp
 obj:=fun i h st b hb=>by
  have e:b=it:=by simpa using hb
  subst e;exact⟨_,st,fun v z=>by have z':Um.fields _=Um.cell v:=z;cases z'⟩
 keep:=fun i h h' st k=>k it (by simp) _ st
 item:=by intro X hP hw hK hc i pins s σ H E I hf st hg;subst hP hw hK;obtain⟨f0,f1,f2,f3,f4,f5⟩:=hf it (by simp);have W:=YZ.range (prog:=X.prog) (w:=X.w) (I.ok.hd hc) it lo 1 n;refine W.item i s _ _ hg st fun v h' tk hv TV kk=> ?_;obtain⟨t,rfl⟩:=hv;have I1:Inv X pins σ H {s with heap:=h',toks:=tk}:=I.turned (fun b o hb e=>kk b o (by simpa using hb) e) f0 f1 f3 f4 f5;refine⟨_,rfl,yq (s:={s with heap:=h',toks:=tk}) (n:= "range_iterator") TV rfl rfl (by decide) ⟨.int (lo+i),H,I1,⟨t,?_⟩,⟨rfl,rfl⟩,TV,fun b hb=>(hf b hb).1⟩⟩;rw[Int.mul_one]
 done:=by intro X hP hw hK hc i pins s σ H E I hf st hg;subst hP hw hK;obtain⟨f0,f1,f2,f3,f4,f5⟩:=hf it (by simp);exact wpAny_pyNext_range_end (I.ok.hd hc) st (by have:n<=i:=hg;omega) fun h' eb=>⟨rfl,I.turned (t':=s.toks) (fun b o hb e=>eb b o hb e) f0 f1 f3 f4 f5⟩
 self:=fun _ _ _ _ _ st h=>wpAny_pyIter_rangeiter st h
section
variable {X:Cx} {tg:MR}
theorem Cz {pins:List (L8×Obj)} {σ:St} {H:Hp} {s:Ma} {R:It->Hp->Prop} {E:L5->Ma->Prop} {lo hi:Int} {t u v:Tok} {tk:Nat} (I:Inv X pins σ H s) (h1: -(2^62)<=lo) (h2:lo<2^62) (h3: -(2^62)<=hi) (h4:hi<2^62)
  (q:R (K8 lo (hi - lo).toNat) H):wpAny (model X.prog X.w) X.A (pyIter (.ref s.heap.objs.size)) (LJ X pins σ tg R) E {s with heap:=s.heap.push {cls:= .type "range",data:= .fields #[.int lo t,.int hi u,.int 1 v]},toks:=tk}:=by
 refine wpAny_pyIter_range (IsRange.new ..) (small_one h1 h2 h3 h4) ?_;have I1:Inv X pins σ H {s with heap:=s.heap.push {cls:= .type "range",data:= .fields #[.int lo t,.int hi u,.int 1 v]},toks:=tk}:=I.kept fun b o e=>Heap.get?_push_of_some _ e;refine⟨(s.heap.push {cls:= .type "range",data:= .fields #[.int lo t,.int hi u,.int 1 v]}).objs.size,[(s.heap.push {cls:= .type "range",data:= .fields #[.int lo t,.int hi u,.int 1 v]}).objs.size],_,_,H,rfl,
  I1.kept (t':=tk) fun b o e=>Heap.get?_push_of_some _ e,xu _ lo (hi - lo).toNat,?_,fun b hb=> ?_,q⟩
 ·have e1:lo+((0:Nat):Int)*1=lo:=by simp
  have e2:(((hi - lo).toNat:Nat):Int) - ((0:Nat):Int)=MU.Range.rangeSize lo hi 1:=by rw[rangeSize_one];split<;>omega
  show IsRangeIter _ _ (lo+((0:Nat):Int)*1) ((((hi - lo).toNat:Nat):Int) - ((0:Nat):Int)) 1;rw[e1,e2];exact Heap.get?_push_size _ rfl
 ·have e:b=(s.heap.push {cls:= .type "range",data:= .fields #[.int lo t,.int hi u,.int 1 v]}).objs.size:=by simpa using hb
  subst e;exact I1.Tf (Mh _) (I1.Nw.fresh (Mh _))
def G6 (ta:TA):TI:=fun σ H R=>ta σ H fun vs H1=>∃j:Int,vs=[.int j]/\ -(2^62)<=j/\j<2^62/\R (K8 0 j.toNat) H1
theorem gy {a:MR} {ta:TA} {p pos:Pos} (hg:Gl X "range") (hm:X.mg "range"=none) (ha:PA X [a] ta) (hs:ML [a] X.env=[(false,eval a X.env)]:=by rfl):PI X tg (.Call (.Name "range" p) [a] [] pos) (G6 ta):=by
 intro pins s σ H R I h;refine Call_ (on I hg hm boot_range (Pa (c8 (ha pos pins s σ H _ I h) fun us s1 ⟨vs,H1,I1,r1,q1⟩=> ?_) hs rfl));obtain⟨j,e,q1,q2,q⟩:=q1;subst e;cases r1 with
 |cons r rr=>cases rr;obtain⟨t,rfl⟩:=r;exact call_range_1 (Cz I1 (by omega) (by omega) q1 q2 (by simpa using q))
def Jj (wi:TI) (g:TG) (tb:TS):TS:=fun D σ H=>wi σ H fun J H1=>∃W:Nat->Nat->St->Hp->Prop,(∃m,W 0 m σ H1)/\∀i m σ H,W i m σ H->
 (J.stop i H/\D.nx σ H)\/(J.go i H/\∃N:St->Hp->Prop,(∀σ' H',N σ' H'->∃m',m'<m/\W (i+1) m' σ' H')/\∀x H',J.Xt i H x H'->g x σ H' fun σ2 H2=>tb {D with nx:=N,ct:=N,bk:=D.nx} σ2 H2)
noncomputable def qL (fp:List L8) (h:Heap):List (L8×Obj):=fp.filterMap fun b=>(h.get? b).map fun o=>(b,o)
theorem jv {fp:List L8} {h:Heap} {b:L8} {o:Obj} (hb:b∈fp) (e:h.get? b=some o):(b,o)∈qL fp h:=N8.mpr ⟨b,hb,by rw[e];rfl⟩
theorem AE {fp:List L8} {h:Heap} {p:L8×Obj} (hp:p∈qL fp h):p.1∈fp/\h.get? p.1=some p.2:=by
 obtain⟨b,hb,e⟩:=N8.mp hp;cases q:h.get? b with
 |none=>rw[q] at e;cases e
 |some o=>rw[q] at e;have e':(b,o)=p:=Mw e;subst e';exact⟨hb,q⟩
theorem Inv.pinned {pins:List (L8×Obj)} {σ:St} {H:Hp} {s:Ma} {fp:List L8} (I:Inv X pins σ H s) (hf:∀b∈fp,nV X pins H b) (ho:∀b∈fp,∃o,s.heap.get? b=some o/\∀v,o.data≠ .cell v):Inv X (pins++qL fp s.heap) σ H s:=
 I.TC fun p hp=>(Nh.mp hp).elim (fun z=>I.pin p (M8 _ z)) fun z=>by obtain⟨hb,e⟩:=AE z;obtain⟨f0,f1,f2,_⟩:=hf p.1 hb;obtain⟨o,e',d⟩:=ho p.1 hb;rw[e] at e';cases e';exact⟨e,f0,f1,f2,d⟩
theorem Inv.Q2 {pins pl:List (L8×Obj)} {σ:St} {H:Hp} {s:Ma} (I:Inv X (pins++pl) σ H s):Inv X pins σ H s:=I.TC fun p hp=>I.pin p (M8 _ (Ts _ hp))
theorem rK {iter:MR} {body:List Oj} {wi:TI} {g:TG} {tb:TS} {pos:Pos} (hp:Sj (model X.prog X.w) X.A X.env X.xe) (hc:X.calm=true) (hi:PI X tg iter wi) (hg:PG X tg g) (hb:RZ X body tb)
  (hs:∀x,foldedSetIterable iter X.env x=pure x:=by intro _;rfl):PS X (.For tg iter body [] pos) (Jj wi g tb):=by
 intro pins s σ H D I h;refine wpAny_For (c8 (hi pins s σ H _ I h) fun v s1 h1=>c8 h1 fun YN s2 h2=> ?_) hs;obtain⟨it,fp,tn,J,H2,e,I2,T,Xu,f2,W,⟨m0,w0⟩,turn⟩:=h2;subst e;have V1:∀{H':Hp},(∀b∈fp,H' b=none)->∀b∈fp,nV X pins H' b:=fun hn b hb=>⟨hn b hb,(f2 b hb).2⟩;refine codeAny_forLoop_any (fun n s'=>∃i σ' H',Inv X pins σ' H' s'/\tn i s'.heap/\(∀b∈fp,H' b=none)/\W i n σ' H') ?_ m0 ⟨0,σ,H2,I2,Xu,fun b hb=>(f2 b hb).1,w0⟩;rintro n s3 ⟨i,σ3,H3,I3,st3,fr3,w3⟩;rcases turn i n σ3 H3 w3 with⟨stop,qn⟩|⟨go,N,hN,step⟩
 ·refine PM hp (c8 (T.done X rfl rfl rfl hc i pins s3 σ3 H3 X.xe I3 (V1 fr3) st3 stop) fun r s4 ⟨hr,I4⟩=> ?_);subst hr;exact SM ⟨σ3,H3,I4,qn⟩
 ·refine PM hp (c8 (T.item X rfl rfl rfl hc i pins s3 σ3 H3 X.xe I3 (V1 fr3) st3 go) fun r s4 ⟨u,hr,h4⟩=> ?_)
  subst hr;refine PM hp (c8 h4 fun _ s5 ⟨x,H5,I5,r5,y5,W6,YT⟩=> ?_);have I5':=I5.pinned (V1 YT) (T.obj _ _ W6);refine PM hp (c8 (hg _ s5 σ3 H5 x u _ I5' r5 (step x H5 y5)) fun _ s6 ⟨σ6,H6,I6,q6⟩=> ?_);refine PM hp (c8 (hb _ s6 σ6 H6 _ I6 q6) fun f s7 q7=> ?_);have again:∀{σ7:St} {H7:Hp},Inv X (pins++qL fp s5.heap) σ7 H7 s7->N σ7 H7->∃m,m<n/\∃i σ' H',Inv X pins σ' H' s7/\tn i s7.heap/\(∀b∈fp,H' b=none)/\W i m σ' H':=fun{σ7 H7} I7 n7=>by obtain⟨m',hm,w7⟩:=hN σ7 H7 n7;refine⟨m',hm,i+1,σ7,H7,I7.Q2,T.keep _ _ _ W6 fun b hb o e=>(I7.pin (b,o) (M8 _ (M8 _ (jv hb e)))).1,fun b hb=> ?_,w7⟩;obtain⟨o,e,d⟩:=T.obj _ _ W6 b hb;exact(I7.pin (b,o) (M8 _ (M8 _ (jv hb e)))).2.1
  cases f with
  |next=>obtain⟨σ7,H7,I7,n7⟩:=q7;exact again I7 n7
  |cont=>obtain⟨σ7,H7,I7,n7⟩:=q7;exact again I7 n7
  |brk=>obtain⟨σ7,H7,I7,q7⟩:=q7;exact⟨σ7,H7,I7.Q2,q7⟩
  |ret v=>obtain⟨x7,σ7,H7,I7,r7,q7⟩:=q7;exact⟨x7,σ7,H7,I7.Q2,r7,q7⟩
end
abbrev R2:=V->V->Hp->VK->Prop
def OpR (X:Cx) (f:L5->L5->Sem L5) (r:R2):Prop:=
 ∀(pins:List (L8×Obj)) (s:Ma) (σ:St) (H:Hp) (x y:V) (v u:L5) (Q:VK),Inv X pins σ H s->RelV x v->RelV y u->r x y H Q->
  wpAny (model X.prog X.w) X.A (f v u) (EP X pins σ Q) X.xe s
def Oq (X:Cx) (f:L5) (r:List V->Hp->VK->Prop):Prop:=
 ∀(pins:List (L8×Obj)) (s:Ma) (σ:St) (H:Hp) (xs:List V) (us:List L5) (Q:VK),Inv X pins σ H s->Vals xs us->r xs H Q->
  wpAny (model X.prog X.w) X.A (call f us) (EP X pins σ Q) X.xe s
def HZ (r:R2) (ta tb:TE):TE:=fun σ H Q=>ta σ H fun x H1=>tb σ H1 fun y H2=>r x y H2 Q
def rI (C:Int->Int->Prop) (g:Int->Int->V):R2:=fun x y H Q=>∃i j,x= .int i/\y= .int j/\C i j/\Q (g i j) H
def vo (g:Int->Int->V):R2:=fun x y H Q=>∃i j,x= .int i/\y= .int j/\Q (g i j) H
section
variable {X:Cx} {a b c:MR} {ta tb tc:TE} {pos:Pos}
theorem Jl (ha:PE X a ta) (hb:PE X b tb) {pins:List (L8×Obj)} {s:Ma} {σ:St} {H:Hp} {R:V->V->Hp->Prop} (I:Inv X pins σ H s)
  (h:ta σ H fun x H1=>tb σ H1 fun y H2=>R x y H2) {Q:L5->Ma->Prop} {f:L5->L5->Sem L5}
  (hf:∀v u s2 x y H2,Inv X pins σ H2 s2->RelV x v->RelV y u->R x y H2->wpAny (model X.prog X.w) X.A (f v u) Q X.xe s2):
  wpAny (model X.prog X.w) X.A (eval a X.env) (fun v s₁=>wpAny (model X.prog X.w) X.A (eval b X.env) (fun u s₂=>wpAny (model X.prog X.w) X.A (f v u) Q X.xe s₂) X.xe s₁) X.xe s:=by
 refine c8 (ha pins s σ H _ I h) fun v s1 ⟨x,H1,I1,r1,q1⟩=> ?_;refine c8 (hb pins s1 σ H1 _ I1 q1) fun u s2 ⟨y,H2,I2,r2,q2⟩=> ?_;exact hf v u s2 x y H2 I2 r1 r2 q2
theorem nc {op:Operator} {r:R2} (ho:OpR X (NU op) r) (ha:PE X a ta) (hb:PE X b tb):PE X (.BinOp a op b pos) (HZ r ta tb):=by intro pins s σ H Q I h;exact wpAny_BinOp (Jl ha hb I h fun v u s2 x y H2 I2 rx ry q=>ho pins s2 σ H2 x y v u Q I2 rx ry q)
theorem Kr {f:L5->L5->Sem L5} {C:Int->Int->Prop} {g:Int->Int->Int}
  (rule:∀(i j:Int) (t u:Tok) (s:Ma) (Q:L5->Ma->Prop) (E:L5->Ma->Prop),C i j->Q (.int (g i j) s.toks) {s with toks:=s.toks+1}->wpAny (model X.prog X.w) X.A (f (.int i t) (.int j u)) Q E s):
  OpR X f (rI C fun i j=> .int (g i j)):=by
 intro pins s σ H x y v u Q I rx ry h;obtain⟨i,j,rfl,rfl,hc,q⟩:=h;obtain⟨t,rfl⟩:=rx;obtain⟨t',rfl⟩:=ry;exact rule i j t t' s _ _ hc ⟨.int (g i j),H,I.tok _,⟨_,rfl⟩,q⟩
theorem IW {f:L5->L5->Sem L5} {g:Int->Int->Int}
  (rule:∀(i j:Int) (t u:Tok) (s:Ma) (Q:L5->Ma->Prop) (E:L5->Ma->Prop),Q (.int (g i j) s.toks) {s with toks:=s.toks+1}->wpAny (model X.prog X.w) X.A (f (.int i t) (.int j u)) Q E s):
  OpR X f (vo fun i j=> .int (g i j)):=by
 intro pins s σ H x y v u Q I rx ry h;obtain⟨i,j,rfl,rfl,q⟩:=h;obtain⟨t,rfl⟩:=rx;obtain⟨t',rfl⟩:=ry;exact rule i j t t' s _ _ ⟨.int (g i j),H,I.tok _,⟨_,rfl⟩,q⟩
theorem E1 {f:L5->L5->Sem L5} {g:Int->Int->Bool}
  (rule:∀(i j:Int) (t u:Tok) (s:Ma) (Q:L5->Ma->Prop) (E:L5->Ma->Prop),Q (.bool (g i j)) s->wpAny (model X.prog X.w) X.A (f (.int i t) (.int j u)) Q E s):
  OpR X f (vo fun i j=> .bl (g i j)):=by
 intro pins s σ H x y v u Q I rx ry h;obtain⟨i,j,rfl,rfl,q⟩:=h;obtain⟨t,rfl⟩:=rx;obtain⟨t',rfl⟩:=ry;exact rule i j t t' s _ _ ⟨.bl (g i j),H,I,rfl,q⟩
def IL (i j:Int):Prop:=0<=j/\j<=1000000/\i.natAbs<2^64
def Vn (i j:Int):Prop:=(-(2^64)<i/\i<2^64)\/(-(2^64)<j/\j<2^64)
theorem Vn.ok {i j:Int} (h:Vn i j):IntMulOk i j:=by
 rcases h with⟨h1,h2⟩|⟨h1,h2⟩
 ·exact .of_left (aaU h1 h2)
 ·exact .of_right (aaU h1 h2)
theorem two_pow_nn (k:Nat):(0:Int)<=2^k:=by rw[two_pow_cast];exact Int.natCast_nonneg _
theorem HI:OpR X (NU .Add) (vo fun i j=> .int (i+j)):=IW fun _ _ _ _ _ _ _ q=>add_int q
theorem IY:OpR X (NU .Sub) (vo fun i j=> .int (i - j)):=IW fun _ _ _ _ _ _ _ q=>sub_int q
theorem IG:OpR X (NU .Mult) (rI Vn fun i j=> .int (i*j)):=Kr fun _ _ _ _ _ _ _ hc q=>mul_int q hc.ok
theorem Je:OpR X (NU .Mod) (rI (fun _ j=>0<j) fun i j=> .int (i % j)):=Kr fun i j _ _ _ _ _ hc q=>by have h1:(0:Int)<j:=hc;exact mod_int' (by omega) (by rw[Int.fmod_eq_emod_of_nonneg i (by omega)];exact q)
theorem HC:OpR X (NU .Pow) (rI IL fun i j=> .int (i^j.toNat)):=Kr fun _ _ _ _ _ _ _ hc q=>pow_int_small hc.1 hc.2.1 hc.2.2 q
theorem Db:OpR X (NU .RShift) (rI (fun _ j=>0<=j) fun i j=> .int (i/2^j.toNat)):=Kr fun i j _ _ _ _ _ hc q=>
 rshift_int hc (by rw[Sk i (two_pow_nn _)];exact q)
theorem BH:OpR X (NU .BitAnd) (vo fun i j=> .int (MU.bitAnd i j)):=IW fun _ _ _ _ _ _ _ q=>and_int q
end
section
variable {X:Cx} {a b c:MR} {ta tb tc:TE} {pos:Pos}
theorem DG {pins:List (L8×Obj)} {σ:St} {H:Hp} {s:Ma} {Q:VK} {k k':Bool} (I:Inv X pins σ H s) (q:Q (.bl k) H) (e:k=k'):EP X pins σ Q (.bool k') s:=by subst e;exact⟨.bl k,H,I,rfl,q⟩
theorem Hg:OpR X (NM .Lt) (vo fun i j=> .bl (decide (i<j))):=E1 fun _ _ _ _ _ _ _ q=>lt_int q
theorem JY:OpR X (NM .LtE) (vo fun i j=> .bl (decide (i<=j))):=E1 fun _ _ _ _ _ _ _ q=>le_int q
theorem ww:OpR X (NM .Gt) (vo fun i j=> .bl (decide (j<i))):=E1 fun _ _ _ _ _ _ _ q=>gt_int q
theorem JQ:OpR X (NM .GtE) (vo fun i j=> .bl (decide (j<=i))):=E1 fun _ _ _ _ _ _ _ q=>ge_int q
theorem HF:OpR X (NM .Is) (fun x y H Q=>y= .OT/\Q (.bl (decide (x= .OT))) H):=by
 intro pins s σ H x y v u Q I rx ry h;obtain⟨rfl,q⟩:=h;cases ry;refine is_none_gen (DG I q ?_);cases x<;>first
  |(cases rx;rfl)
  |(obtain⟨t,rfl⟩:=rx;rfl)
theorem uK:OpR X (NM .IsNot) (fun x y H Q=>y= .OT/\Q (.bl (!decide (x= .OT))) H):=by
 intro pins s σ H x y v u Q I rx ry h;obtain⟨rfl,q⟩:=h;cases ry;refine isnot_none_gen (DG I q ?_);cases x<;>first
  |(cases rx;rfl)
  |(obtain⟨t,rfl⟩:=rx;rfl)
theorem dM (b:MR) {op:S9} (h:op≠ .In:=by decide) (h2:op≠ .NotIn:=by decide):behindInMarks op b=false:=by
 have e1:(op==S9.In)=false:=by cases op<;>first|rfl|exact absurd rfl h
 have e2:(op==S9.NotIn)=false:=by cases op<;>first|rfl|exact absurd rfl h2
 cases b<;>simp[behindInMarks,e1,e2]
theorem iK {op:S9} {r:R2} (ho:OpR X (NM op) r) (ha:PE X a ta) (hb:PE X b tb) (hm:behindInMarks op b=false):PE X (.Compare a [op] [b] pos) (HZ r ta tb):=by intro pins s σ H Q I h;exact YY (Jl ha hb I h fun v u s2 x y H2 I2 rx ry q=>ho pins s2 σ H2 x y v u Q I2 rx ry q) hm
def yl (t:TE):TT:=fun σ H Q=>t σ H fun x H'=>∃k,x= .bl k/\Q k H'
theorem cH {op:S9} {r:R2} (ho:OpR X (NM op) r) (ha:PE X a ta) (hb:PE X b tb) (hm:behindInMarks op b=false):PT X (.Compare a [op] [b] pos) (yl (HZ r ta tb)):=by
 intro pins s σ H Q I h;refine UY (c8 (ha pins s σ H _ I h) fun v s1 ⟨x,H1,I1,r1,q1⟩=>c8 (hb pins s1 σ H1 _ I1 q1) fun u s2 ⟨y,H2,I2,r2,q2⟩=>
  c8 (ho pins s2 σ H2 x y v u _ I2 r1 r2 q2) fun c s3 ⟨z,H3,I3,r3,k,e,q3⟩=> ?_) hm
 subst e;cases r3;exact Nj ⟨H3,I3,q3⟩
def DS (r r':R2) (ta tb tc:TE):TE:=fun σ H Q=>ta σ H fun x H1=>tb σ H1 fun y H2=>r x y H2 fun z H3=>∃k,z= .bl k/\
 (if k=true then tc σ H3 fun w' H4=>r' y w' H4 Q else Q (.bl false) H3)
theorem BX {op ZG:S9} {r r':R2} (ho:OpR X (NM op) r) (Ve:OpR X (NM ZG) r') (ha:PE X a ta) (hb:PE X b tb) (hc:PE X c tc)
  (hm:lastMarks [op,ZG] [b,c]=false:=by with_unfolding_all rfl):PT X (.Compare a [op,ZG] [b,c] pos) (yl (DS r r' ta tb tc)):=by
 intro pins s σ H Q I h;refine isTrue_chain (c8 (ha pins s σ H _ I h) fun v s1 ⟨x,H1,I1,r1,q1⟩=>test_link (c8 (hb pins s1 σ H1 _ I1 q1) fun u s2 ⟨y,H2,I2,r2,q2⟩=>
  c8 (ho pins s2 σ H2 x y v u _ I2 r1 r2 q2) fun d s3 ⟨z,H3,I3,r3,k,e,q3⟩=> ?_)) hm
 subst e;cases r3;refine Nj ?_;cases k with
 |false=>obtain⟨k',e',q'⟩:=q3;cases e';exact ite_ff ⟨H3,I3,q'⟩
 |true=>refine ite_tt (test_last (c8 (hc pins s3 σ H3 _ I3 q3) fun w' s4 ⟨z',H4,I4,r4,q4⟩=>c8 (Ve pins s4 σ H4 y z' u w' _ I4 r2 r4 q4) fun d' s5 ⟨z2,H5,I5,r5,k2,e2,q5⟩=> ?_));subst e2;cases r5;exact Nj ⟨H5,I5,q5⟩
theorem uU:(Mq:Nat)<2^63:=by rw[Px];decide
theorem iy {x:V} {us:List L5} (r:Vals [x] us):∃u,us=[u]/\RelV x u:=by
 cases r with
 |cons r1 r2=>cases r2;exact⟨_,rfl,r1⟩
theorem Dv {x y:V} {us:List L5} (r:Vals [x,y] us):∃u w',us=[u,w']/\RelV x u/\RelV y w':=by
 cases r with
 |cons r1 r2=>
  cases r2 with
  |cons r3 r4=>cases r4;exact⟨_,_,rfl,r1,r3⟩
theorem AU (hc:X.calm=true):Oq X (.builtin "max") (fun xs H Q=>∃i j,xs=[.int i,.int j]/\Q (.int (if j>i then j else i)) H):=by
 intro pins s σ H xs us Q I r h;obtain⟨i,j,rfl,q⟩:=h;obtain⟨u,w',rfl,⟨t,rfl⟩,⟨t',rfl⟩⟩:=Dv r;refine max_two_ints (I.ok.hd hc) fun h' tk k=>⟨_,H,I.kept k,?_,q⟩;by_cases hj:j>i
 ·rw[if_pos hj,if_pos hj];exact⟨_,rfl⟩
 ·rw[if_neg hj,if_neg hj];exact⟨_,rfl⟩
theorem AF:Oq X (.type "int") (fun xs H Q=>(∃i,xs=[.int i]/\Q (.int i) H)\/∃k,xs=[.bl k]/\Q (.int (if k then 1 else 0)) H):=by
 intro pins s σ H xs us Q I r h;rcases h with⟨i,rfl,q⟩|⟨k,rfl,q⟩
 ·obtain⟨u,rfl,t,rfl⟩:=iy r;exact call_int_int ⟨.int i,H,I,⟨_,rfl⟩,q⟩
 ·obtain⟨u,rfl,r1⟩:=iy r;cases r1;exact call_int_bool ⟨.int (if k then 1 else 0),H,I.tok _,⟨_,rfl⟩,q⟩
def JN (K:Bn) (x:V) (H:Hp) (n:Nat):Prop:=
 match x with
 | .str y=>y.length<=Mq/\n=y.length
 | .WW y=>y.size<=Mq/\n=y.size
 | .ref p=>(∃xs,PU K H p xs/\n=xs.length)\/∃xs,P4 K H p xs/\n=xs.length
 |_=>False
theorem eJ:Oq X (.builtin "len") (fun xs H Q=>∃x n,xs=[x]/\JN X.K x H n/\Q (.int n) H):=by
 intro pins s σ H xs us Q I r h;obtain⟨x,n,rfl,e,q⟩:=h;obtain⟨u,rfl,rx⟩:=iy r;have hl:=uU;have hs:Mq=16777216:=Px;cases x with
 |str y=>obtain⟨t,rfl⟩:=rx;obtain⟨hy,e'⟩:y.length<=Mq/\n=y.length:=e;subst e';exact len_str (by omega) ⟨.int _,H,I.tok _,⟨_,rfl⟩,q⟩
 |WW y=>obtain⟨t,rfl⟩:=rx;obtain⟨hy,e'⟩:y.size<=Mq/\n=y.size:=e;subst e';exact PySem.W.len_bytes (by omega) ⟨.int _,H,I.tok _,⟨_,rfl⟩,q⟩
 |ref p=>
  cases rx;have e':(∃xs,PU X.K H p xs/\n=xs.length)\/∃xs,P4 X.K H p xs/\n=xs.length:=e;rcases e' with⟨xs,hx,e'⟩|⟨xs,hx,e'⟩
  ·subst e';obtain⟨MY,r',pl,hz⟩:=I.list hx;have hlen:=r'.length;exact Calls.call_len_list pl.isList (by simp only[Mo];omega) ⟨.int xs.length,H,I.tok _,⟨_,by simp only[Mo];rw[hlen]⟩,q⟩
  ·subst e';obtain⟨MY,r',pl,hz⟩:=I.tuple hx;have hlen:=r'.length;exact len_tuple pl (by simp only[Mo];omega) ⟨.int xs.length,H,I.tok _,⟨_,by simp only[Mo];rw[hlen]⟩,q⟩
 |_=>exact(show False from e).elim
end
structure Tp (h:Heap) (x dx C:L8) (mA:Str->Option L5):Prop where
 obj:h.get? x=some (NP C dx)
 ns:h.Ns1 dx mA
 ne:dx≠x
theorem Aq {h:Heap} {dx:L8} {mA:Str->Option L5} (n:h.Ns1 dx mA):∃od,h.get? dx=some od/\∀name,Qo name od=some (mA name):=by
 obtain⟨o,es,ep,ho,hd,hk,_,hm⟩:=n;refine⟨o,ho,fun name=> ?_⟩;have e:=hm name;unfold nsFind findBy at e;rw[<-Array.find?_toList] at e;unfold Qo;rw[hd];dsimp only;split
 ·rename_i y q;rw[q] at e;exact congrArg some e
 ·rename_i q
  rw[q] at e;have a:es.toList.any (·.refKey)=false:=by rw[List.any_eq_false];intro y hy;obtain⟨z,t,ZM⟩:=hk y (Array.mem_toList_iff.mp hy);simp[Xf.refKey,ZM]
  have a':¬es.toList.any (·.refKey)=true:=by rw[a];exact Mx
  rw[if_neg a'];exact congrArg some e
theorem Tp.look {h:Heap} {x dx C:L8} {mA:Str->Option L5} (I:Tp h x dx C mA):∃od,PySem.W.InstAt h x (NP C dx) C (some od)/\∀name,Qo name od=some (mA name):=
 let⟨od,ho,hl⟩:=Aq I.ns
 ⟨od,⟨I.obj,rfl,rfl,ho⟩,hl⟩
section
variable {prog:My} {w:MS} {A:MO} {E:L5->Ma->Prop} {s:Ma} {K:Bn} {x dx C f:L8} {mA:Str->Option L5} {name:Str} {v:L5}
theorem F2 {expr:Bool} {Q:L5->Ma->Prop} (X:K.In s.heap) (I:Tp s.heap x dx C mA) (hg:OY K C name=true) (hh:PF K C=true)
  (ha:M9 K (.ref C) name=some none) (hv:mA name=some v) (XJ:TN v=true) (h:Q v {s with toks:=s.toks+1}):
  wpAny (model prog w) A (getAttr (.ref x) name expr) Q E s:=by
 obtain⟨od,J,hl⟩:=I.look;exact PySem.W.get_value X J (QB hg).1 (PySem.W.findObj_own hh ha rfl (by rw[hl,hv])) XJ h
theorem DC {pl:Sem Bool} {Q:L5×List L5->Ma->Prop} (X:K.In s.heap) (I:Tp s.heap x dx C mA) (hg:OY K C name=true)
  (hf:M9 K (.ref C) name=some (some (.ref f))) (ht:QX K (.ref f)=true) (hv:mA name=none) (h:Q (.ref f,[.ref x]) s):
  wpAny (model prog w) A (getMethod (.ref x) name pl) Q E s:=by
 obtain⟨od,J,hl⟩:=I.look;exact PySem.W.method_fn X J (QB hg).1 (QB hg).2 hf (beq_iff_eq.mp ht) (by show(Qo name od).map (·.isSome)=some false;rw[hl,hv];rfl) h
theorem FV {ns:List Str} {Q:Unit->Ma->Prop} (X:K.In s.heap) (I:Tp s.heap x dx C mA)
  (hs:M9 K (.ref C) "__setattr__"=some (some (.builtin "object.__setattr__"))) (hp:QY K C=true) (ht:Rp K C name=some none) (hh:PF K C=true)
  (hw:SK mA ns) (hsz:ns.length<=Mq)
  (h:∀h',Tp h' x dx C (fun y=>if y=name then some v else mA y)->Heap.SameBut dx s.heap h'->Q () {s with heap:=h',toks:=s.toks+2}):
  wpAny (model prog w) A (setAttr (.ref x) name v) Q E s:=by
 obtain⟨od,J,hl⟩:=I.look;refine PySem.W.set_plain X J hs (PySem.W.osa_open (s:={s with toks:=s.toks+1}) (r:=none) X J hp ht fun b=> ?_);obtain⟨cd,hc,T5⟩:=PySem.W.any_some hh;have hx:s.heap.get? x=some ⟨.ref C,some dx,.plain,#[]⟩:=I.obj;refine L6 (Mi (L6 (L6 (wpAny_loadPart hx (L6 (Xg (s:={s with toks:=s.toks+1}) (PySem.W.looks_clsIn X hc) ?_))))));rw[T5];refine Mi (a:=some dx) (L6 (Mi (L6 ?_)));refine wpAny_nsSet1 (s:={s with toks:=s.toks+1}) I.ns fun h' Ys Q1=> ?_;obtain⟨oD,esD,epD,hoD,hdD,hcD⟩:=Ys.count (Yi name v hw);refine L6 (wpAny_lookBehind hoD (by rw[hdD];exact pastItsLine_dict (MQ hcD (by rw[Mm];omega))) ?_);exact Mi (h _ ⟨(Q1.2 _ (Ne.symm I.ne)).trans I.obj,Ys,I.ne⟩ Q1)
theorem Bo {R:Ta->Ma->Prop} {vs:List L5} {kw:List (Str×L5)} (X:K.In s.heap) (hm:Rq K C=true)
  (hi:M9 K (.ref C) "__init__"=some (some (.ref f))) (hf:PySem.W.typeIn K (.ref f)=some (.type "function"))
  (h:codeAny (model prog w) (A.under (.builtin "type.__call__" ⟨.ref C::vs,kw⟩)) (.call (.ref f) ⟨.ref (s.heap.objs.size+1)::vs,kw⟩) (PySem.W.InitBack (s.heap.objs.size+1) R)
   {s with heap:=(s.heap.push Nm).push (NP C s.heap.objs.size)}):
  codeAny (model prog w) A (.call (.ref C) ⟨vs,kw⟩) R s:=by
 obtain⟨hh,g,d,t,os⟩:=s;exact PySem.W.make_core (PySem.W.makes_of X hm) (PySem.W.looks_findIn X hi) (fun self=>PySem.W.bind_fn X self hf) (.inl rfl) h
end
noncomputable def jj (f:Str) (v:V):List (Str×V)->List (Str×V)
 |[]=>[(f,v)]
 |(g,x)::r=>if g=f then(g,v)::r else(g,x)::jj f v r
theorem oG (f g:Str) (v:V):∀fs:List (Str×V),(jj f v fs).lookup g=if g=f then some v else fs.lookup g
 |[]=>by
  show Pm g [(f,v)]=_;by_cases h:g=f
  ·have hb:(g==f)=true:=beq_iff_eq.mpr h;simp only[Pm,hb,if_pos h]
  ·have hb:(g==f)=false:=beq_eq_false_iff_ne.mpr h;simp only[Pm,hb,if_neg h]
 |(k,x)::r=>by
  have ih:=oG f g v r;rw[show jj f v ((k,x)::r)=(if k=f then(k,v)::r else(k,x)::jj f v r) from rfl];by_cases hk:k=f
  ·rw[if_pos hk]
   by_cases h:g=k
   ·have hb:(g==k)=true:=beq_iff_eq.mpr h;simp only[Pm,hb,if_pos (h.trans hk)]
   ·have hb:(g==k)=false:=beq_eq_false_iff_ne.mpr h;simp only[Pm,hb,if_neg (fun e:g=f=>h (e.trans hk.symm))]
  ·rw[if_neg hk]
   by_cases h:g=k
   ·have hb:(g==k)=true:=beq_iff_eq.mpr h;simp only[Pm,hb,if_neg (fun e:g=f=>hk (h.symm.trans e))]
   ·have hb:(g==k)=false:=beq_eq_false_iff_ne.mpr h;simp only[Pm,hb];exact ih
theorem nA (f:Str) (v:V):∀fs:List (Str×V),f∈(jj f v fs).map (·.1)/\∀g,g∈fs.map (·.1)->g∈(jj f v fs).map (·.1)
 |[]=>⟨by simp[jj],fun g h=>by simp at h⟩
 |(k,x)::r=>by
  obtain⟨i1,i2⟩:=nA f v r;rw[show jj f v ((k,x)::r)=(if k=f then(k,v)::r else(k,x)::jj f v r) from rfl];by_cases hk:k=f
  ·rw[if_pos hk];subst hk;exact⟨by simp,fun g h=>by simpa using h⟩
  ·rw[if_neg hk]
   refine⟨?_,fun g h=> ?_⟩
   ·rw[Ms];exact Mj _ i1
   ·rw[Ms] at h⊢
    rcases MH.mp h with e|e
    ·exact MH.mpr (.inl e)
    ·exact Mj _ (i2 g e)
theorem oy (f:Str) (v:V):∀fs:List (Str×V),(jj f v fs).length<=fs.length+1
 |[]=>by simp[jj]
 |(k,x)::r=>by
  have ih:=oy f v r;rw[show jj f v ((k,x)::r)=(if k=f then(k,v)::r else(k,x)::jj f v r) from rfl];by_cases hk:k=f
  ·rw[if_pos hk,Mm,Mm];omega
  ·rw[if_neg hk,Mm,Mm];omega
theorem QA.some_of {v:V} {o:Option L5} (r:QA (some v) o):∃u,o=some u/\RelV v u:=by
 cases o with
 |none=>exact(show False from r).elim
 |some u=>exact⟨u,rfl,r⟩
theorem QA.none_of {o:Option L5} (r:QA none o):o=none:=by
 cases o with
 |none=>rfl
 |some u=>exact(show False from r).elim
theorem Ar {v:V} {u:L5} (r:RelV v u):TN u=true:=by
 cases v with
 |OT=>cases(show u=L5.none from r);rfl
 |bl b=>cases(show u=L5.bool b from r);rfl
 |int i=>obtain⟨t,e⟩:=(show∃t,u=L5.int i t from r);cases e;rfl
 |str x=>obtain⟨t,e⟩:=(show∃t,u=L5.str x t from r);cases e;rfl
 |WW b=>obtain⟨t,e⟩:=(show∃t,u=L5.bytes b t from r);cases e;rfl
 |WY b=>obtain⟨t,e⟩:=(show∃t,u=L5.float b t from r);cases e;rfl
 |ref a=>cases(show u=L5.ref a from r);rfl
 |ty n=>cases(show u=L5.type n from r);rfl
section
variable {P:My} {w:MS} {H H':Hp} {h h':Heap} {a C dx:L8} {fs fs':List (Str×V)}
theorem uA (Nw:QU P w H h) (e:H a=some (.ins C dx fs)):∃mA,Tp h a dx C mA/\(∀f,QA (fs.lookup f) (mA f))/\SK mA (fs.map (·.1))/\fs.length<=1000/\H dx=some (.own a):=by obtain⟨d,z,ne,ob,mA,n,r,q⟩:=(show ObjOk P w H h a (.ins C dx fs) from Nw a _ e);exact⟨mA,⟨ob,n,ne⟩,r,q,z,d⟩
end
structure T2 (K:Bn) (C:L8):Prop where
 pg:OY K C Str.empty=true
 hd:PF K C=true
 po:QY K C=true
 sa:M9 K (.ref C) "__setattr__"=some (some (.builtin "object.__setattr__"))
theorem T2.get {K:Bn} {C:L8} (c:T2 K C) (f:Str):OY K C f=true:=c.pg
def Qy (K:Bn) (C:L8) (f:Str):Prop:=M9 K (.ref C) f=some none
theorem Qy.XB {K:Bn} {C:L8} {f:Str} (n:Qy K C f):Rp K C f=some none:=by unfold Rp;rw[show M9 K (.ref C) f=some none from n];rfl
structure Vd (K:Bn) (C:L8) (f:Str) (v:V) (u:L5):Prop where
 at_:M9 K (.ref C) f=some (some u)
 rel:RelV v u
 get:Tt K u "__get__"=some none
 cp:PySem.W.copiedNames.contains f=false
structure Meth (K:Bn) (C:L8) (m:Str) (f:L8):Prop where
 at_:M9 K (.ref C) m=some (some (.ref f))
 fn:QX K (.ref f)=true
 kp:Ol K (.ref f)=true
section
variable {X:Cx} {pins:List (L8×Obj)} {σ:St} {H:Hp} {s:Ma} {a C dx:L8} {fs:List (Str×V)} {f:Str} {v:V} {A:MO} {E:L5->Ma->Prop}
theorem xZ {b:Bool} {Q:L5->Ma->Prop} (I:Inv X pins σ H s) (e:H a=some (.ins C dx fs)) (c:T2 X.K C) (n:Qy X.K C f) (l:fs.lookup f=some v)
  (h:∀u s',Inv X pins σ H s'->RelV v u->Q u s'):wpAny (model X.prog X.w) A (getAttr (.ref a) f b) Q E s:=by
 obtain⟨mA,O,r,_,_,_⟩:=uA I.Nw e;obtain⟨u,hu,ru⟩:=QA.some_of (v:=v) (o:=mA f) (by rw[<-l];exact r f);exact F2 I.RO O (c.get f) c.hd n hu (Ar ru) (h u _ (I.tok _) ru)
theorem pP {m:Str} {g:L8} {pl:Sem Bool} {Q:L5×List L5->Ma->Prop} (I:Inv X pins σ H s) (e:H a=some (.ins C dx fs)) (c:T2 X.K C) (k:Meth X.K C m g) (l:fs.lookup m=none)
  (h:Q (.ref g,[.ref a]) s):wpAny (model X.prog X.w) A (getMethod (.ref a) m pl) Q E s:=by
 obtain⟨mA,O,r,_,_,_⟩:=uA I.Nw e;have hn:mA m=none:=QA.none_of (by rw[<-l];exact r m);exact DC I.RO O (c.get m) k.at_ k.fn hn h
theorem xg {y:V} {u:L5} {Q:Unit->Ma->Prop} (I:Inv X pins σ H s) (e:H a=some (.ins C dx fs)) (c:T2 X.K C) (n:Qy X.K C f) (hl:fs.length<1000) (ry:RelV y u)
  (h:∀s',Inv X pins σ (bA H a (.ins C dx (jj f y fs))) s'->Q () s'):wpAny (model X.prog X.w) A (setAttr (.ref a) f u) Q E s:=by
 obtain⟨mA,O,r,wi,_,ho⟩:=uA I.Nw e;have hz:(fs.map (·.1)).length<=Mq:=by rw[L7,Px];omega
 refine FV I.RO O c.sa c.po n.XB c.hd wi hz fun h' O' sb=>h _ ?_;have hd:∃o,h'.get? dx=some o:=let⟨o,_,_,e',_⟩:=O'.ns;⟨o,e'⟩
 refine I.write (x:=a) (e:=dx) (by rw[e];exact True.intro) (.inr ho) (fun b q hb z=>(sb.2 b hb).trans z) hd ?_;refine⟨by rw[aO O.ne];exact ho,?_,O.ne,O'.obj,_,O'.ns,fun g=> ?_,fun g hg=> ?_⟩
 ·have:=oy f y fs;omega
 ·show QA ((jj f y fs).lookup g) (if g=f then some u else mA g)
  rw[oG];by_cases q:g=f
  ·rw[if_pos q,if_pos q];exact ry
  ·rw[if_neg q,if_neg q];exact r g
 ·by_cases q:g=f
  ·rw[q];exact(nA f y fs).1
  ·refine(nA f y fs).2 g (wi g fun z=>hg ?_);show(if g=f then some u else mA g)=none;rw[if_neg q];exact z
theorem Inv.made (I:Inv X pins σ H s):Inv X pins σ (bA (bA H s.heap.objs.size (.own (s.heap.objs.size+1))) (s.heap.objs.size+1) (.ins C s.heap.objs.size []))
  {s with heap:=(s.heap.push Nm).push (NP C s.heap.objs.size)}:=by
 have e1:(s.heap.push Nm).get? s.heap.objs.size=some Nm:=Heap.get?_push_size s.heap rfl;have e2:((s.heap.push Nm).push (NP C s.heap.objs.size)).get? (s.heap.objs.size+1)=some (NP C s.heap.objs.size):=by have:=Heap.get?_push_size (s.heap.push Nm) (o:=NP C s.heap.objs.size) rfl;rwa [Heap.size_push] at this
 have e3:(s.heap.push Nm).Ns s.heap.objs.size (fun _=>none):=⟨Nm,#[],_,e1,rfl,(fun e he=>absurd he (by simp)),fun _=>rfl⟩;have I1:=I.laid (a:=s.heap.objs.size) (o:= .own (s.heap.objs.size+1)) (h':=s.heap.push Nm) (t':=s.toks) (fun b u q=>Heap.get?_push_of_some _ q) (Mh _) ⟨_,e1⟩;refine I1.laid (a:=s.heap.objs.size+1) (o:= .ins C s.heap.objs.size []) (t':=s.toks) (fun b u q=>Heap.get?_push_of_some _ q) (Xh (Heap.size_push _ _)) ?_;have ne:s.heap.objs.size≠s.heap.objs.size+1:=MD (Qi _);refine⟨by rw[aO ne,aH],MN _,ne,e2,fun _=>none,(Heap.Ns1.of_empty e3).at fun o q=>Heap.get?_push_of_some _ q,fun _=>True.intro,fun y hy=>absurd rfl hy⟩
theorem F0 {prog:My} {w:MS} {env:Env} {e:MR} {f:Str} {pos:Pos} {s:Ma} {Q:L5->Ma->Prop} (hb:attributeBase e f env (eval e env)=eval e env)
  (h:wpAny (model prog w) A (eval e env) (fun o s₁=>wpAny (model prog w) A (getAttr o f true) Q E s₁) E s):wpAny (model prog w) A (eval (.Attribute e f pos) env) Q E s:=
 Attribute_any_ h (by rw[arm_eval_Attribute,hb])
end
def JI (K:Bn) (ta:TE) (f:Str):TE:=fun σ H Q=>ta σ H fun x H1=>∃a C dx fs v,x= .ref a/\H1 a=some (.ins C dx fs)/\T2 K C/\Qy K C f/\fs.lookup f=some v/\Q v H1
def JO (K:Bn) (ta tv:TE) (f:Str):TS:=fun D σ H=>tv σ H fun y H1=>ta σ H1 fun x H2=>∃a C dx fs,x= .ref a/\H2 a=some (.ins C dx fs)/\T2 K C/\Qy K C f/\fs.length<1000/\
 D.nx σ (bA H2 a (.ins C dx (jj f y fs)))
section
variable {X:Cx} {o e value:MR} {f:Str} {pos pos' aak:Pos} {ta tv:TE}
theorem jA (he:PE X e ta) (hb:attributeBase e f X.env (eval e X.env)=eval e X.env):PE X (.Attribute e f pos) (JI X.K ta f):=by intro pins s σ H Q I h;refine F0 hb (c8 (he pins s σ H _ I h) fun u s1 ⟨x,H1,I1,rx,a,C,dx,fs,v,ex,ea,c,n,l,q⟩=> ?_);subst ex;obtain rfl:u=L5.ref a:=rx;exact xZ I1 ea c n l fun u' s2 I2 ru=>⟨v,H1,I2,ru,q⟩
theorem x9 (ha:PE X o ta) (hv:PE X value tv) (hs:NN value (some (.Attribute o f pos')) pos.line X.env=pure false):PS X (.Assign [.Attribute o f pos'] value pos) (JO X.K ta tv f):=by intro pins s σ H D I h;refine plainObj_wpAny_Assign_Attribute (c8 (hv pins s σ H _ I h) fun u s1 ⟨y,H1,I1,ry,q⟩=>c8 (ha pins s1 σ H1 _ I1 q) fun ov s2 ⟨x,H2,I2,rx,a,C,dx,fs,ex,ea,c,n,l,q2⟩=> ?_) hs;subst ex;obtain rfl:ov=L5.ref a:=rx;exact xg I2 ea c n l ry fun s3 I3=>⟨σ,_,I3,q2⟩
end
section
variable {X:Cx} {pins:List (L8×Obj)} {σ:St} {H:Hp} {s:Ma} {A:MO} {E:L5->Ma->Prop} {Q:L5->Ma->Prop} {c:L5} {b:Bool}
inductive RK (K:Bn) (H:Hp):V->L5->Prop where
 |OT:RK K H .OT (.type "NoneType")
 |bl (x:Bool):RK K H (.bl x) (.type "bool")
 |int (i:Int):RK K H (.int i) (.type "int")
 |str (x:Str):RK K H (.str x) (.type "str")
 |WY (x:UInt64):RK K H (.WY x) (.type "float")
 |lst {a:L8} {xs:List V} (e:H a=some (.lst xs)):RK K H (.ref a) (.type "list")
 |frz {a:L8} {o:Obj} {xs:List V} (e:H a=some (.frz o (.lst xs))):RK K H (.ref a) (.type "list")
 |tup {a:L8} {xs:List V} (e:H a=some (.tup xs)):RK K H (.ref a) (.type "tuple")
 |dK {a:L8} {kvs:List (bt×V)} (e:H a=some (.dK kvs)):RK K H (.ref a) (.type "dict")
 |dT {a:L8} {kvs:List (List bt×V)} (e:H a=some (.dT kvs)):RK K H (.ref a) (.type "dict")
 |ins {a C dx:L8} {fs:List (Str×V)} (e:H a=some (.ins C dx fs)) (cl:T2 K C) (ha:M9 K (.ref C) "__class__"=some (some (.builtin "object.__class__")))
   (hn:Tt K (.builtin "object.__class__") "__get__"=some (some (.builtin "getset_descriptor.__get__"))) (htk:PySem.W.takesIn K (.builtin "object.__class__")=some true)
   (hm:PySem.W.mroIn K C (.type "object")=some true):RK K H (.ref a) (.ref C)
end
structure Og (k:Nat) (A:MO):Prop where
 hd:A.handled=none
 dp:A.depth+3*k+5<recursionLimit
 un:A.units+16*k+200<cLine
theorem Og.mono {j k:Nat} {A:MO} (r:Og k A) (h:j<=k):Og j A:=⟨r.hd,by have:=r.dp;omega,by have:=r.un;omega⟩
theorem Og.deeper {k:Nat} {A:MO} (r:Og (k+1) A) (env:Env):Og k (A.deeper env):=
 ⟨r.hd,by have:=r.dp;show A.depth+1+3*k+5<_;omega,by have:=r.un;show A.units+3+16*k+200<_;omega⟩
theorem w9 {A:MO} {C:L8} {us:List L5} {kw:List (Str×L5)}:(A.under (.builtin "type.__call__" ⟨.ref C::us,kw⟩)).depth=A.depth+1:=by
 first|rfl|simp[MO.under,Uo.weight,Uo.isCreation,Uo.isGuard,Uo.isCaller,Uo.frames,Uo.isFrame,guardIds]
theorem xD {A:MO} {C:L8} {us:List L5} {kw:List (Str×L5)}:(A.under (.builtin "type.__call__" ⟨.ref C::us,kw⟩)).units=A.units+1:=by
 first|rfl|simp[MO.under,Uo.cUnits,Uo.frames,Uo.isFrame]
theorem Og.make {k:Nat} {A:MO} (r:Og (k+1) A) (C:L8) (us:List L5) (kw:List (Str×L5)):Og k (A.under (.builtin "type.__call__" ⟨.ref C::us,kw⟩)):=
 ⟨r.hd,by have:=r.dp;rw[w9];omega,by have:=r.un;rw[xD];omega⟩
theorem Og.depth {k:Nat} {A:MO} (r:Og k A):A.depth<recursionLimit:=by have:=r.dp;omega
theorem Og.units {k:Nat} {A:MO} (r:Og k A):A.units+64<cLine:=by have:=r.un;omega
def rF:TA:=fun _ H Q=>Q [] H
def lx (ta:TE) (tr:TA):TA:=fun σ H Q=>ta σ H fun x H1=>tr σ H1 fun xs H2=>Q (x::xs) H2
section
variable {X:Cx} {e:MR} {es:List MR} {te:TE} {t:TA} {pos:Pos}
theorem bf:PA X [] rF:=fun _ _ _ _ H Q I h=>Calls.spliced_nil ⟨[],H,I,.nil,h⟩
theorem aB (ha:PE X e te) (hr:PA X es t) (hs:ML (e::es) X.env=(false,eval e X.env)::ML es X.env:=by rfl):PA X (e::es) (lx te t):=by intro pos pins s σ H Q I h;rw[hs];show wpAny _ _ (spliced ((false,eval e X.env)::backTo pos (ML es X.env))) _ _ s;refine Calls.spliced_cons (c8 (ha pins s σ H _ I h) fun u s1 ⟨x,H1,I1,r1,q1⟩=> ?_);exact c8 (hr pos pins s1 σ H1 _ I1 q1) fun us s2 ⟨xs,H2,I2,r2,q2⟩=>⟨x::xs,H2,I2,.cons r1 r2,q2⟩
def HB (t:TA):TE:=fun σ H Q=>t σ H fun xs H1=>xs.length<=Mq/\∀p,H1 p=none->Q (.ref p) (bA H1 p (.tup xs))
def Kk (t:TA):TE:=fun σ H Q=>t σ H fun xs H1=>xs.length<=Mq/\∀p,H1 p=none->Q (.ref p) (bA H1 p (.lst xs))
theorem tX {x1} (h:PA X es t):PE X (.Tuple es x1 pos) (HB t):=by intro pins s σ H Q I hq;refine wpAny_Tuple_spliced (c8 (h pos pins s σ H _ I hq) fun us s1 ⟨xs,H1,I1,r,z,q⟩=>⟨by rw[<-r.length];exact z,?_⟩);have hf:H1 s1.heap.objs.size=none:=I1.Nw.fresh (Mh _);refine⟨.ref s1.heap.objs.size,bA H1 s1.heap.objs.size (.tup xs),I1.laid (t':=s1.toks) (fun b u e=>Heap.get?_push_of_some _ e) (Mh _) ?_,rfl,q _ hf⟩;exact⟨z,us,r,⟨_,Heap.get?_push_size _ rfl,⟨rfl,_,rfl⟩,rfl⟩⟩
theorem nZ (h:PA X es t):PE X (.List es pos) (Kk t):=by intro pins s σ H Q I hq;refine wpAny_List_spliced (c8 (h pos pins s σ H _ I hq) fun us s1 ⟨xs,H1,I1,r,z,q⟩=>⟨by rw[<-r.length];exact z,?_⟩);have hf:H1 s1.heap.objs.size=none:=I1.Nw.fresh (Mh _);refine⟨.ref s1.heap.objs.size,bA H1 s1.heap.objs.size (.lst xs),I1.laid (t':=s1.toks) (fun b u e=>Heap.get?_push_of_some _ e) (Mh _) ?_,rfl,q _ hf⟩;exact⟨z,us,0,r,Heap.get?_push_size _ rfl⟩
end
abbrev Sp:=List V->Hp->VK->XK->Prop
abbrev xp:=List Env->Hp->Ma->XK->L5->Ma->Prop
structure Env0 (P:My) (w:MS) (K:Bn) (mg:Str->Option L5) (base:Heap) (A:MO) (outer:List Env) (s:Ma) (H:Hp):Prop where
 frames:A.frames=some outer
 mod:Mod K mg base
 bs:∀b o,base.get? b=some o->s.heap.get? b=some o/\H b=none
 U1:base.objs.size<=s.heap.objs.size
 Rb:s.heap.FunFrames base outer
 VH:∀b∈A0 outer,H b=none
 Nw:QU P w H s.heap
 bare:AllBare s.gens
def CE (outer:List Env) (P:My) (w:MS) (H:Hp) (s:Ma) (Q:VK) (u:L5) (s':Ma):Prop:=
 ∃v H',s'.os=s.os/\AllBare s'.gens/\Un (A0 outer) [] H H' s.heap s'.heap/\QU P w H' s'.heap/\RelV v u/\Q v H'
def CR (CX:xp) (outer:List Env) (P:My) (w:MS) (H:Hp) (s:Ma) (Q:VK) (E:XK) (r:Ta) (s':Ma):Prop:=
 match r with
 | .ok (.ret u)=>CE outer P w H s Q u s'
 | .ok _=>False
 | .error e=>CX outer H s E e s'
structure FnOk (P:My) (w:MS) (K:Bn) (mg:Str->Option L5) (base:Heap) (CX:xp) (k:Nat) (f:L8) (fd:Nk) (ps:List Str) (sp:Sp):Prop where
 len:∀vs H Q E,sp vs H Q E->vs.length=ps.length
 run:∀(A:MO) (outer:List Env) (s:Ma) (H:Hp) (args:Args) (us:List L5) (vs:List V) (Q:VK) (E:XK),Og k A->Env0 P w K mg base A outer s H->Rh s fd args (ps.zip us)->Vals vs us->sp vs H Q E->
  codeAny (model P w) A (.call (.ref f) args) (CR CX outer P w H s Q E) s
theorem FnOk.imp {P:My} {w:MS} {K:Bn} {mg:Str->Option L5} {base:Heap} {CX:xp} {k:Nat} {f:L8} {fd:Nk} {ps:List Str} {sp sp':Sp} (F:FnOk P w K mg base CX k f fd ps sp)
  (h:∀vs H Q E,sp' vs H Q E->sp vs H Q E):FnOk P w K mg base CX k f fd ps sp':=
 ⟨fun vs H Q E q=>F.len vs H Q E (h _ _ _ _ q),fun A outer s H args us vs Q E hr he hb hv hs=>F.run A outer s H args us vs Q E hr he hb hv (h _ _ _ _ hs)⟩
theorem Env0.make {P:My} {w:MS} {K:Bn} {mg:Str->Option L5} {base:Heap} {A:MO} {outer:List Env} {s:Ma} {H:Hp} (e:Env0 P w K mg base A outer s H) (C:L8) (us:List L5) (kw:List (Str×L5)):
  Env0 P w K mg base (A.under (.builtin "type.__call__" ⟨.ref C::us,kw⟩)) outer s H:=⟨by first|exact e.frames|(simpa [MO.under,Uo.envs,Uo.isFrame,pushEnvs] using e.frames),e.mod,e.bs,e.U1,e.Rb,e.VH,e.Nw,e.bare⟩
section
variable {X:Cx} {pins:List (L8×Obj)} {σ:St} {H:Hp} {s s':Ma}
theorem Inv.XY (I:Inv X pins σ H s):Env0 X.prog X.w X.K X.mg X.base X.A X.stack s H:=
 ⟨I.ok.frames,I.ok.mod,I.bs,MQ I.ok.U1 I.sz,I.stack,I.TH,I.Nw,I.bare⟩
theorem Inv.after {Q:VK} {u:L5} (I:Inv X pins σ H s) (h:CE X.stack X.prog X.w H s Q u s'):EP X pins σ Q u s':=by obtain⟨v,H',os,bare,un,Nw,r,q⟩:=h;obtain⟨hh,g,d,t,os'⟩:=s';obtain rfl:os'=s.os:=os;exact⟨v,H',I.call (h':=hh) (g':=g) (d':=d) (t':=t) (ch:=[]) un Nw bare (fun b z=>absurd z (by simp)),r,q⟩
end
def sG (sp:Sp) (Rg:List V) (E:XK) (t:TA):TE:=fun σ H Q=>t σ H fun vs H1=>sp (vs++Rg) H1 Q E
def zM (C:L8) (m:Str) (sp:Sp) (Rg:List V) (E:XK) (ta:TE) (t:TA):TE:=fun σ H Q=>ta σ H fun x H1=>∃a dx fs,x= .ref a/\H1 a=some (.ins C dx fs)/\fs.lookup m=none/\
 t σ H1 fun vs H2=>sp (x::(vs++Rg)) H2 Q E
def Df (C:L8) (sp:Sp) (Rg:List V) (E:XK) (t:TA):TE:=fun σ H Q=>t σ H fun vs H1=>∀x dx,H1 x=none->H1 dx=none->dx≠x->
 sp (.ref x::(vs++Rg)) (bA (bA H1 dx (.own x)) x (.ins C dx [])) (fun v H2=>v= .OT/\Q (.ref x) H2) E
def Binds (K:Bn) (fd:Nk) (ps:List Str) (ds:List L5):Prop:=
 ∀(s:Ma) (us:List L5),K.In s.heap->(us++ds).length=ps.length->Rh s fd ⟨us,[]⟩ (ps.zip (us++ds))
theorem Binds.all {K:Bn} {fd:Nk} {ps:List Str} (h:∀us:List L5,us.length=ps.length->bindArgs fd ⟨us,[]⟩=pure (ps.zip us)):Binds K fd ps []:=fun s us _ hl=>by rw[ME] at hl⊢;exact .of_eq (h us hl)
def jd (CX:xp) (X:Cx) (E:XK):Prop:=∀(pins:List (L8×Obj)) (σ:St) (H:Hp) (s:Ma) (e:L5) (s':Ma),Inv X pins σ H s->CX X.stack H s E e s'->X.xe e s'
section
variable {X:Cx} {CX:xp} {k:Nat} {f C:L8} {fd:Nk} {ps:List Str} {sp:Sp} {Rg:List V} {ds:List L5} {E:XK} {x m:Str} {p pos apos:Pos} {e o:MR} {es:List MR} {ta:TE} {t:TA}
theorem xc {pins:List (L8×Obj)} {σ:St} {H:Hp} {s:Ma} {Q:VK} {us:List L5} {vs:List V} (F:FnOk X.prog X.w X.K X.mg X.base CX k f fd ps sp) (hr:Og k X.A) (hb:Binds X.K fd ps ds) (hd:Vals Rg ds) (hx:jd CX X E)
  (I:Inv X pins σ H s) (r:Vals vs us) (h:sp (vs++Rg) H Q E):wpAny (model X.prog X.w) X.A (call (.ref f) us) (EP X pins σ Q) X.xe s:=by
 have r2:Vals (vs++Rg) (us++ds):=r.append hd;have hl:(us++ds).length=ps.length:=by rw[<-r2.length];exact F.len _ _ _ _ h
 refine VX (RP (F.run X.A X.stack s H ⟨us,[]⟩ (us++ds) (vs++Rg) Q E hr I.XY (hb s us I.RO hl) r2 h) fun r s' hq=> ?_);cases r with
 |error e=>exact hx pins σ H s e s' I hq
 |ok fl=>
  cases fl with
  |ret u=>exact I.after hq
  |next=>exact False.elim hq
  |brk=>exact False.elim hq
  |cont=>exact False.elim hq
theorem FR (F:FnOk X.prog X.w X.K X.mg X.base CX k f fd ps sp) (hr:Og k X.A) (hg:Gl X x) (hm:X.mg x=some (.ref f)) (hk:Ol X.K (.ref f)=true) (hb:Binds X.K fd ps ds) (hd:Vals Rg ds) (hx:jd CX X E)
  (ha:PA X (e::es) t) (Uv:(x==("__debug__":Str))=false:=by decide) (he:ML (e::es) X.env=(false,eval e X.env)::ML es X.env:=by rfl) (SJ:(backTo pos (ML es X.env)).any (·.1)=false:=by rfl):
  PE X (.Call (.Name x p) (e::es) [] pos) (sG sp Rg E t):=by
 intro pins s σ H Q I h;refine OZ (tV I hg hm ?_ Uv);refine QN (h₀:=X.base) I.ok.mod.Xy hk (c8 (ha pos pins s σ H _ I h) fun us s1 ⟨vs,H1,I1,r,q⟩=>⟨I1.RO,?_⟩) he SJ;exact xc F hr hb hd hx I1 r q
theorem EH {pl:Sem Bool} (he:PE X o ta) (c:T2 X.K C) (hm:Meth X.K C m f) (F:FnOk X.prog X.w X.K X.mg X.base CX k f fd ps sp) (hr:Og k X.A) (hb:Binds X.K fd ps ds) (hd:Vals Rg ds) (hx:jd CX X E) (ha:PA X (e::es) t)
  (eC:ML (e::es) X.env=(false,eval e X.env)::ML es X.env:=by rfl) (SJ:(backTo pos (ML es X.env)).any (·.1)=false:=by rfl)
  (ht:eval (.Call (.Attribute o m apos) (e::es) [] pos) X.env=(do
   let ov<-eval o X.env
   standAt apos.atName
   let(f,first)<-holding [ov] (getMethod ov m pl)
   callWith pos f first (backTo pos (ML (e::es) X.env)) (backToKw pos (keywordEach [] X.env))):=by rfl):
  PE X (.Call (.Attribute o m apos) (e::es) [] pos) (zM C m sp Rg E ta t):=by
 intro pins s σ H Q I h;refine Sz (pl:=pl) (c8 (he pins s σ H _ I h) fun u s1 ⟨x,H1,I1,rx,a,dx,fs,ex,ea,l,q⟩=> ?_) ht;subst ex;obtain rfl:u=L5.ref a:=rx;refine pP I1 ea c hm l ?_;refine QN (first:=[.ref a]) (h₀:=X.base) I.ok.mod.Xy hm.kp (c8 (ha pos pins s1 σ H1 _ I1 q) fun us s2 ⟨vs,H2,I2,r,q2⟩=>⟨I2.RO,?_⟩) eC SJ;exact xc (us:= .ref a::us) (vs:= .ref a::vs) F hr hb hd hx I2 (.cons rfl r) q2
theorem Cf {pl:Sem Bool} (he:PE X o ta) (c:T2 X.K C) (hm:Meth X.K C m f) (F:FnOk X.prog X.w X.K X.mg X.base CX k f fd ps sp) (hr:Og k X.A) (hb:Binds X.K fd ps ds) (hd:Vals Rg ds) (hx:jd CX X E)
  (ht:eval (.Call (.Attribute o m apos) [] [] pos) X.env=(do
   let ov<-eval o X.env
   standAt apos.atName
   let(f,first)<-holding [ov] (getMethod ov m pl)
   callWith pos f first (backTo pos (ML [] X.env)) (backToKw pos (keywordEach [] X.env))):=by rfl):
  PE X (.Call (.Attribute o m apos) [] [] pos) (zM C m sp Rg E ta rF):=by
 intro pins s σ H Q I h;refine Sz (pl:=pl) (c8 (he pins s σ H _ I h) fun u s1 ⟨x,H1,I1,rx,a,dx,fs,ex,ea,l,q⟩=> ?_) ht;subst ex;obtain rfl:u=L5.ref a:=rx;refine pP I1 ea c hm l ?_;exact PySem.W.callWith_K0 (first:=[.ref a]) I1.RO hm.kp (xc (us:=[.ref a]) (vs:=[.ref a]) F hr hb hd hx I1 (.cons rfl .nil) q)
structure Mk (K:Bn) (C f:L8):Prop where
 makes:Rq K C=true
 init:M9 K (.ref C) "__init__"=some (some (.ref f))
 fn:QX K (.ref f)=true
 kp:Ol K (.ref C)=true
theorem DW {pins:List (L8×Obj)} {σ:St} {H:Hp} {s:Ma} {Q:VK} {us:List L5} {vs:List V} (M:Mk X.K C f) (F:FnOk X.prog X.w X.K X.mg X.base CX k f fd ps sp) (hr:Og (k+1) X.A) (hb:Binds X.K fd ps ds) (hd:Vals Rg ds)
  (hx:jd CX X E) (I:Inv X pins σ H s) (r:Vals vs us)
  (h:∀x dx,H x=none->H dx=none->dx≠x->sp (.ref x::(vs++Rg)) (bA (bA H dx (.own x)) x (.ins C dx [])) (fun v H2=>v= .OT/\Q (.ref x) H2) E):
  wpAny (model X.prog X.w) X.A (call (.ref C) us) (EP X pins σ Q) X.xe s:=by
 have hq:=h (s.heap.objs.size+1) s.heap.objs.size (I.Nw.fresh (QO _)) (I.Nw.fresh (Mh _)) (MD (Qi _));have I2:=Inv.made (C:=C) I;have r2:Vals (V.ref (s.heap.objs.size+1)::(vs++Rg)) (L5.ref (s.heap.objs.size+1)::(us++ds)):= .cons rfl (r.append hd);have hl:(L5.ref (s.heap.objs.size+1)::us++ds).length=ps.length:=by have e:=r2.length;rw[F.len _ _ _ _ hq] at e;exact e.symm
 refine VX (Bo (f:=f) I.RO M.makes M.init (beq_iff_eq.mp M.fn) (RP (F.run _ X.stack _ _ ⟨L5.ref (s.heap.objs.size+1)::us,[]⟩ (L5.ref (s.heap.objs.size+1)::(us++ds)) _ _ E (hr.make C us [])
  (I2.XY.make C us []) (hb _ (L5.ref (s.heap.objs.size+1)::us) I2.RO hl) r2 hq) fun r s' XI=> ?_))
 cases r with
 |error e=>exact hx pins σ _ _ e s' I2 XI
 |ok fl=>
  cases fl with
  |ret u=>obtain⟨v,H',I3,rv,ev,q3⟩:=I2.after XI;subst ev;exact⟨rv,⟨V.ref (s.heap.objs.size+1),H',I3,rfl,q3⟩⟩
  |next=>exact False.elim XI
  |brk=>exact False.elim XI
  |cont=>exact False.elim XI
theorem FY (M:Mk X.K C f) (F:FnOk X.prog X.w X.K X.mg X.base CX k f fd ps sp) (hr:Og (k+1) X.A) (hg:Gl X x) (hm:X.mg x=some (.ref C)) (hb:Binds X.K fd ps ds) (hd:Vals Rg ds) (hx:jd CX X E)
  (ha:PA X (e::es) t) (Uv:(x==("__debug__":Str))=false:=by decide) (he:ML (e::es) X.env=(false,eval e X.env)::ML es X.env:=by rfl) (SJ:(backTo pos (ML es X.env)).any (·.1)=false:=by rfl):
  PE X (.Call (.Name x p) (e::es) [] pos) (Df C sp Rg E t):=by
 intro pins s σ H Q I h;refine OZ (tV I hg hm ?_ Uv);refine QN (h₀:=X.base) I.ok.mod.Xy M.kp (c8 (ha pos pins s σ H _ I h) fun us s1 ⟨vs,H1,I1,r,q⟩=>⟨I1.RO,?_⟩) he SJ;exact DW M F hr hb hd hx I1 r q
end
section
variable {X:Cx} {CX:xp} {k:Nat} {f C:L8} {fd:Nk} {ps ks:List Str} {sp:Sp} {E:XK} {x m:Str} {p pos apos adV:Pos} {e o:MR} {es:List MR} {kws:List RQ} {te ta:TE} {t tk:TA} {nm:Option Str}
structure aaR (K:Bn) (fd:Nk) (ps ks:List Str) (g:List L5->List L5->List L5) (gV:List V->List V->List V):Prop where
 to:∀(s:Ma) (us ws:List L5),K.In s.heap->(g us ws).length=ps.length->Rh s fd ⟨us,ks.zip ws⟩ (ps.zip (g us ws))
 rel:∀{vs:List V} {us:List L5} {zs:List V} {ws:List L5},Vals vs us->Vals zs ws->Vals (gV vs zs) (g us ws)
variable {g:List L5->List L5->List L5} {gV:List V->List V->List V}
end
structure PK (N P:List Str) (sc:OH):Prop where
 kind:sc.kind= .function
 co:sc.isCoroutine=false
 gen:sc.isGenerator=false
 nd:N.Nodup
 pre:N.take P.length=P
 par:∀x∈P,sc.names.lookup x=some .local\/sc.names.lookup x=some .cell
 V9:∀y∈sc.names,y.2≠ .free
theorem sJ {kindOf:Str->Option MK} {x:Str}:∀{binds:List (Str×L5)} {m:Str->Option L5},(∀v,(x,v)∉binds)->bindL kindOf binds m x=m x
 |[],_,_=>rfl
 |(n,v)::r,m,h=>by
  unfold bindL;rw[sJ fun w hw=>h w (Mj _ hw)];split
  ·have:x≠n:=by rintro rfl;exact h v Mp
   simp[this]
  ·rfl
theorem tG {kindOf:Str->Option MK} {x:Str}:∀{binds:List (Str×L5)} {m:Str->Option L5},(∀v,(x,v)∉binds)->bindC kindOf binds m x=m x
 |[],_,_=>rfl
 |(n,v)::r,m,h=>by
  unfold bindC;rw[tG fun w hw=>h w (Mj _ hw)];split
  ·rfl
  ·have:x≠n:=by rintro rfl;exact h v Mp
   simp[this]
theorem sE {kindOf:Str->Option MK} {x:Str} {v:L5}:∀{P:List Str} {vs:List L5} {i:Nat} {m:Str->Option L5},P.Nodup->P[i]? =some x->vs[i]? =some v->kindOf x=some .local->
  bindL kindOf (P.zip vs) m x=some v
 |[],_,_,_,_,h,_,_=>by simp at h
 |_::_,[],_,_,_,_,h,_=>by simp at h
 |p::P,w::vs,0,m,nd,h1,h2,hk=>by simp at h1 h2;subst h1;subst h2;show bindL kindOf ((p,w)::P.zip vs) m p=_;unfold bindL;rw[sJ fun v hv=>(NC.mp nd).1 (Pp hv).1,if_pos hk];simp
 |p::P,w::vs,i+1,m,nd,h1,h2,hk=>by show bindL kindOf ((p,w)::P.zip vs) m x=_;unfold bindL;exact sE (i:=i) (NC.mp nd).2 (by simpa using h1) (by simpa using h2) hk
theorem sF {kindOf:Str->Option MK} {x:Str} {v:L5}:∀{P:List Str} {vs:List L5} {i:Nat} {m:Str->Option L5},P.Nodup->P[i]? =some x->vs[i]? =some v->kindOf x≠some .local->
  bindC kindOf (P.zip vs) m x=some v
 |[],_,_,_,_,h,_,_=>by simp at h
 |_::_,[],_,_,_,_,h,_=>by simp at h
 |p::P,w::vs,0,m,nd,h1,h2,hk=>by simp at h1 h2;subst h1;subst h2;show bindC kindOf ((p,w)::P.zip vs) m p=_;unfold bindC;rw[tG fun v hv=>(NC.mp nd).1 (Pp hv).1,if_neg hk];simp
 |p::P,w::vs,i+1,m,nd,h1,h2,hk=>by show bindC kindOf ((p,w)::P.zip vs) m x=_;unfold bindC;exact sF (i:=i) (NC.mp nd).2 (by simpa using h1) (by simpa using h2) hk
noncomputable def start (N:List Str) (vs:List V):St:=vs.map some++Me (N.length - vs.length) none
noncomputable def pS (CX:xp) (P:My) (w:MS) (K:Bn) (mg:Str->Option L5) (base:Heap) (N:List Str) (qual:Str) (scope:OH) (f:L8) (cd:L5) (A:MO) (outer:List Env) (s:Ma) (H:Hp) (E:XK):Cx where
 prog:=P
 w:=w
 K:=K
 mg:=mg
 base:=base
 A:=A.deeper (envOfC qual scope s.heap.objs.size f cd)
 N:=N
 s₀:=s
 H₀:=H
 env:=envOfC qual scope s.heap.objs.size f cd
 outer:=outer
 stack:=envOfC qual scope s.heap.objs.size f cd::outer
 ex:=[]
 calm:=true
 fn:=fun _=>true
 pn:=[]
 xe:=fun e s'=>wpAny (model P w) (A.deeper (envOfC qual scope s.heap.objs.size f cd)) (leaving (envOfC qual scope s.heap.objs.size f cd) e) (fun _ X4=>CX outer H s E e X4) (fun e' X4=>CX outer H s E e' X4) s'
theorem vS {sc:OH} {n:Nat} {x:Str} (h:sc.names.lookup x=some .cell):∃c,(NQ n sc.names []).lookup x=some c:=by have q:=OP sc.names n [] (.inl h);exact PX.mp q
theorem AR {CX:xp} {P:My} {w:MS} {K:Bn} {mg:Str->Option L5} {base:Heap} {N ps:List Str} {qual:Str} {scope:OH} {f:L8} {cd:L5} {A:MO} {outer:List Env} {s s1:Ma} {H:Hp} {E:XK} {us:List L5} {vs:List V}
  (S:PK N ps scope) (hd:A.handled=none) (e0:Env0 P w K mg base A outer s H) (hl:vs.length=ps.length) (r:Vals vs us)
  (x:InCallC s s.heap.objs.size (bindL (envOfC qual scope s.heap.objs.size f cd).kindOf (ps.zip us) fun _=>none) (NQ (s.heap.objs.size+1) scope.names []) (bindC (envOfC qual scope s.heap.objs.size f cd).kindOf (ps.zip us) fun _=>none) s1):
  Inv (pS CX P w K mg base N qual scope f cd A outer s H E) [] (start N vs) H s1:=by
 have SJ:ps.length<=N.length:=by have:=congrArg QD S.pre;rw[Nl] at this;omega
 obtain⟨h1,tk,rfl,hk⟩:=x.done;have XH:∀b:L8,b∉(pS CX P w K mg base N qual scope f cd A outer s H E).ex:=fun b z=>absurd (show b∈([]:List L8) from z) (by simp);refine⟨⟨e0.mod,S.kind,rfl,rfl,Mh _,fun y z c h1 h2=> ?_,fun y hy=> ?_,fun y c _ h=> ?_,fun _=>hd,MO.frames_deeper e0.frames,.inr ⟨rfl,rfl⟩,fun b z=>absurd z (XH b),e0.bs,e0.U1,fun b _ _=>XH b,fun b z=>absurd z (XH b),e0.Rb,e0.VH⟩,
  rfl,e0.bare,Un.kept hk,⟨_,x.toInCall.ns,fun i y v h1 h2 h3=> ?_⟩,fun y c h=>⟨_,x.cell y c h⟩,e0.Nw.fresh (Mh _),fun y c h=> ?_,fun p hp=>absurd (show p∈([]:List (L8×Obj)) from hp) (by simp),e0.Nw.kept hk,?_⟩
 ·exact name_of_addr x.apart (NJ h1) (NJ h2)
 ·have hy:scope.names.lookup y=some .cell\/scope.names.lookup y=some .free:=hy
  rcases hy with hy|hy
  ·exact vS hy
  ·exact absurd rfl (S.V9 _ (NJ hy))
 ·exact Qn (x.above y c (NJ h))
 ·have hi:i<vs.length:=by
   unfold start at h2;by_cases hi:i<vs.length
   ·exact hi
   ·rw[MP (by simpa using hi)] at h2;rw[NB] at h2;split at h2<;>cases h2
  have ha:vs[i]? =some v:=by
   unfold start at h2;rw[MM (by simpa using hi),Ml] at h2;cases e:vs[i]? with
   |none=>rw[e] at h2;cases h2
   |some a=>rw[e] at h2;cases h2;rfl
  obtain⟨u,hu,rv⟩:=r.get ha;have hp:ps[i]? =some y:=by rw[<-S.pre,List.getElem?_take_of_lt (by omega)];exact h1
  have ndP:ps.Nodup:=by rw[<-S.pre];exact S.nd.sublist (List.take_sublist _ _)
  refine⟨u,rv,?_⟩;rcases S.par y (Nb hp) with k|k
  ·exact .inl ⟨k,sE ndP hp hu k⟩
  ·obtain⟨c,e⟩:=vS (n:=s.heap.objs.size+1) k;refine .inr ⟨.inl k,c,e,?_⟩;have q:=x.cell y c e;rw[sF ndP hp hu (by show scope.names.lookup y≠_;rw[k];decide)] at q;exact q
 ·exact e0.Nw.fresh (Qn (x.above y c (NJ h)))
 ·unfold start;show _=N.length;rw[Mg,L7,MJ];omega
theorem J1 {CX:xp} {P:My} {w:MS} {K:Bn} {mg:Str->Option L5} {base:Heap} {k:Nat} {f:L8} {name qual:Str} {params:Arguments} {body:List Oj} {scope:OH} {dV kV doc pm N5 ct oc:L5} {an od:Option L8}
  {U5:Array (Option L5)} {N ps:List Str} {sp:Sp} (lk:K.lookup f=some ⟨oc,od,.func (OQ name qual params body scope dV kV doc pm an N5 ct),U5⟩) (Ui:RA K N5 qual=true) (S:PK N ps scope)
  (len:∀vs H Q E,sp vs H Q E->vs.length=ps.length)
  (P2:∀(A:MO) (outer:List Env) (s:Ma) (H:Hp) (vs:List V) (Q:VK) (E:XK),Og k (A.deeper (envOfC qual scope s.heap.objs.size f N5))->sp vs H Q E->
   ∃t,RZ (pS CX P w K mg base N qual scope f N5 A outer s H E) body t/\t {nx:=fun _ H'=>Q .OT H',rt:=Q} (start N vs) H):
  FnOk P w K mg base CX (k+1) f (OQ name qual params body scope dV kV doc pm an N5 ct) ps sp:=by
 refine⟨len,fun A outer s H args us vs Q E hr e0 hb r WM=> ?_⟩;have hl:=len _ _ _ _ WM;have KX:K.In s.heap:=e0.mod.Xy.keeps fun b o e=>(e0.bs b o e).1;have lim:s.heap.NoLimit:=e0.mod.nolimit.keeps fun b o e=>(e0.bs b o e).1;have PL:∀y∈ps.zip us,scope.names.lookup y.1=some .local\/(scope.names.lookup y.1=some .cell/\((NQ (s.heap.objs.size+1) scope.names []).lookup y.1).isSome=true):=fun⟨n,v⟩ hy=>by
  rcases S.par n (Pp hy).1 with q|q
  ·exact .inl q
  ·exact .inr ⟨q,OP _ _ _ (.inl q)⟩
 refine codeAny_call_function hr.depth (KX _ _ lk) rfl S.co S.gen rfl (PySem.W.codeRec_of KX Ui) (hb _ _ _ _ ?_);refine wpAny_newFunctionEnv_cells S.kind PL fun env he s1 x=> ?_;subst he;refine⟨lim.keeps x.toInCall.keep,codeAny_func ?_⟩;obtain⟨t,ht,hq⟩:=P2 A outer s H vs Q E (hr.deeper _) WM;have I:Inv (pS CX P w K mg base N qual scope f N5 A outer s H E) [] (start N vs) H s1:=AR S hr.hd e0 hl r x;refine wpAny_mono (ht [] s1 (start N vs) H _ I hq) (fun fl s' hs=> ?_) fun e s' hs=>hs
 have fin:∀{σ':St} {H':Hp} {v:V} {u:L5},Inv (pS CX P w K mg base N qual scope f N5 A outer s H E) [] σ' H' s'->RelV v u->Q v H'->CE outer P w H s Q u s':=
  fun{σ' H' v u} J rv q=>⟨v,H',J.os,J.bare,J.base,J.Nw,rv,q⟩
 cases fl with
 |ret u=>obtain⟨v,σ',H',J,rv,q⟩:=hs;exact fin J rv q
 |next=>obtain⟨σ',H',J,q⟩:=hs;exact fin (v:=V.OT) (u:=L5.none) J rfl q
 |brk=>obtain⟨_,_,_,q⟩:=hs;exact False.elim q
 |cont=>obtain⟨_,_,_,q⟩:=hs;exact False.elim q
section
variable {X:Cx} {x:Str} {p pos:Pos} {e:MR} {es:List MR} {t:TA} {id T:String} {r:List V->Hp->VK->Prop}
def Fs (r:List V->Hp->VK->Prop) (t:TA):TE:=fun σ H Q=>t σ H fun vs H1=>r vs H1 Q
theorem cI (hc:Oq X (.builtin id) r) (hg:Gl X x) (hm:X.mg x=none) (hv:M6 x=some (.builtin id)) (ha:PA X (e::es) t) (hn:x≠ "__name__":=by decide) (Uv:(x==("__debug__":Str))=false:=by decide)
  (he:ML (e::es) X.env=(false,eval e X.env)::ML es X.env:=by rfl) (SJ:(backTo pos (ML es X.env)).any (·.1)=false:=by rfl):PE X (.Call (.Name x p) (e::es) [] pos) (Fs r t):=by
 intro pins s σ H Q I h;refine OZ (on I hg hm hv ?_ hn Uv);exact Yj (c8 (ha pos pins s σ H _ I h) fun us s1 ⟨vs,H1,I1,r1,q1⟩=>hc pins s1 σ H1 vs us Q I1 r1 q1) he SJ
theorem fP (hc:Oq X (.type T) r) (hg:Gl X x) (hm:X.mg x=none) (hv:M6 x=some (.type T)) (ha:PA X (e::es) t) (hn:x≠ "__name__":=by decide) (Uv:(x==("__debug__":Str))=false:=by decide)
  (he:ML (e::es) X.env=(false,eval e X.env)::ML es X.env:=by rfl) (SJ:(backTo pos (ML es X.env)).any (·.1)=false:=by rfl):PE X (.Call (.Name x p) (e::es) [] pos) (Fs r t):=by
 intro pins s σ H Q I h;refine OZ (on I hg hm hv ?_ hn Uv);exact Pa (c8 (ha pos pins s σ H _ I h) fun us s1 ⟨vs,H1,I1,r1,q1⟩=>hc pins s1 σ H1 vs us Q I1 r1 q1) he SJ
end
end L2
namespace HT
open PySem PyProof.Rows
section
open PySem.SeqAt
open PySem.AutoSeq1 (wpAny_loadPart')
open PySem.MeetsSeq PySem.MeetsSeq2 PySem.MeetsSeq3
end
section
variable {prog:My} {w:MS} {A:MO} {E:L5->Ma->Prop} {s:Ma}
theorem cat_tup {t b:L8} {vs ws:List L5} {Q:L5->Ma->Prop} (ht:IsTup s.heap t vs.toArray) (hb:IsTup s.heap b ws.toArray) (hv:vs≠[])
  (h1:ws=[]->Q (.ref t) s) (h2:ws≠[]->Q (.ref s.heap.objs.size) {s with heap:=s.heap.push {cls:= .type "tuple",data:= .seq (vs++ws).toArray}})
  (hsz:vs.length+ws.length<=Mq):wpAny (model prog w) A (NU .Add (.ref t) (.ref b)) Q E s:=by
 obtain⟨⟨cls,dd,data,sl⟩,ho,hc,n,hd⟩:=id ht;obtain⟨⟨aev,dd2,data2,UD⟩,W0,hc2,n2,hd2⟩:=id hb;simp only at hc hd hc2 hd2;subst hc hd hc2 hd2;have e:vs.toArray++ws.toArray=(vs++ws).toArray:=by simp
 by_cases hw:ws=[]
 ·exact concat_meets ⟨_,ho,rfl⟩ ⟨_,W0,rfl⟩ Xi aaV Sl Sb (RT _ _)
   (tuple_addW1 t b vs.toArray ws.toArray n n2 dd dd2 sl UD (by simpa using hv) (by simp[hw])) ⟨ho,W0,h1 hw⟩
 ·refine concat_meets ⟨_,ho,rfl⟩ ⟨_,W0,rfl⟩ Xi aaV Sl Sb (RT _ _)
   (tuple_addW2 t b vs.toArray ws.toArray n n2 dd dd2 sl UD (by simpa using hv) (by simpa using hw) (by rw[Mo,Mo];exact hsz)) ⟨ho,W0,?_⟩
  rw[e];exact h2 hw
noncomputable def sIx (n d:Nat):Option Int->Nat
 |none=>d
 |some v=>if v<0 then(v+(n:Int)).toNat else min v.toNat n
theorem IE (n d:Nat) (hd:d<=n) (o:Option Int):sIx n d o<=n:=by
 cases o with
 |none=>exact hd
 |some v=>
  show(if v<0 then(v+(n:Int)).toNat else min v.toNat n)<=n;by_cases hv:v<0
  ·rw[if_pos hv];omega
  ·rw[if_neg hv];exact RB _ _
theorem yE (v:Int) (n d:Nat):(if v<0 then max (v+(n:Int)) 0 else min v (n:Int))=((sIx n d (some v):Nat):Int):=by
 show(if v<0 then max (v+(n:Int)) 0 else min v (n:Int))=(((if v<0 then(v+(n:Int)).toNat else min v.toNat n):Nat):Int);by_cases hv:v<0
 ·simp only[if_pos hv];omega
 ·simp only[if_neg hv];omega
theorem xi (lo hi:Option Int) (n:Nat):MU.Slice.sliceAdjust lo hi 1 (n:Int)=(((sIx n 0 lo:Nat):Int),((sIx n n hi:Nat):Int)):=by
 have h1:¬((1:Int)<0):=by omega
 unfold MU.Slice.sliceAdjust;simp only[h1,if_false];refine Prod.ext ?_ ?_
 ·cases lo with
  |none=>rfl
  |some v=>exact yE v n 0
 ·cases hi with
  |none=>rfl
  |some v=>exact yE v n n
theorem xo (i j:Nat):MU.Slice.slicePlaces (i:Int) (j:Int) 1=j - i:=by
 unfold MU.Slice.slicePlaces;have h1:(1:Int)>0:=by omega
 simp only[h1,if_true,Int.ediv_one];split<;>omega
theorem rc {v:L5} {o:Option Int} {Q:Option Int->Ma->Prop} (p:Sm v o) (h:Q o s):wpAny (model prog w) A (MU.Slice.slicePartIndex v) Q E s:=by
 cases p with
 |none=>exact slicePart_none h
 |int i t=>exact slicePart_int h
theorem oh {sl:L8} {vl vu:L5} {lo hi:Option Int} {n:Nat} {Q:Int×Int×Nat->Ma->Prop} (hs:s.heap.IsSliceOf sl vl vu .none) (pl:Sm vl lo) (pu:Sm vu hi)
  (h:Q (((sIx n 0 lo:Nat):Int),1,sIx n n hi - sIx n 0 lo) s):wpAny (model prog w) A (MU.Slice.sliceApplied (.ref sl) (pure (n:Int))) Q E s:=by
 obtain⟨os,Xw,XD,Yr⟩:=id hs;unfold MU.Slice.sliceApplied MU.Slice.sliceFields;refine L6 (L6 (Np Xw Yr (x:=vl) rfl (L6 (Np Xw Yr (x:=vu) rfl (L6 (Np Xw Yr (x:= .none) rfl (Mi ?_)))))));refine L6 (slicePart_none ?_);show wpAny _ _ (if((1:Int)==0)=true then _ else _) _ _ s;rw[if_neg (by decide)];refine L6 (rc pl (L6 (rc pu (L6 (Mi ?_)))));show wpAny _ _ (match MU.Slice.sliceAdjust lo hi 1 (n:Int) with|(lo,hi)=>pure (lo,(1:Int),MU.Slice.slicePlaces lo hi 1)) _ _ s;rw[xi lo hi n];show wpAny _ _ (pure (((sIx n 0 lo:Nat):Int),(1:Int),MU.Slice.slicePlaces ((sIx n 0 lo:Nat):Int) ((sIx n n hi:Nat):Int) 1)) _ _ s;rw[xo];exact Mi h
theorem De (xs:Array L5) (i k:Nat):((Mz k).filterMap fun(m:Nat)=>xs[((i:Int)+(m:Int)*1).toNat]?).toArray=((xs.toList.drop i).take k).toArray:=by
 have e:(fun(m:Nat)=>xs[((i:Int)+(m:Int)*1).toNat]?)=fun m=>xs[i+m]? :=by
  funext m;have:((i:Int)+(m:Int)*1).toNat=i+m:=by omega
  rw[this]
 rw[e];have:=pick_run xs i k;rw[List.filterMap_map] at this;have e2:((fun x=>xs[x]?)∘fun x=>i+x)=fun m=>xs[i+m]? :=rfl;rw[e2] at this;rw[this]
theorem getItem_tuple_cut {t sl:L8} {items:Array L5} {vl vu:L5} {lo hi:Option Int} {Q:L5->Ma->Prop} (ht:IsTup s.heap t items) (hs:s.heap.IsSliceOf sl vl vu .none) (pl:Sm vl lo) (pu:Sm vu hi)
  (hw:¬(sIx items.size 0 lo=0/\sIx items.size items.size hi=items.size))
  (h:Q (.ref s.heap.objs.size) {s with heap:=s.heap.push {cls:= .type "tuple",data:= .seq ((items.toList.drop (sIx items.size 0 lo)).take (sIx items.size items.size hi - sIx items.size 0 lo)).toArray}})
  (hsz:items.size<=Mq):wpAny (model prog w) A (getItem (.ref t) (.ref sl)) Q E s:=by
 have TJ:sizeOk (.seq ((items.toList.drop (sIx items.size 0 lo)).take (sIx items.size items.size hi - sIx items.size 0 lo)).toArray):=by show((items.toList.drop (sIx items.size 0 lo)).take (sIx items.size items.size hi - sIx items.size 0 lo)).toArray.size<=Mq;rw[Mo,Nl,Rv,M7];omega
 have hj:sIx items.size items.size hi<=items.size:=IE _ _ (Mh _) hi;obtain⟨os,Xw,XD,Yr⟩:=id hs;have hTs:s.TypeIs (.ref sl) "slice":=⟨os,Xw,XD⟩;unfold getItem
 try with_reducible refine OU ?_
 first|refine L6 (Mi ?_)|skip
 refine L6 (wpAny_sequenceKey ht.typeIs (by decide) ?_);refine L6 (Ob (name:=Str.ofString "__getitem__") ht.typeIs OJ
  (Oc OJ ht.typeIs entry_tuple_getitem ?_ (args_tuple_getitem _ _)))
 show wpAny _ _ (MU.Tuple.tupleItemsOf (.ref t)>>=_) _ _ s;refine L6 (tupleItemsOf_ ht ?_);refine L6 (Up hTs ?_);rw[if_pos (by decide)];refine L6 (oh hs pl pu ?_);have hno:¬((((sIx items.size 0 lo:Nat):Int)==0&&(1:Int)==1&&(sIx items.size items.size hi - sIx items.size 0 lo)==items.size)=true):=by intro q;rw[MB,MB] at q;have q1:((sIx items.size 0 lo:Nat):Int)=0:=eq_of_beq q.1.1;have q2:sIx items.size items.size hi - sIx items.size 0 lo=items.size:=eq_of_beq q.2;exact hw ⟨by omega,by omega⟩
 show wpAny _ _ (if(((sIx items.size 0 lo:Nat):Int)==0&&(1:Int)==1&&(sIx items.size items.size hi - sIx items.size 0 lo)==items.size)=true then _ else _) _ _ s;rw[if_neg hno,De]
 first
  |exact L6 (m:=MU.Tuple.tupleExact _) (Nr (Mi ⟨_,rfl,Mi h⟩) TJ)
  |exact L6 (m:=MU.Tuple.tupleExact _) (Nr (L6 (Mi (Mi ⟨_,rfl,Mi h⟩))) TJ)
  |exact L6 (L6 (m:=MU.Tuple.tupleExact _) (Nr (Mi (Mi ⟨_,rfl,Mi h⟩)) TJ))
  |exact L6 (L6 (m:=MU.Tuple.tupleExact _) (Nr (Mi ⟨_,rfl,Mi h⟩) TJ))
end
end HT
namespace L2
open PySem PySem.Spec PyProof.Rows
abbrev TO:=St->Hp->(Option Int->Hp->Prop)->Prop
def PO (X:Cx) (e:Option MR) (t:TO):Prop:=
 ∀(pins:List (L8×Obj)) (s:Ma) (σ:St) (H:Hp) (Q:Option Int->Hp->Prop),Inv X pins σ H s->t σ H Q->
  wpAny (model X.prog X.w) X.A (evalPart e X.env) (fun u s'=>∃o H',Inv X pins σ H' s'/\Sm u o/\Q o H') X.xe s
noncomputable def GY (t:TE):TO:=fun σ H Q=>t σ H fun x H1=>∃i,x= .int i/\Q (some i) H1
theorem jN {ns:List Int}:∀{us:List L5},Vals (ns.map V.int) us->IntsAre us ns:=by
 induction ns with
 |nil=>intro us r;rw[N9] at r;cases r;exact .nil
 |cons n ns ih=>
  intro us r;rw[Ms] at r;cases r with
  |cons r1 r2=>obtain⟨t,e⟩:=r1;subst e;exact .cons n t (ih r2)
section
variable {X:Cx} {e:MR} {te:TE} {lo hi:Option MR} {tl th:TO} {pos p2:Pos}
theorem Fo (h:PE X e te):PO X (some e) (GY te):=by intro pins s σ H Q I hw;rw[evalPart_some];refine c8 (h pins s σ H _ I hw) fun u s1 ⟨x,H1,I1,r1,q1⟩=> ?_;obtain⟨i,rfl,q⟩:=q1;obtain⟨t,rfl⟩:=r1;exact⟨some i,H1,I1,.int i t,q⟩
def KZ (X:Cx) (r:V->Option Int->Option Int->Hp->VK->Prop):Prop:=
 ∀(pins:List (L8×Obj)) (s:Ma) (σ:St) (H:Hp) (x:V) (v vl vu:L5) (lo hi:Option Int) (sl:L8) (Q:VK),Inv X pins σ H s->RelV x v->s.heap.IsSliceOf sl vl vu .none->Sm vl lo->Sm vu hi->r x lo hi H Q->
  ∃T id,typeLookup (.type T) "__getitem__"=pure (some (.builtin id))/\s.TypeIs v T/\wpAny (model X.prog X.w) X.A (getItem v (.ref sl)) (EP X pins σ Q) X.xe s
def LK (r:V->Option Int->Option Int->Hp->VK->Prop) (te:TE) (tl th:TO):TE:=fun σ H Q=>te σ H fun x H1=>tl σ H1 fun l H2=>th σ H2 fun u H3=>r x l u H3 Q
theorem DN {r:V->Option Int->Option Int->Hp->VK->Prop} (hr:KZ X r) (he:PE X e te) (hl:PO X lo tl) (hu:PO X hi th):PE X (.Subscript e (.Slice lo hi none p2) pos) (LK r te tl th):=by intro pins s σ H Q I h;refine Subscript_ (c8 (he pins s σ H _ I h) fun v s1 ⟨x,H1,I1,r1,q1⟩=> ?_);refine wpAny_Slice (c8 (hl pins s1 σ H1 _ I1 q1) fun vl s2 ⟨l,H2,I2,pl,q2⟩=>c8 (hu pins s2 σ H2 _ I2 q2) fun vu s3 ⟨u,H3,I3,pu,q3⟩=> ?_);rw[evalPart_none];refine Mi ?_;have I4:Inv X pins σ H3 {s3 with heap:=s3.heap.push {cls:= .type "slice",data:= .fields #[vl,vu,.none]}}:=I3.kept (t':=s3.toks) fun b ob q=>Heap.get?_push_of_some _ q;obtain⟨T,id,hT,ht,hg⟩:=hr pins {s3 with heap:=s3.heap.push {cls:= .type "slice",data:= .fields #[vl,vu,.none]}} σ H3 x v vl vu l u s3.heap.objs.size Q I4 r1 (Heap.IsSliceOf.new ..) pl pu q3;show wpAny (model X.prog X.w) X.A (subscriptTail e (.Slice lo hi none p2) v (.ref s3.heap.objs.size)) (EP X pins σ Q) X.xe {s3 with heap:=s3.heap.push {cls:= .type "slice",data:= .fields #[vl,vu,.none]}};exact tail_any (ops:=[.ref s3.heap.objs.size,v]) ht hT hg (by with_unfolding_all rfl)
noncomputable def wR (xs:List V) (lo hi:Option Int):List V:=(xs.drop (HT.sIx xs.length 0 lo)).take (HT.sIx xs.length xs.length hi - HT.sIx xs.length 0 lo)
theorem oz (xs:List V) (lo hi:Option Int):(wR xs lo hi).length<=xs.length:=by unfold wR;rw[Nl,Rv];omega
def Kz (K:Bn):V->Option Int->Option Int->Hp->VK->Prop:=fun x lo hi H Q=>∃a xs,x= .ref a/\P4 K H a xs/\
 ¬(HT.sIx xs.length 0 lo=0/\HT.sIx xs.length xs.length hi=xs.length)/\∀p,H p=none->Q (.ref p) (bA H p (.tup (wR xs lo hi)))
theorem Ir:KZ X (Kz X.K):=by
 intro pins s σ H x v vl vu lo hi sl Q I rx hs pl pu h;obtain⟨a,xs,rfl,hx,hw,q⟩:=h;cases rx;obtain⟨MY,r,ht,hz⟩:=I.tuple hx;have hlen:MY.toArray.size=xs.length:=by rw[Mo];exact r.length.symm
 refine⟨"tuple",_,OJ.lookup,ht.typeIs,?_⟩;refine HT.getItem_tuple_cut ht hs pl pu (by rw[hlen];exact hw) ?_ (by rw[hlen];exact hz);rw[hlen];refine⟨.ref s.heap.objs.size,_,I.laid (t':=s.toks) (o:= .tup (wR xs lo hi)) (fun b ob q=>Heap.get?_push_of_some _ q) (Mh _) ?_,rfl,q _ (I.Nw.fresh (Mh _))⟩;exact⟨MQ (oz xs lo hi) hz,_,(r.drop (HT.sIx xs.length 0 lo)).take (HT.sIx xs.length xs.length hi - HT.sIx xs.length 0 lo),Rt.new _ _⟩
def GU (K:Bn):R2:=fun x y H Q=>∃a b xs ys,x= .ref a/\y= .ref b/\P4 K H a xs/\P4 K H b ys/\xs≠[]/\xs.length+ys.length<=Mq/\
 (ys=[]->Q (.ref a) H)/\(ys≠[]->∀p,H p=none->Q (.ref p) (bA H p (.tup (xs++ys))))
theorem Vals.Sr {xs:List V} {us:List L5} (r:Vals xs us):us=[]↔xs=[]:=by
 cases r with
 |nil=>simp
 |cons _ _=>simp
theorem Eg:OpR X (NU .Add) (GU X.K):=by intro pins s σ H x y v u Q I rx ry h;obtain⟨a,b,xs,ys,rfl,rfl,ha,hb,hx,hz,q1,q2⟩:=h;cases rx;cases ry;obtain⟨MY,r1,p1,_⟩:=I.tuple ha;obtain⟨Sv,r2,p2,_⟩:=I.tuple hb;refine HT.cat_tup p1 p2 (fun z=>hx (r1.Sr.mp z)) (fun z=>⟨.ref a,H,I,rfl,q1 (r2.Sr.mp z)⟩) (fun z=> ?_) (by rw[<-r1.length,<-r2.length];exact hz);refine⟨.ref s.heap.objs.size,_,I.laid (t':=s.toks) (o:= .tup (xs++ys)) (fun b ob q=>Heap.get?_push_of_some _ q) (Mh _) ?_,rfl,q2 (fun w=>z (r2.Sr.mpr w)) _ (I.Nw.fresh (Mh _))⟩;exact⟨by rw[Mg];exact hz,_,r1.append r2,Rt.new _ _⟩
end
noncomputable def GZ (n:Nat) (i:Int):Option Nat:=if 0<=i then(if i<n then some i.toNat else none) else if -(n:Int)<=i then some (i+n).toNat else none
noncomputable def l7 {α:Type} (xs:List α) (i:Int):Option α:=(GZ xs.length i).bind fun j=>xs[j]?
theorem EA {n:Nat} {i:Int} {j:Nat} (h:GZ n i=some j):seqIndex? i n=some j/\j<n/\ -(n:Int)<=i/\i<n:=by
 unfold GZ at h;by_cases h0:0<=i
 ·rw[if_pos h0] at h
  by_cases h1:i<n
  ·rw[if_pos h1] at h;have e:i.toNat=j:=Mw h;exact⟨by rw[seqIndex_of h0 h1,e],by omega,by omega,h1⟩
  ·rw[if_neg h1] at h;cases h
 ·rw[if_neg h0] at h
  by_cases h1: -(n:Int)<=i
  ·rw[if_pos h1] at h;have e:(i+n).toNat=j:=Mw h;exact⟨by rw[seqIndex_neg (by omega) h1,e],by omega,h1,by omega⟩
  ·rw[if_neg h1] at h;cases h
theorem u7 {α:Type} {xs:List α} {i:Int} {v:α} (h:l7 xs i=some v):∃j,seqIndex? i xs.length=some j/\xs[j]? =some v/\j<xs.length/\ -(xs.length:Int)<=i/\i<xs.length:=by
 unfold l7 at h;cases e:GZ xs.length i with
 |none=>rw[e] at h;cases h
 |some j=>rw[e] at h;obtain⟨h1,h2,h3,h4⟩:=EA e;exact⟨j,h1,h,h2,h3,h4⟩
theorem yL {α:Type} {xs:List α} {j:Nat} {v:α} (h:xs[j]? =some v):l7 xs (j:Int)=some v:=by
 have hj:j<xs.length:=(Md.mp h).1;have e:GZ xs.length (j:Int)=some j:=by unfold GZ;rw[if_pos (by omega),if_pos (by omega)];simp
 unfold l7;rw[e];exact h
def ER (b:MR):Prop:=∀o i,subscripted b false o i=operate [o,i] (getItem o i)
def Vt (X:Cx) (r:R2):Prop:=
 ∀(value slice:MR) (pins:List (L8×Obj)) (s:Ma) (σ:St) (H:Hp) (x y:V) (v u:L5) (Q:VK),Inv X pins σ H s->RelV x v->RelV y u->r x y H Q->
  subscripted slice false v u=operate [v,u] (getItem v u)->wpAny (model X.prog X.w) X.A (subscriptTail value slice v u) (EP X pins σ Q) X.xe s
def Lk (X:Cx) (id:String) (r:V->List V->Hp->VK->Prop):Prop:=
 ∀(pins:List (L8×Obj)) (s:Ma) (σ:St) (H:Hp) (x:V) (xs:List V) (v:L5) (us:List L5) (Q:VK),Inv X pins σ H s->RelV x v->Vals xs us->r x xs H Q->
  wpAny (model X.prog X.w) X.A (call (.builtin id) (v::us)) (EP X pins σ Q) X.xe s
section
variable {X:Cx} {a b:MR} {ta tb:TE} {pos:Pos}
theorem Vt.or {r r':R2} (h:Vt X r) (h':Vt X r'):Vt X (fun x y H Q=>r x y H Q\/r' x y H Q):=by
 intro value slice pins s σ H x y v u Q I rx ry q hs;rcases q with q|q
 ·exact h value slice pins s σ H x y v u Q I rx ry q hs
 ·exact h' value slice pins s σ H x y v u Q I rx ry q hs
theorem cQ {r:R2} (hr:Vt X r) (ha:PE X a ta) (hb:PE X b tb) (hs:ER b):PE X (.Subscript a b pos) (HZ r ta tb):=by intro pins s σ H Q I h;exact Subscript_ (Jl ha hb I h fun v u s2 x y H2 I2 rx ry q=>hr a b pins s2 σ H2 x y v u Q I2 rx ry q (hs _ _))
def JJ (K:Bn):R2:=fun x y H Q=>∃p xs i v,x= .ref p/\y= .int i/\PU K H p xs/\l7 xs i=some v/\Q v H
def J5 (K:Bn):R2:=fun x y H Q=>∃p xs i v,x= .ref p/\y= .int i/\P4 K H p xs/\l7 xs i=some v/\Q v H
def JL:R2:=fun x y H Q=>∃z i c,x= .str z/\y= .int i/\z.length<=Mq/\l7 z.cps.toList i=some c/\Q (.str ⟨#[c]⟩) H
theorem EZ:Vt X (JJ X.K):=by
 intro value slice pins s σ H x y v u Q I rx ry h hs;obtain⟨p,xs,i,z,rfl,rfl,hq,he,q⟩:=h;cases rx;obtain⟨t,rfl⟩:=ry;obtain⟨MY,r,pl,hz⟩:=I.list hq;obtain⟨j,h1,h2,h3,h4,h5⟩:=u7 he;obtain⟨w,ew,TU⟩:=r.get h2;have hl:=r.length;have hn:=uU;have fin:EP X pins σ Q w s:=⟨z,H,I,TU,q⟩;by_cases h0:0<=i
 ·have hj:i.toNat=j:=by
   rw[seqIndex_of h0 h5] at h1;exact Mw h1
  exact item_listR pl.isList h0 (by omega) (by rw[hj];simpa using ew) fin hs
 ·have hj:(i+(MY.toArray.size:Int)).toNat=j:=by
   rw[seqIndex_neg (by omega) h4] at h1;rw[Mo,<-hl];exact Mw h1
  exact subscriptTail_builtinR (x:=w) pl.isList.typeIs WK.lookup
   (wpAny_getItem_list_neg (Q:=fun r s'=>r=w/\EP X pins σ Q r s') pl.isList (by omega) (by rw[Mo]<;>omega) (by omega) (by rw[hj];simpa using ew) ⟨rfl,fin⟩) hs
theorem Jc:Vt X (J5 X.K):=by
 intro value slice pins s σ H x y v u Q I rx ry h hs;obtain⟨p,xs,i,z,rfl,rfl,hq,he,q⟩:=h;cases rx;obtain⟨t,rfl⟩:=ry;obtain⟨MY,r,pl,hz⟩:=I.tuple hq;obtain⟨j,h1,h2,h3,h4,h5⟩:=u7 he;obtain⟨w,ew,TU⟩:=r.get h2;have hl:=r.length;have hn:=uU;have fin:EP X pins σ Q w s:=⟨z,H,I,TU,q⟩;exact subscriptTail_builtinR (x:=w) pl.typeIs slot_tuple_getitem.lookup
  (getItem_tuple (j:=j) (Q:=fun r s'=>r=w/\EP X pins σ Q r s') pl (by omega) (by omega) (by rw[Mo,<-hl];exact h1) (by simpa using ew) ⟨rfl,fin⟩) hs
theorem Hz:Vt X JL:=by
 intro value slice pins s σ H x y v u Q I rx ry h hs;obtain⟨z,i,c,rfl,rfl,hz,he,q⟩:=h;obtain⟨t,rfl⟩:=rx;obtain⟨t',rfl⟩:=ry;obtain⟨j,h1,h2,h3,h4,h5⟩:=u7 he;have hl:z.cps.toList.length=z.length:=by simp[Str.length]
 rw[hl] at h1 h4 h5;have hn:=uU;exact tail_any (typeIs_str s z t) slot_str_getitem.lookup (getItem_str (c:=c) (by have e1:decide (i< -(2^63:Int))=false:=decide_eq_false (by omega);have e2:decide (i≥2^63)=false:=decide_eq_false (by omega);rw[e1,e2,SD]) (by rw[h1];simpa using h2) ⟨.str ⟨#[c]⟩,H,I.tok _,⟨_,rfl⟩,q⟩) hs
def K6 (K:Bn):R2:=fun x y H Q=>JJ K x y H Q\/J5 K x y H Q\/JL x y H Q
theorem b9:Vt X (K6 X.K):=EZ.or (Jc.or Hz)
theorem tP (lo hi:Option Int) (n:Nat):(sliceBounds lo hi none n).1=((HT.sIx n 0 lo:Nat):Int)/\(sliceBounds lo hi none n).2.1=((HT.sIx n n hi:Nat):Int)/\(sliceBounds lo hi none n).2.2=1:=by
 refine⟨?_,?_,rfl⟩
 ·cases lo with
  |none=>simp[sliceBounds,HT.sIx]
  |some i=>
   simp only[sliceBounds,HT.sIx,T7,show(1:Int)>0 by decide,if_true];by_cases h:i<0
   ·simp only[h,if_true]<;>omega
   ·simp only[h,if_false]<;>omega
 ·cases hi with
  |none=>simp[sliceBounds,HT.sIx]
  |some i=>
   simp only[sliceBounds,HT.sIx,T7,show(1:Int)>0 by decide,if_true];by_cases h:i<0
   ·simp only[h,if_true]<;>omega
   ·simp only[h,if_false]<;>omega
theorem se (MY:List L5) (lo hi:Option Int):slicePick MY.toArray lo hi none=((MY.drop (HT.sIx MY.length 0 lo)).take (HT.sIx MY.length MY.length hi - HT.sIx MY.length 0 lo)).toArray:=by obtain⟨h1,h2,h3⟩:=tP lo hi MY.toArray.size;unfold slicePick;rw[h1,h2,h3];simp only[sliceRange_one,pick_run,Mo]<;>rfl
def KA (K:Bn):V->Option Int->Option Int->Hp->VK->Prop:=fun x lo hi H Q=>∃a xs,x= .ref a/\PU K H a xs/\∀p,H p=none->Q (.ref p) (bA H p (.lst (wR xs lo hi)))
theorem Gc:KZ X (KA X.K):=by intro pins s σ H x v vl vu lo hi sl Q I rx hs pl pu h;obtain⟨a,xs,rfl,hx,q⟩:=h;cases rx;obtain⟨MY,r,ht,hz⟩:=I.list hx;have hlen:=r.length;refine⟨"list",_,WK.lookup,ht.isList.typeIs,?_⟩;refine wpAny_getItem_list_slice ht.isList hs pl pu .none (by simp) ?_ (by rw[Mo]<;>omega);rw[se,<-hlen];refine⟨.ref s.heap.objs.size,_,I.laid (t':=s.toks) (o:= .lst (wR xs lo hi)) (fun b ob q=>Heap.get?_push_of_some _ q) (Mh _) ?_,rfl,q _ (I.Nw.fresh (Mh _))⟩;exact⟨MQ (oz xs lo hi) hz,_,0,(r.drop (HT.sIx xs.length 0 lo)).take (HT.sIx xs.length xs.length hi - HT.sIx xs.length 0 lo),Heap.get?_push_size _ rfl⟩
theorem Oq.or {f:L5} {r r':List V->Hp->VK->Prop} (h:Oq X f r) (h':Oq X f r'):Oq X f (fun xs H Q=>r xs H Q\/r' xs H Q):=by
 intro pins s σ H xs us Q I rs q;rcases q with q|q
 ·exact h pins s σ H xs us Q I rs q
 ·exact h' pins s σ H xs us Q I rs q
theorem mU:Oq X (.type "list") (fun xs H Q=>∃p ys,xs=[.ref p]/\(PU X.K H p ys\/P4 X.K H p ys)/\∀l,H l=none->Q (.ref l) (bA H l (.lst ys))):=by
 intro pins s σ H xs us Q I r h;obtain⟨p,ys,rfl,hq,q⟩:=h;obtain⟨u,rfl,rx⟩:=iy r;cases rx
 have fin:∀(MY:List L5),Vals ys MY->ys.length<=Mq->∀(h':Heap) (c':Nat),(∀b o',s.heap.get? b=some o'->h'.get? b=some o')->
   h'.get? s.heap.objs.size=some {cls:= .type "list",dict:=none,data:= .seq MY.toArray c',slots:= #[]}->EP X pins σ Q (.ref s.heap.objs.size) {s with heap:=h'}:=fun MY r' hz h' c' kp e=>
  ⟨.ref s.heap.objs.size,_,I.laid (t':=s.toks) kp (Mh _) (show ObjOk X.prog X.w _ h' _ (.lst ys) from⟨hz,MY,c',r',e⟩),rfl,q _ (I.Nw.fresh (Mh _))⟩
 rcases hq with hq|hq
 ·obtain⟨MY,r',pl,hz⟩:=I.list hq;have hlen:=r'.length;obtain⟨o,ho,hc,n,hd⟩:=pl.isList;exact aaW p (.inl rfl) ho hc hd (fun h' c' kp e=>fin MY r' hz h' c' kp e) (by simp only[Mo]<;>omega)
 ·obtain⟨MY,r',pl,hz⟩:=I.tuple hq;have hlen:=r'.length;obtain⟨o,ho,hc,n,hd⟩:=pl;exact aaW p (.inr rfl) ho hc hd (fun h' c' kp e=>fin MY r' hz h' c' kp e) (by simp only[Mo]<;>omega)
theorem dY:Oq X (.type "tuple") (fun xs H Q=>∃p ys,xs=[.ref p]/\((PU X.K H p ys/\∀l,H l=none->Q (.ref l) (bA H l (.tup ys)))\/(P4 X.K H p ys/\Q (.ref p) H))):=by
 intro pins s σ H xs us Q I r h;obtain⟨p,ys,rfl,h⟩:=h;obtain⟨u,rfl,rx⟩:=iy r;cases rx;rcases h with⟨hq,q⟩|⟨hq,q⟩
 ·obtain⟨MY,r',pl,hz⟩:=I.list hq
  have hlen:=r'.length;refine call_tuple_list pl.isList (fun h' kp=> ?_) (by simp only[Mo]<;>omega);have I1:Inv X pins σ H {s with heap:=h'}:=I.kept (t':=s.toks) kp
  have I2:Inv X pins σ (bA H h'.objs.size (.tup ys)) {s with heap:=h'.push {cls:= .type "tuple",data:= .seq MY.toArray}}:=
   I1.laid (t':=s.toks) (fun b o e=>Heap.get?_push_of_some _ e) (Mh _) (show ObjOk X.prog X.w _ _ _ (.tup ys) from⟨hz,MY,r',Rt.new _ _⟩)
  exact⟨.ref h'.objs.size,_,I2,rfl,q _ (I1.Nw.fresh (Mh _))⟩
 ·obtain⟨MY,r',pl,hz⟩:=I.tuple hq;exact call_tuple_same pl ⟨.ref p,H,I,rfl,q⟩
def La (K:Bn) (T:String) (x:V) (H:Hp):Prop:=match x with
 | .str _=>T= "str"
 | .int _=>T= "int"
 | .ref p=>(T= "list"/\∃xs,PU K H p xs)\/(T= "tuple"/\∃o,K.lookup p=some o/\o.cls= .type "tuple"/\o.dict=none)\/
   (T= "dict"/\((∃kvs,H p=some (.dK kvs))\/∃kvs,H p=some (.dT kvs)))\/(T= "set"/\∃S n,H p=some (.set S n))
 |_=>False
theorem Cp {pins:List (L8×Obj)} {σ:St} {H:Hp} {s:Ma} {T:String} {x:V} {v:L5} (I:Inv X pins σ H s) (r:RelV x v) (ty:La X.K T x H):
  s.TypeIs v T/\∀a,v= .ref a->∃ob,s.heap.get? a=some ob/\ob.dict=none:=by
 cases x with
 |str z=>obtain⟨t,rfl⟩:=r;cases(show T= "str" from ty);exact⟨typeIs_str s z t,fun _ e=>nomatch e⟩
 |int i=>obtain⟨t,rfl⟩:=r;cases(show T= "int" from ty);exact⟨RD s i t,fun _ e=>nomatch e⟩
 |ref p=>
  cases r;rcases ty with⟨rfl,xs,hq⟩|⟨rfl,o,hk,hc,hd⟩|⟨rfl,hk⟩|⟨rfl,S,n,hk⟩
  ·obtain⟨MY,_,pl,_⟩:=I.list hq;refine⟨pl.isList.typeIs,fun a e=> ?_⟩;cases e;obtain⟨o,n,e,c,hd,_⟩:=pl;exact⟨o,e,hd⟩
  ·refine⟨⟨o,I.RO p o hk,hc⟩,fun a e=> ?_⟩;cases e;exact⟨o,I.RO _ o hk,hd⟩
  ·have z:∃o,s.heap.get? p=some o/\o.ExactDict:=by
    rcases hk with⟨kvs,hk⟩|⟨kvs,hk⟩
    ·obtain⟨_,_,_,_,o,_,_,e,ex,_⟩:=I.Nw p _ hk;exact⟨o,e,ex⟩
    ·obtain⟨_,_,_,_,o,_,_,e,ex,_⟩:=I.Nw p _ hk;exact⟨o,e,ex⟩
   obtain⟨o,e,ex⟩:=z;refine⟨⟨o,e,ex.1⟩,fun a e2=> ?_⟩;cases e2;exact⟨o,e,ex.2.1⟩
  ·obtain⟨o,_,_,_,e,ex,_⟩:=I.Nw p _ hk;refine⟨⟨o,e,ex.1⟩,fun a e2=> ?_⟩;cases e2;exact⟨o,e,ex.2.1⟩
 |_=>exact False.elim ty
def Iy (K:Bn) (T:String) (r:V->List V->Hp->VK->Prop) (to:TE):TE:=fun σ H Q=>to σ H fun x H1=>La K T x H1/\r x [] H1 Q
def Ls (K:Bn) (T:String) (r:V->List V->Hp->VK->Prop) (to:TE) (t:TA):TE:=fun σ H Q=>to σ H fun x H1=>La K T x H1/\t σ H1 fun xs H2=>r x xs H2 Q
variable {o e:MR} {es:List MR} {to:TE} {t:TA} {name:Str} {apos PD:Pos} {T id:String} {r:V->List V->Hp->VK->Prop}
theorem xm (pa:PlainAttrs T) (slot:Slot T name id) (Zw:typeOf (.builtin id)=pure (.type "method_descriptor")) (hm:Lk X id r) (ho:PE X o to)
  (UJ:attributeBase o name X.env (eval o X.env)=eval o X.env:=by rfl) (US:(apos.endLine==PD.line)=true:=by rfl):PE X (.Call (.Attribute o name apos) [] [] PD) (Iy X.K T r to):=by
 intro pins s σ H Q I h;refine wpAny_Call_method0_late UJ US (c8 (ho pins s σ H _ I h) fun v s1 ⟨x,H1,I1,r1,ty,q1⟩=> ?_);obtain⟨h1,h2⟩:=Cp I1 r1 ty;exact⟨T,id,pa,slot,Zw,h1,h2,Calls.callWith_builtin rfl (PySem.evalArgs_none (hm pins s1 σ H1 x [] v [] Q I1 r1 .nil q1))⟩
theorem G2 (pa:PlainAttrs T) (slot:Slot T name id) (Zw:typeOf (.builtin id)=pure (.type "method_descriptor")) (hm:Lk X id r) (ho:PE X o to) (ha:PA X (e::es) t)
  (UJ:attributeBase o name X.env (eval o X.env)=eval o X.env:=by rfl)
  (aaI:((backTo PD (ML (e::es) X.env)).all (fun x=> !x.1)&&(backToKw PD (keywordEach [] X.env)).all (fun x=>x.1.isSome)
   &&decide ((e::es).length+([]:List RQ).length+(if([]:List RQ).isEmpty then 0 else 1)<30))=true:=by rfl)
  (US:(apos.endLine==PD.line)=true:=by rfl) (hs:ML (e::es) X.env=(false,eval e X.env)::ML es X.env:=by rfl) (Wj:(backTo PD (ML es X.env)).any (·.1)=false:=by rfl):
  PE X (.Call (.Attribute o name apos) (e::es) [] PD) (Ls X.K T r to t):=by
 intro pins s σ H Q I h;refine wpAny_Call_method_late UJ aaI US rfl (c8 (ho pins s σ H _ I h) fun v s1 ⟨x,H1,I1,r1,ty,q1⟩=> ?_);obtain⟨h1,h2⟩:=Cp I1 r1 ty;refine⟨T,id,pa,slot,Zw,h1,h2,?_⟩;have hA:=ha PD pins s1 σ H1 _ I1 q1;rw[hs] at hA⊢;refine Calls.callWith_builtin (by show(false||(backTo PD (ML es X.env)).any (·.1))=false;rw[Wj]<;>rfl) (Calls.evalArgs_plain ?_);exact c8 hA fun us s2 ⟨vs,H2,I2,r2,q2⟩=>hm pins s2 σ H2 x vs v us Q I2 r1 r2 q2
end
def LQ (X:Cx) (id:String) (r:V->List V->Hp->VK->Prop):Prop:=
 ∀(pins:List (L8×Obj)) (s:Ma) (σ:St) (H:Hp) (x:V) (xs:List V) (v:L5) (us:List L5) (Q:VK),Inv X pins σ H s->RelV x v->Vals xs us->r x xs H Q->
  wpAny (model X.prog X.w) X.A (call (.builtin id) (v::us)) (EP X pins σ Q) X.xe s
theorem Vals.one:∀{x:V} {us:List L5},Vals [x] us->∃u,us=[u]/\RelV x u
 |_,_,.cons r .nil=>⟨_,rfl,r⟩
theorem Vals.rep {xs:List V} {us:List L5} (h:Vals xs us):∀k:Nat,Vals (Me k xs).flatten (Me k us).flatten
 |0=> .nil
 |k+1=>by rw[Na,Na,NW,NW];exact Vals.append h (Vals.rep h k)
theorem nw (MY:List L5):∀(k:Nat) (acc:List L5),
  PH (fun x1 x2=>x1++x2) acc.toArray (Me k MY.toArray)=(acc++(Me k MY).flatten).toArray
 |0,acc=>by simp
 |k+1,acc=>by
  have e:acc.toArray++MY.toArray=(acc++MY).toArray:=by simp
  have e2:(acc++MY)++(Me k MY).flatten=acc++(Me (k+1) MY).flatten:=by rw[Na,NW,Ni]
  rw[<-e2,<-nw MY k (acc++MY),<-e,Na,Qp]
section
variable {X:Cx} {pins:List (L8×Obj)} {σ:St} {H:Hp} {s:Ma} {l b:L8} {xs ys zs:List V}
theorem Inv.Zq {MY its':List L5} {n:Nat} {f:Array L5->Array L5} {t':Nat} (I:Inv X pins σ H s) (hH:H l=some (.lst xs))
  (e:s.heap.get? l=some {cls:= .type "list",data:= .seq MY.toArray n}) (hf:f MY.toArray=its'.toArray) (hv:Vals ys its') (hz:ys.length<=Mq):
  Inv X pins σ (bA H l (.lst ys)) {s with heap:=s.heap.update l (Obj.mapSeq f),toks:=t'}:=by
 have q:=abW e f;rw[hf] at q;refine I.write (x:=l) (e:=l) (by rw[hH];exact trivial) (.inl rfl) (fun b' u hb hu=>(Heap.get?_update_other s.heap (Obj.mapSeq f) (Ne.symm hb)).trans hu) ⟨_,q⟩ ?_;exact⟨hz,its',_,hv,q⟩
theorem Inv.X1 {MY:List L5} {t':Nat} (I:Inv X pins σ H s) (hv:Vals ys MY) (hz:ys.length<=Mq):
  Inv X pins σ (bA H s.heap.objs.size (.lst ys)) {s with heap:=s.heap.push {cls:= .type "list",data:= .seq MY.toArray},toks:=t'}:=
 I.laid (fun _ _ q=>Heap.get?_push_of_some _ q) (Mh _) ⟨hz,MY,0,hv,Heap.get?_push_size _ rfl⟩
theorem Inv.fresh (I:Inv X pins σ H s):H s.heap.objs.size=none:=I.Nw.fresh (Mh _)
theorem Inv.Ya (I:Inv X pins σ H s) (hH:H l=some (.lst xs)):xs.length<=Mq/\∃(MY:List L5) (n:Nat),Vals xs MY/\xs.length=MY.length/\s.heap.get? l=some {cls:= .type "list",data:= .seq MY.toArray n}:=by obtain⟨z,MY,n,r,e⟩:=I.Nw l _ hH;exact⟨z,MY,n,r,r.length,e⟩
theorem D8 {n:Nat} (h:n<=Mq):MU.List.listTooLong n=false:=by unfold MU.List.listTooLong;exact decide_eq_false (by omega)
end
section
variable {X:Cx}
def uL:V->List V->Hp->VK->Prop:=fun x vs H Q=>∃l xs y,x= .ref l/\vs=[y]/\H l=some (.lst xs)/\xs.length<Mq/\Q .OT (bA H l (.lst (xs++[y])))
theorem nu:LQ X "list.append" uL:=by intro pins s σ H x vs v us Q I rx rv h;obtain⟨l,xs,y,rfl,rfl,hH,hz,q⟩:=h;cases rx;obtain⟨u,rfl,ru⟩:=rv.one;obtain⟨z,MY,n,r,hl,e⟩:=I.Ya hH;refine QP F.slot_list_append ⟨_,e,rfl⟩ F.entry_list_append (F.args_list_append_2 _ _) (PySem.list_append l MY.toArray n u (by rw[Mo];omega)) ⟨e,?_⟩;refine⟨.OT,_,I.Zq (its':=MY++[u]) hH e (by simp) (r.append (.cons ru .nil)) ?_,rfl,q⟩;rw[Mg,Pd];omega
theorem za {α:Type} (xs:List α) (k:Nat):(Me k xs).flatten.length=k*xs.length:=by
 induction k with
 |zero=>simp
 |succ k ih=>rw[Na,NW,Mg,ih,Xj,Nat.add_comm]
end
section
variable {prog:My} {w:MS} {A:MO} {E:L5->Ma->Prop} {s:Ma}
set_option maxRecDepth 100000 in
end
end L2
namespace Att
open PySem PySem.W PySem.Calls PyProof.Rows
theorem oP {P:Params} {h:Heap}:∀(ns:List Int) (vs:List L5),WellAll P h vs (ns.map WData.int)->IntsAre vs ns:=by
 intro ns
 induction ns with
 |nil=>intro vs w;rw[N9] at w;cases w;exact .nil
 |cons n ns ih=>
  intro vs w;rw[Ms] at w;cases w with
  |cons a b=>cases a;exact .cons _ _ (ih _ b)
theorem Ah {l:OpenLaw} {n:Nat} (hn:l.most=some n) {P:Params} {h:Heap} {args:List WData} {vals:List L5}
  (Vl:l.row.toRowW.claim.pre args=true) (Z9:WellAll P h vals args):
  ∃a vs ns,vals=[L5.ref a]/\args=[WData.list (ns.map WData.int)]/\h.get? a=some {cls:= .type "list",data:= .seq vs.toArray}/\IntsAre vs ns/\ns.length<=n:=by
 have hsh:WShape.hasAll [] args [.list .int]=true:=(pre_splitW Vl).1;have hc:l.pre.holds [] {args:=args}=true:=(pre_splitW Vl).2;obtain⟨d,r,rfl,h1,h2⟩:=hasAllW_cons hsh;obtain rfl:=hasAllW_nil h2;obtain⟨xs,rfl,h3⟩:=hasW_list h1;obtain⟨ns,rfl⟩:=items_int h3;have hlen:ns.length<=n:=by
  unfold OpenLaw.pre at hc;have h4:(WTm.not (.lt (.lit (.int (n:Int))) (.len (.arg 0)))).holds [] {args:=[.list (ns.map .int)]}=true:=by have h4:=(holds_andW hc).1;rw[hn] at h4;exact h4
  have h5:=condW_of h4 (w_not (w_lt w_lit (w_len_list (w_arg rfl))));rw[L7] at h5;refine Nat.le_of_not_lt fun q=> ?_;have q':(n:Int)<((ns.length:Nat):Int):=by omega
  first
   |(rw[decide_eq_true q'] at h5;exact absurd h5 (by decide))
   |(simp at h5;omega)
 cases Z9 with
 |cons w1 w2=>
  cases w2;cases w1 with
  |list ho Wb=>exact⟨_,_,ns,rfl,rfl,ho,oP ns _ Wb,hlen⟩
theorem AN (l:OpenLaw) (args:List WData):l.row.toRowW.claim.post args (.bool true) args=true:=
 postW_of (r:=l.row.toRowW) (X:=(true==true))
  (show WShape.has [] (.bool true) .bool=true by first|rfl|decide|simp[WShape.has,WShape.arms,WShape.armsAll])
  (show(WTm.eq .res (.lit (.bool true))).value [] {args:=args,res:=some (.bool true),after:=args}=some (.bool (true==true)) from w_eq_bool (w_res rfl) w_lit) rfl
theorem attach_call {l:OpenLaw} {n:Nat} {q:My} {loose:List Str} {XP:(Str->Option L5)->Heap->Prop} {YP:MS->Heap->Prop} {d:DefRec}
  (hn:l.most=some n) (hdf:d.params.defaults=[])
  (call:∀(w:MS) (s₀ s₁:Ma) (mg mb:Str->Option L5) (fa:L8) (o:Obj) (pm cd doc:L5) (a:L8) (vs:List L5) (ns:List Int),
   Ground q loose [] XP w s₀ mg mb s₁.heap->YP w s₁.heap->
   s₁.heap.get? fa=some o->o.data= .func (docDef d.name d.params d.body d.scope pm cd doc)->s₁.heap.CodeRec cd d.name->mg d.name=some (.ref fa)->
   s₁.heap.get? a=some {cls:= .type "list",data:= .seq vs.toArray}->IntsAre vs ns->ns.length<=n->s₁.gens= #[]->
   codeAny (model l.prog w) callerA (.call (.ref fa) ⟨[.ref a],[]⟩) (fun r s'=>r= .ok (.ret (.bool true))/\OldK s₁.heap s'.heap/\s'.os=s₁.os/\AllBare s'.gens) s₁):
  WalkO q loose XP YP l.row.toRowW d [] (fun f vs=>Xk f vs):=by
 intro w s₀ s₁ mg mb G Y fa o pm cd doc dV kV ho hd Ui hD Xv hg args vals as Vl ab2 hrd Z9 hlo;obtain rfl:dV= .none:=Dflts.none hD hdf;obtain rfl:kV= .none:=Dflts.noKw hD;obtain⟨a,vs,ns,rfl,rfl,WC,hints,hlen⟩:=Ah hn Vl Z9;refine enter_call (RP (call w s₀ s₁ mg mb fa o pm cd doc a vs ns G Y ho (fd_plain hd) Ui Xv WC hints hlen hg) fun r s' hq=> ?_);obtain⟨rfl,h2,h3,h4⟩:=hq;exact⟨.inl ⟨.bool true,.bool true,[],rfl,fun _=>rfl,.bool true,AN l _,fun _=>⟨Qq,fun _ hm=>(nomatch hm)⟩⟩,h2,h3,h4⟩
end Att
namespace L2
open PySem PySem.Spec PyProof.Rows
theorem jg:∀{vs:List L5} {ns:List Int},IntsAre vs ns->Vals (ns.map V.int) vs
 |_,_,.nil=> .nil
 |_,_,.cons n t h=> .cons ⟨t,rfl⟩ (jg h)
def JW (H:Hp):Prop:=∀b,H b=none\/∃o xs,H b=some (.frz o (.lst xs))
theorem BK {P:My} {w:MS} {K:Bn} {mg mb:Str->Option L5} {CX:xp} {k:Nat} {fa a:L8} {fd:Nk} {x:Str} {sp:Sp} {s₁:Ma} {vs:List L5} {ns:List Int}
  (KX:K.In s₁.heap) (SU:s₁.heap.Ns Mv mg) (hb:s₁.heap.Ns builtinsNs mb) (Z8:∀x:Str,x≠ "__name__"->mb x=M6 x) (WI:s₁.heap.NoLimit) (hg:s₁.gens= #[])
  (ha:s₁.heap.get? a=some {cls:= .type "list",data:= .seq vs.toArray}) (hi:IntsAre vs ns) (hl:ns.length<=Mq) (hr:Og k callerA)
  (F:∀base:Heap,K.In base->base.Ns Mv mg->FnOk P w K mg base CX k fa fd [x] sp) (UR:∀(s:Ma) (u:L5),Rh s fd ⟨[u],[]⟩ [(x,u)])
  (WM:∀H:Hp,JW H->PU K H a (ns.map V.int)->sp [.ref a] H (fun v _=>v= .bl true) fun _ _ _=>False)
  (hCX:∀H e s',CX [] H s₁ (fun _ _ _=>False) e s'->False):
  codeAny (model P w) callerA (.call (.ref fa) ⟨[.ref a],[]⟩) (fun r s'=>r= .ok (.ret (.bool true))/\OldK s₁.heap s'.heap/\s'.os=s₁.os/\AllBare s'.gens) s₁:=by
 have rv:=jg hi;have ZH:=hi.length
 have core:∀H:Hp,JW H->PU K H a (ns.map V.int)->QU P w H s₁.heap->(∀b,H b≠none->b=a)->(H a≠none->K.lookup a=none)->
   codeAny (model P w) callerA (.call (.ref fa) ⟨[.ref a],[]⟩) (fun r s'=>r= .ok (.ret (.bool true))/\OldK s₁.heap s'.heap/\s'.os=s₁.os/\AllBare s'.gens) s₁:=by
  intro H hO hS Nw hA hK;have TL:∀{b:L8} {o:Obj},s₁.heap.get? b=some o->H b=none->(uv s₁.heap H).get? b=some o:=fun e n=>CL e n;have XH:∀{b:L8} {o:Obj} {es:Array Xf} {ep:Nat},s₁.heap.get? b=some o->o.data= .dict es ep->H b=none:=fun{b o es ep} e d=>by
   cases q:H b with
   |none=>rfl
   |some u=>have e':b=a:=hA b (by rw[q];simp);subst e';rw[ha] at e;cases e;have d':Um.seq vs.toArray _=Um.dict es ep:=d;cases d'
  have YS:∀{b:L8} {m:Str->Option L5},s₁.heap.Ns b m->(uv s₁.heap H).Ns b m:=fun{b m} ⟨o,es,ep,e,d,r⟩=>⟨o,es,ep,TL e (XH e d),d,r⟩;have hKb:K.In (uv s₁.heap H):=fun b o e=>TL (KX b o e) (by
   cases q:H b with
   |none=>rfl
   |some u=>have e':b=a:=hA b (by rw[q];simp);subst e';rw[hK (by rw[q];simp)] at e;cases e)
  have hM:Mod K mg (uv s₁.heap H):=⟨hKb,YS SU,⟨mb,YS hb,Z8⟩,let⟨mc,h1,h2⟩:=WI;⟨mc,YS h1,h2⟩⟩;have e0:Env0 P w K mg (uv s₁.heap H) callerA [] s₁ H:=⟨rfl,hM,fun b o e=>FW e,Xh (Az _ _),trivial,fun b hb=>absurd (show b∈([]:List L8) from hb) (by simp),Nw,.of_eq hg⟩;refine RP ((F _ hKb (YS SU)).run callerA [] s₁ H ⟨[.ref a],[]⟩ [.ref a] [.ref a] _ _ hr e0 (UR s₁ (.ref a)) (.cons rfl .nil) (WM H hO hS)) fun r s' h=> ?_;cases r with
  |error e=>exact(hCX H e s' h).elim
  |ok fl=>
   cases fl with
   |next=>exact False.elim h
   |brk=>exact False.elim h
   |cont=>exact False.elim h
   |ret u=>
    obtain⟨v,H',os,bare,un,ZQ,r',q⟩:=h;have q':v= .bl true:=q;subst q';obtain rfl:u=L5.bool true:=r';refine⟨rfl,OldK.of_keep fun b o e=> ?_,os,bare⟩;cases q:H b with
    |none=>exact un.keep b o e q (by intro z;exact absurd (show b∈([]:List L8) from z) (by simp)) (by simp)
    |some u=>
     rcases hO b with z|⟨ob,xs,z⟩
     ·rw[q] at z;cases z
     ·have z2:=un.Ss b ob _ z;obtain⟨e1,_⟩:=Nw b _ z;obtain⟨e2,_⟩:=ZQ b _ z2;rw[e] at e1;cases e1;exact e2
 cases hk:K.lookup a with
 |some o=>have e:=KX a o hk;rw[ha] at e;cases e;refine core (fun _=>none) (fun _=> .inl rfl) (.inr ⟨_,vs.toArray,_,hk,rfl,rfl,rfl,by rw[Mo,ZH];exact hl,by simpa using rv⟩) (fun b u z=>by have z':(none:Option HO)=some u:=z;cases z') (fun b z=>absurd rfl z) fun z=>absurd rfl z
 |none=>
  refine core (fun b=>if b=a then some (.frz {cls:= .type "list",data:= .seq vs.toArray} (.lst (ns.map V.int))) else none) (fun b=> ?_) (.inl (.inr ⟨{cls:= .type "list",data:= .seq vs.toArray},if_pos rfl⟩)) (fun b u z=> ?_) (fun b z=> ?_) fun _=>hk
  ·by_cases hb:b=a
   ·exact .inr ⟨_,_,if_pos hb⟩
   ·exact .inl (if_neg hb)
  ·by_cases hb:b=a
   ·have z':=(if_pos hb).symm.trans z;cases z';subst hb;exact⟨ha,by rw[L7];exact hl,vs,_,rv,ha⟩
   ·have z':=(if_neg hb).symm.trans z;cases z'
  ·by_cases hb:b=a
   ·exact hb
   ·exact absurd (if_neg hb) z
noncomputable def bE (s:Oj) (j:Nat):Oj:=match s with
 | .ClassDef _ _ _ body _ _ _ _ _ _ _=>body.getD j (.Pass ⟨0,0,0,0⟩)
 |_=> .Pass ⟨0,0,0,0⟩
noncomputable def mJ (s:Oj):Arguments:=match s with
 | .FunctionDef _ a _ _ _ _ _ _ _ _=>a
 |_=>{posonlyargs:=[],args:=[],vararg:=none,kwonlyargs:=[],kw_defaults:=[],kwarg:=none,defaults:=[]}
noncomputable def gi (s:Oj):List Oj:=match s with
 | .FunctionDef _ _ b _ _ _ _ _ _ _=>b
 |_=>[]
noncomputable def bi (s:Oj):OH:=match s with
 | .FunctionDef _ _ _ _ _ _ sc _ _ _=>sc
 |_=>{kind:= .function,names:=[],isGenerator:=false,isCoroutine:=false}
abbrev dr:xp:=fun _ _ _ _ _ _=>False
abbrev E0:XK:=fun _ _ _=>False
theorem D4 {X:Cx}:jd dr X E0:=fun _ _ _ _ _ _ _ h=>h.elim
structure O9 (K:Bn) (x qual:Str) (st:Oj) (f:L8) (fd:Nk):Prop where
 ex:∃(oc:L5) (od:Option L8) (kV doc pm:L5) (an:Option L8) (N5 ct:L5) (U5:Array (Option L5)),
  fd=OQ x qual (mJ st) (gi st) (bi st) .none kV doc pm an N5 ct/\K.lookup f=some ⟨oc,od,.func fd,U5⟩/\RA K N5 qual=true
 kp:Ol K (.ref f)=true
section
variable {P:My} {w:MS} {K:Bn} {mg:Str->Option L5} {base:Heap}
theorem O9.ok {x qual:Str} {st:Oj} {f:L8} {fd:Nk} {N ps:List Str} {k:Nat} {sp:Sp} (F:O9 K x qual st f fd) (S:PK N ps (bi st)) (len:∀vs H Q E,sp vs H Q E->vs.length=ps.length)
  (P2:∀(N5:L5) (A:MO) (outer:List Env) (s:Ma) (H:Hp) (vs:List V) (Q:VK) (E:XK),Og k (A.deeper (envOfC qual (bi st) s.heap.objs.size f N5))->sp vs H Q E->
   ∃t,RZ (pS dr P w K mg base N qual (bi st) f N5 A outer s H E).Vi (gi st) t/\t {nx:=fun _ H'=>Q .OT H',rt:=Q} (start N vs) H):FnOk P w K mg base dr (k+1) f fd ps sp:=by
 obtain⟨oc,od,kV,doc,pm,an,N5,ct,U5,rfl,lk,Ui⟩:=F.ex;refine J1 lk Ui S len fun A outer s H vs Q E hr WM=> ?_;obtain⟨t,h,q⟩:=P2 N5 A outer s H vs Q E hr WM;exact⟨t,h.Vi,q⟩
theorem O9.binds {x qual:Str} {st:Oj} {f:L8} {fd:Nk} {ps:List Str} (F:O9 K x qual st f fd)
  (h:∀(kV doc pm:L5) (an:Option L8) (N5 ct:L5) (us:List L5),us.length=ps.length->bindArgs (OQ x qual (mJ st) (gi st) (bi st) .none kV doc pm an N5 ct) ⟨us,[]⟩=pure (ps.zip us)):Binds K fd ps []:=by
 obtain⟨oc,od,kV,doc,pm,an,N5,ct,U5,rfl,lk,Ui⟩:=F.ex;exact .all (h kV doc pm an N5 ct)
theorem C9 {x qual:Str} {st:Oj} {f:L8} {oc:L5} {od an:Option L8} {U5:Array (Option L5)} {kV doc pm N5 ct:L5} (l:K.lookup f=some ⟨oc,od,.func (OQ x qual (mJ st) (gi st) (bi st) .none kV doc pm an N5 ct),U5⟩)
  (c:RA K N5 qual=true) (k:Ol K (.ref f)=true):O9 K x qual st f (OQ x qual (mJ st) (gi st) (bi st) .none kV doc pm an N5 ct):=⟨⟨oc,od,kV,doc,pm,an,N5,ct,U5,rfl,l,c⟩,k⟩
end
theorem GN {A:MO} {k:Nat} (hr:Og k A):A.units+1<cLine:=Q8 (Nat.add_le_add_left (by decide:1<=64) _) hr.units
section
variable {X:Cx}
theorem pv (i:Nat) {x:Str} {pos:Pos} (hN:X.N[i]? =some x:=by rfl) (hv:Lq X.env.scope x:=by first|exact Or.inl rfl|exact Or.inr (Or.inl rfl)|exact Or.inr (Or.inr rfl)) (hd:(x==("__debug__":Str))=false:=by decide)
  (Ui:(x==("__classdict__":Str))=false:=by decide):PE X (.Name x pos) (Aa i):=Hr hN hv hd Ui
end
def Nt (H H':Hp):Prop:=∀b o,H b=some o->H' b=some o
theorem Nt.refl (H:Hp):Nt H H:=fun _ _ h=>h
theorem Nt.trans {H H1 H2:Hp} (a:Nt H H1) (b:Nt H1 H2):Nt H H2:=fun c o h=>b c o (a c o h)
theorem Nt.free {H H':Hp} (e:Nt H H') {l:L8} (h:H' l=S4):H l=S4:=by
 cases q:H l with
 |none=>rfl
 |some o=>rw[e l o q] at h;cases h
end L2
set_option maxHeartbeats 4000000
namespace L2
open PySem PySem.Spec PyProof.Rows
section
variable {X:Cx} {pins:List (L8×Obj)} {σ:St} {H:Hp} {s:Ma} {h':Heap}
theorem Inv.Te {p:L8} {o:HO} {t':Nat} {ch:List L8} (I:Inv X pins σ H s) (hf:∀b∈ch,nV X pins H b)
  (k:∀b u,b∉ch->s.heap.get? b=some u->h'.get? b=some u) (hp:s.heap.objs.size<=p)
  (new:ObjOk X.prog X.w (bA H p o) h' p o):Inv X pins σ (bA H p o) {s with heap:=h',toks:=t'}:=by
 have hn:H p=none:=I.Nw.fresh hp;have Uw:∀b u,H b=some u->b∉ch:=fun b u e z=>by rw[(hf b z).1] at e;cases e
 have nep:∀b u,s.heap.get? b=some u->b≠p:=fun b u e=>MD (MA (Heap.lt_size e) hp);refine I.step (g':=s.gens) (d':=s.drawn) (ch:=ch) (fun b hb=> ?_) (fun b u _ _ hc e _=>k b u hc e) (fun b u _ _ hc e _=>⟨u.slots,k b u hc e⟩)
  (fun b u _ e n=>by rw[aO (nep b u e)];exact n) (fun b u hc e=>⟨u,k b u hc e⟩) (fun b xs e=>by rw[aO (cC e hn)];exact e)
  (fun b u xs e=>by rw[aO (cC e hn)];exact e) (fun b ps e=>⟨#[],by rw[aO (cC e hn),e];simp⟩) (fun m hm=> ?_) (fun b u e=> ?_) I.bare
 ·obtain⟨_,h2,_,h4,h5,h6⟩:=hf b hb;exact⟨h4,h2,h5,h6⟩
 ·obtain⟨ob,es,ep,ho,r⟩:=hm;exact⟨ob,es,ep,k _ ob (fun z=>(hf _ z).2.1 rfl) ho,r⟩
 ·by_cases hb:b=p
  ·subst hb;rw[aH] at e;cases e;exact new
  ·rw[aO hb] at e
   refine(I.Nw b u e).To (fun c v hc q=>k c v ?_ q) (fun c q=>by rw[aO (cC q hn)];exact q) fun c xs q=>by rw[aO (cC q hn)];exact q
   rcases hc with z|z
   ·rw[z];exact Uw b u e
   ·exact Uw c _ z
end
mutual
inductive DV (K:Bn) (H:Hp):V->Mb->Prop
 |OT:DV K H .OT .none
 |bl (b:Bool):DV K H (.bl b) (.bool b)
 |int (i:Int):DV K H (.int i) (.int i)
 |str (x:Str):DV K H (.str x) (.str x)
 |tup {a:L8} {xs:List V} {ds:List Mb}:P4 K H a xs->Nz K H xs ds->DV K H (.ref a) (.tuple ds)
 |lst {a:L8} {xs:List V} {ds:List Mb}:PU K H a xs->Nz K H xs ds->DV K H (.ref a) (.list ds)
inductive Nz (K:Bn) (H:Hp):List V->List Mb->Prop
 |nil:Nz K H [] []
 |cons {v:V} {vs:List V} {d:Mb} {ds:List Mb}:DV K H v d->Nz K H vs ds->Nz K H (v::vs) (d::ds)
end
section
variable {X:Cx} {pins:List (L8×Obj)} {σ:St} {H:Hp} {s:Ma}
mutual
theorem DV.reads (I:Inv X pins σ H s):∀{v:V} {d:Mb} {u:L5},DV X.K H v d->RelV v u->∃as,Reads s.heap u d as
 |_,_,_,.OT,r=>by cases r;exact⟨_,.none⟩
 |_,_,_,.bl b,r=>by cases r;exact⟨_,.bool b⟩
 |_,_,_,.int i,r=>by obtain⟨t,rfl⟩:=r;exact⟨_,.int i t⟩
 |_,_,_,.str x,r=>by obtain⟨t,rfl⟩:=r;exact⟨_,.str x t⟩
 |_,_,_,.tup h hs,r=>by cases r;obtain⟨MY,rv,⟨o,e,c,n,d⟩,_⟩:=I.tuple h;obtain⟨as,q⟩:=Nz.reads I hs rv;exact⟨_,.tuple e c d (by simpa using q)⟩
 |_,_,_,.lst h hs,r=>by cases r;obtain⟨MY,rv,⟨o,n,e,c,_,d⟩,_⟩:=I.list h;obtain⟨as,q⟩:=Nz.reads I hs rv;exact⟨_,.list e c d (by simpa using q)⟩
theorem Nz.reads (I:Inv X pins σ H s):∀{vs:List V} {ds:List Mb} {us:List L5},Nz X.K H vs ds->Vals vs us->∃as,ReadsAll s.heap us ds as
 |_,_,_,.nil,r=>by cases r;exact⟨_,.nil⟩
 |_,_,_,.cons h hs,r=>by
  cases r with
  |cons r1 r2=>obtain⟨as,q⟩:=DV.reads I h r1;obtain⟨bs,q2⟩:=Nz.reads I hs r2;exact⟨_,.cons q q2⟩
end
end
def FX (K:Bn) (neg:Bool):R2:=fun x y H Q=>∃dx dy,DV K H x dx/\DV K H y dy/\dx.canLay0=true/\dy.canLay0=true/\dx.depth<=64/\Q (.bl (if neg then !Mb.eqv dx dy else Mb.eqv dx dy)) H
section
variable {X:Cx}
theorem gz (hu:X.A.units+64<cLine):OpR X (NM .Eq) (FX X.K false):=by intro pins s σ H x y v u Q I rx ry h;obtain⟨dx,dy,h1,h2,l1,l2,hd,q⟩:=h;obtain⟨as,r1⟩:=h1.reads I rx;obtain⟨bs,r2⟩:=h2.reads I ry;exact Y0 r1 r2 l1 l2 (by omega) ⟨.bl _,H,I,rfl,q⟩
theorem IZ (hu:X.A.units+64<cLine):OpR X (NM .NotEq) (FX X.K true):=by intro pins s σ H x y v u Q I rx ry h;obtain⟨dx,dy,h1,h2,l1,l2,hd,q⟩:=h;obtain⟨as,r1⟩:=h1.reads I rx;obtain⟨bs,r2⟩:=h2.reads I ry;exact Y1 r1 r2 l1 l2 (by omega) ⟨.bl _,H,I,rfl,q⟩
theorem D6:OpR X (NU .FloorDiv) (rI (fun _ j=>0<j/\j.natAbs.log2<9000) fun i j=> .int (i/j)):=Kr fun i j _ _ _ _ _ hc q=>by have h1:(0:Int)<j:=hc.1;exact floordiv_int (by omega) (by rw[Sk i (by omega)];exact q) (.inl (PyProof.noPylong_of_log2 hc.2))
end
noncomputable def iH (env:Env):List (Str×MK)->List (Str×L8)->List (Str×L8)
 |[],acc=>acc
 |(n,k)::r,acc=>if(k==MK.free)=true then(match env.cells.lookup n with|some c=>iH env r ((n,c)::acc)|none=>iH env r acc) else iH env r acc
theorem lK {env:Env} {f:Str×MK->List (Str×L8)->Sem (ForInStep (List (Str×L8)))}
  (h1:∀n k acc,(k==MK.free)=false->f (n,k) acc=pure (.yield acc)) (h2:∀n c acc,env.cells.lookup n=some c->f (n,.free) acc=pure (.yield ((n,c)::acc))):
  ∀(names:List (Str×MK)) (acc:List (Str×L8)),(∀y∈names,y.2= .free->∃c,env.cells.lookup y.1=some c)->forIn names acc f=pure (iH env names acc)
 |[],acc,_=>rfl
 |(n,k)::r,acc,h=>by
  have hr:∀y∈r,y.2= .free->∃c,env.cells.lookup y.1=some c:=fun y hy=>h y (Mj _ hy);rw[RM];cases hk:(k==MK.free) with
  |false=>rw[h1 n k acc hk,pure_bind];show forIn r acc f=_;rw[lK h1 h2 r acc hr];simp only[iH,hk,Q7,if_false]
  |true=>
   have e:k= .free:=by simpa using hk
   subst e;obtain⟨c,hc⟩:=h _ Mp rfl;rw[h2 n c acc hc,pure_bind];show forIn r ((n,c)::acc) f=_;rw[lK h1 h2 r _ hr];have SH:env.cells.lookup n=some c:=hc;simp only[iH,hk,if_true,SH]
theorem qk {env:Env} {scope:OH} (h:∀y∈scope.names,y.2= .free->∃c,env.cells.lookup y.1=some c):closureFor scope env=pure (iH env scope.names []):=by simp only[closureFor];rw[lK (env:=env) (fun n k acc hk=>by simp only[hk,Q7,if_false]) (fun n c acc hc=>by simp only[beq_self_eq_true,if_true,cellOf,hc,pure_bind]) scope.names [] h,pure_bind]
theorem ka {env:Env}:∀(names:List (Str×MK)) (acc:List (Str×L8)),(∀x c,acc.lookup x=some c->env.cells.lookup x=some c)->∀x c,(iH env names acc).lookup x=some c->env.cells.lookup x=some c
 |[],_,h,x,c,e=>h x c e
 |(n,k)::r,acc,h,x,c,e=>by
  unfold iH at e;split at e
  ·split at e
   ·rename_i c' SH
    refine ka r _ (fun y d q=> ?_) x c e;rw[Mu] at q;split at q
    ·rename_i hy;cases q;rw[eq_of_beq hy];exact SH
    ·exact h y d q
   ·exact ka r acc h x c e
  ·exact ka r acc h x c e
theorem kS {env:Env}:∀(names:List (Str×MK)) (acc:List (Str×L8)) (x:Str),(acc.lookup x).isSome=true->((iH env names acc).lookup x).isSome=true
 |[],_,_,h=>h
 |(n,k)::r,acc,x,h=>by
  unfold iH;split
  ·split
   ·refine kS r _ x ?_
    rw[Mu];split
    ·rfl
    ·exact h
   ·exact kS r acc x h
  ·exact kS r acc x h
theorem mE {env:Env}:∀(names:List (Str×MK)) (acc:List (Str×L8)) (x:Str) (c:L8),(x,MK.free)∈names->env.cells.lookup x=some c->((iH env names acc).lookup x).isSome=true
 |[],_,_,_,h,_=>by cases h
 |(n,k)::r,acc,x,c,h,hc=>by
  rcases MH.mp h with z|h
  ·cases z;simp only[iH,beq_self_eq_true,if_true,hc];exact kS r _ _ (by simp[Mu])
  ·unfold iH
   split
   ·split
    ·exact mE r _ x c h hc
    ·exact mE r acc x c h hc
   ·exact mE r acc x c h hc
theorem wg {env:Env} {names:List (Str×MK)} {x:Str} {c:L8} (h:(x,MK.free)∈names) (hc:env.cells.lookup x=some c):(iH env names []).lookup x=some c:=by
 have q:=mE names [] x c h hc;cases e:(iH env names []).lookup x with
 |none=>rw[e] at q;cases q
 |some d=>have z:=ka names [] (fun y d q=>by cases q) x d e;rw[hc] at z;exact z.symm
theorem we {env:Env} {scope:OH} {x:Str} {k:MK} (h:(relabel scope env).names.lookup x=some k):∃k0,(x,k0)∈scope.names/\(k=k0\/(k0= .free/\k= .cell)):=by
 obtain⟨⟨n,k0⟩,hm,e⟩:=Nd.mp (NJ h);simp only at e;split at e
 ·rename_i hc
  cases e;have hk:(k0==MK.free)=true:=by rw[MB,MB] at hc;exact hc.1.1
  exact⟨k0,hm,.inr ⟨by simpa using hk,rfl⟩⟩
 ·cases e;exact⟨_,hm,.inl rfl⟩
theorem jB {env:Env}:∀{names:List (Str×MK)} {x:Str},names.lookup x=some .free->
  (names.map fun(n,k)=>if(k==MK.free&&env.scope.kind== .function&&env.kindOf n==some .cell) then(n,MK.cell) else(n,k)).lookup x=some .cell\/
  (names.map fun(n,k)=>if(k==MK.free&&env.scope.kind== .function&&env.kindOf n==some .cell) then(n,MK.cell) else(n,k)).lookup x=some .free
 |[],_,h=>by cases h
 |(n,k)::r,x,h=>by
  rw[Mu] at h;rw[Ms];dsimp only;by_cases hc:(k==MK.free&&env.scope.kind== .function&&env.kindOf n==some .cell)=true
  ·rw[if_pos hc,Mu]
   cases hx:x==n with
   |true=>exact .inl rfl
   |false=>rw[hx] at h;exact jB h
  ·rw[if_neg hc,Mu]
   cases hx:x==n with
   |true=>rw[hx] at h;exact .inr h
   |false=>rw[hx] at h;exact jB h
noncomputable def gu (own:List Str) (fv:List (Str×Nat)):List Str:=own++fv.map (·.1)
noncomputable def ip (own:List Str) (fv:List (Str×Nat)) (σ:St):St:=own.map (fun _=>none)++fv.map fun p=>(σ[p.2]?).join
def Tc (X:Cx) (scope:OH):List (Str×Nat)->Prop
 |[]=>True
 |p::r=>(X.N[p.2]? =some p.1/\scope.names.lookup p.1=some .free/\(X.env.scope.names.lookup p.1=some .cell\/X.env.scope.names.lookup p.1=some .free))/\Tc X scope r
theorem Tc.mem {X:Cx} {scope:OH}:∀{fv:List (Str×Nat)},Tc X scope fv->∀p∈fv,X.N[p.2]? =some p.1/\scope.names.lookup p.1=some .free/\(X.env.scope.names.lookup p.1=some .cell\/X.env.scope.names.lookup p.1=some .free)
 |[],_,p,hp=>by cases hp
 |q::r,h,p,hp=>by
  rcases MH.mp hp with z|hp
  ·rw[z];exact h.1
  ·exact h.2.mem p hp
noncomputable def uR (X:Cx) (scope:OH) (C:L8):List (Str×L8):=NQ (C+1) scope.names (iH X.env scope.names [])
theorem rR:∀(names:List (Str×MK)) (n:Nat) (acc:List (Str×L8)) (x:Str) (c:L8),(NQ n names acc).lookup x=some c->(n<=c/\(x,MK.cell)∈names)\/acc.lookup x=some c
 |[],_,_,_,_,h=> .inr h
 |(y,k)::r,n,acc,x,c,h=>by
  unfold NQ at h;by_cases hk:(k==MK.cell)=true
  ·rw[if_pos hk] at h
   have e:k= .cell:=by simpa using hk
   rcases rR r _ _ x c h with⟨h1,h2⟩|h1
   ·exact .inl ⟨P5 h1,Mj _ h2⟩
   ·rw[Mu] at h1
    split at h1
    ·rename_i hy;cases h1;exact .inl ⟨Mh _,by rw[eq_of_beq hy,e];exact Mp⟩
    ·exact .inr h1
  ·rw[if_neg hk] at h
   rcases rR r _ _ x c h with⟨h1,h2⟩|h1
   ·exact .inl ⟨h1,Mj _ h2⟩
   ·exact .inr h1
theorem Bc:∀(names:List (Str×MK)) (n:Nat) (acc:List (Str×L8)) (x:Str),(x,MK.cell)∉names->(NQ n names acc).lookup x=acc.lookup x
 |[],_,_,_,_=>rfl
 |(y,k)::r,n,acc,x,h=>by
  have hr:(x,MK.cell)∉r:=fun z=>h (Mj _ z);unfold NQ;by_cases hk:(k==MK.cell)=true
  ·have e:k= .cell:=by simpa using hk
   rw[if_pos hk,Bc r _ _ x hr,Mu];have hy:(x==y)=false:=by refine beq_eq_false_iff_ne.mpr fun z=>h ?_;rw[z,e];exact Mp
   rw[hy]
  ·rw[if_neg hk];exact Bc r _ _ x hr
theorem rC:∀(names:List (Str×MK)) (h:Heap) (acc:List (Str×L8)) (x:Str) (c:L8),(NQ h.objs.size names acc).lookup x=some c->(h.objs.size<=c/\(pushCells h names).IsCell c none)\/acc.lookup x=some c
 |[],_,_,_,_,e=> .inr e
 |(y,k)::r,h,acc,x,c,e=>by
  unfold NQ at e;unfold pushCells;by_cases hk:(k==MK.cell)=true
  ·rw[if_pos hk] at e⊢
   rw[<-Heap.size_push h {cls:= .type "cell",data:= .cell none}] at e;rcases rC r _ _ x c e with⟨h1,h2⟩|h1
   ·rw[Heap.size_push] at h1;exact .inl ⟨P5 h1,h2⟩
   ·rw[Mu] at h1
    split at h1
    ·cases h1;exact .inl ⟨Mh _,_,SN _ _ _ _ (Heap.get?_push_size _ rfl),rfl⟩
    ·exact .inr h1
  ·rw[if_neg hk] at e⊢;exact rC r _ _ x c e
theorem xJ:∀(names:List (Str×MK)) (n:Nat) (acc:List (Str×L8)),(∀x c,acc.lookup x=some c->c<n)->(∀x y c,acc.lookup x=some c->acc.lookup y=some c->x=y)->∀x y c,(NQ n names acc).lookup x=some c->(NQ n names acc).lookup y=some c->x=y
 |[],_,_,_,h2,x,y,c,e1,e2=>h2 x y c e1 e2
 |(z,k)::r,n,acc,h1,h2,x,y,c,e1,e2=>by
  unfold NQ at e1 e2;by_cases hk:(k==MK.cell)=true
  ·rw[if_pos hk] at e1 e2
   refine xJ r (n+1) ((z,n)::acc) (fun a d q=> ?_) (fun a b d q1 q2=> ?_) x y c e1 e2
   ·rw[Mu] at q
    split at q
    ·cases q;exact Qi _
    ·exact P6 (h1 a d q)
   ·rw[Mu] at q1 q2
    split at q1
    ·rename_i ha
     split at q2
     ·rename_i hb;rw[eq_of_beq ha,eq_of_beq hb]
     ·cases q1;exact absurd (h1 b _ q2) (Nx _)
    ·split at q2
     ·cases q2;exact absurd (h1 a _ q1) (Nx _)
     ·exact h2 a b d q1 q2
  ·rw[if_neg hk] at e1 e2;exact xJ r n acc h1 h2 x y c e1 e2
theorem xR:∀{names:List (Str×MK)} {x:Str} {k k':MK},(names.map (·.1)).Nodup->names.lookup x=some k->(x,k')∈names->k=k'
 |[],_,_,_,_,h,_=>by cases h
 |(y,j)::r,x,k,k',hn,h,hm=>by
  rw[Ms,NC] at hn;rw[Mu] at h;rcases MH.mp hm with e|YQ
  ·cases e;rw[beq_self_eq_true] at h;exact(Mw h).symm
  ·cases hx:x==y with
   |true=>rw[eq_of_beq hx] at YQ;exact absurd (Nd.mpr ⟨_,YQ,rfl⟩) hn.1
   |false=>rw[hx] at h;exact xR hn.2 h YQ
noncomputable def d4 (X:Cx) (s:Ma) (H:Hp) (scope:OH) (C:L8) (N:List Str) (fp:List L8):Cx:=
 {X with N:=N,s₀:=s,H₀:=H,env:=compEnvC scope (uR X scope C) C X.env,outer:=X.stack,stack:=X.stack,ex:=fp,fn:=fun x=>((iH X.env scope.names []).lookup x).isNone,pn:=[],xe:=fun _ _=>False}
section
variable {X:Cx} {pins:List (L8×Obj)} {σ:St} {H:Hp} {s:Ma}
theorem sR {scope:OH} (I:Inv X pins σ H s) {x:Str} {c:L8} (e:(iH X.env scope.names []).lookup x=some c):X.env.cells.lookup x=some c/\c<s.heap.objs.size:=by have h:=ka _ _ (fun _ _ q=>by cases q) x c e;obtain⟨v,o,z,_⟩:=I.cell x c h;exact⟨h,Heap.lt_size z⟩
theorem zz {scope:OH} {C:L8} {N:List Str} {fp:List L8} (I:Inv X pins σ H s) (PL:scope.kind= .function) (Us:(scope.names.map (·.1)).Nodup)
  (Uh:∀y∈scope.names,y.2= .free->∃c,X.env.cells.lookup y.1=some c) (hC:s.heap.objs.size<=C) (hf:∀b∈fp,nV X pins H b) (U2:∀b∈fp,b<s.heap.objs.size):(d4 X s H scope C N fp).Ok where
 mod:=I.ok.mod
 kind:=PL
 glob:=I.ok.glob
 blt:=I.ok.blt
 above:=hC
 inj:=xJ _ _ _ (fun x c e=>P6 (MA (sR I e).2 hC)) fun x y c h1 h2=>I.ok.inj x y c (sR I h1).1 (sR I h2).1
 has:=fun x hx=>by
  have Tq:∃k,(relabel scope X.env).names.lookup x=some k/\(k= .cell\/k= .free):=by
   rcases hx with z|z
   ·exact⟨_,z,.inl rfl⟩
   ·exact⟨_,z,.inr rfl⟩
  obtain⟨k,hk,SI⟩:=Tq;obtain⟨k0,hm,hk0⟩:=we hk;have e:k0= .free\/k0= .cell:=by
   rcases hk0 with z|⟨z,_⟩
   ·subst z
    rcases SI with z|z
    ·exact .inr z
    ·exact .inl z
   ·exact .inl z
  have q:((uR X scope C).lookup x).isSome=true:=by
   rcases e with e|e
   ·subst e;obtain⟨c,hc⟩:=Uh _ hm rfl;exact OP _ _ _ (.inr (by rw[wg hm hc];rfl))
   ·subst e
    refine OP _ _ _ (.inl ?_);cases z:scope.names.lookup x with
    |none=>exact absurd hm (fun hm=>by
      have:∀{l:List (Str×MK)},l.lookup x=none->(x,MK.cell)∉l:=fun{l}=>by
       induction l with
       |nil=>exact fun _=>by simp
       |cons p r ih=>
        intro h q;rw[Mu] at h;rcases MH.mp q with q|q
        ·rw[<-q,beq_self_eq_true] at h;cases h
        ·split at h
         ·cases h
         ·exact ih h q
      exact this z hm)
    |some k'=>rw[xR Us z hm]
  exact PX.mp q
 W2:=fun x c h1 h2=>by
  have W3:((iH X.env scope.names []).lookup x).isNone=true:=h1;have Vh:(uR X scope C).lookup x=some c:=h2;rcases rR _ _ _ x c Vh with⟨z,_⟩|z
  ·exact MQ hC (P5 z)
  ·rw[z] at W3;cases W3
 hd:=I.ok.hd
 frames:=I.ok.frames
 XT:= .inl rfl
 XS:=fun b hb=>⟨MD (MA (U2 b hb) hC),fun x c e=>by
  rcases rR _ _ _ x c e with⟨z,_⟩|z
  ·exact Ny (MA (MA (U2 b hb) hC) (P5 z))
  ·exact(hf b hb).2.2.2.2.1 x c (sR I z).1⟩
 bs:=I.bs
 U1:=MQ I.ok.U1 I.sz
 TZ:=fun b o e hb=>by
  rcases(hf b hb).2.2.2.1 with z|z
  ·exact I.ok.TZ b o e z
  ·exact absurd (MA (Heap.lt_size e) (MQ I.ok.U1 z)) (Nx _)
 TX:=fun b hb hs=>by
  rcases MH.mp (I.Ti b hs) with z|z
  ·exact(hf b hb).2.1 z
  ·exact(hf b hb).2.2.1 z
 Rb:=I.stack
 VH:=I.TH
theorem Cr {scope:OH} {C D:L8} {own:List Str} {fv:List (Str×Nat)} {fp:List L8} {h1:Heap} {t1:Nat} {m:Str->Option L5} (I:Inv X pins σ H s) (PL:scope.kind= .function) (Us:(scope.names.map (·.1)).Nodup)
  (Uh:∀y∈scope.names,y.2= .free->∃c,X.env.cells.lookup y.1=some c) (Wz:Tc X scope fv) (hD:s.heap.objs.size<=D) (Xd:D<C) (hC:s.heap.objs.size<=C) (hf:∀b∈fp,nV X pins H b) (U2:∀b∈fp,b<s.heap.objs.size)
  (SU:h1.Ns C m) (WZ:∀x c,(uR X scope C).lookup x=some c->C<c->∃v,h1.IsCell c v) (hk:∀b o,s.heap.get? b=some o->h1.get? b=some o) (hd:∃n,h1.get? D=some {cls:= .type "list",data:= .seq #[] n}):
  Inv (d4 X s H scope C (gu own fv) fp) [] (ip own fv σ) (bA H D (.lst [])) {s with heap:=h1,toks:=t1}:=by
 have hn:H D=none:=I.Nw.fresh hD;obtain⟨n,hd⟩:=hd;have hCD:C≠D:=Ny Xd;have XD:∀x c,(uR X scope C).lookup x=some c->C<c\/(X.env.cells.lookup x=some c/\c<s.heap.objs.size):=fun x c e=>by
  rcases rR _ _ _ x c e with⟨z,_⟩|z
  ·exact .inl z
  ·exact .inr (sR I z)
 refine⟨zz I PL Us Uh hC hf U2,rfl,I.bare,Un.laid hk hD hn,⟨m,SU,fun i x v e1 e2 e3=> ?_⟩,fun x c e=> ?_,?_,fun x c e=> ?_,fun p hp=>absurd (show p∈([]:List (L8×Obj)) from hp) (by simp),?_,?_⟩
 ·
  have Yf:(own++fv.map (·.1))[i]? =some x:=e1;have Vx:(own.map (fun _=>(none:Option V))++fv.map fun p=>(σ[p.2]?).join)[i]? =some (some v):=e2;have hi:own.length<=i:=by
   by_cases hi:i<own.length
   ·rw[MM (by simpa using hi),Ml] at Vx
    cases q:own[i]? with
    |none=>rw[q] at Vx;cases Vx
    |some _=>rw[q] at Vx;cases Vx
   ·omega
  rw[MP hi,Ml] at Yf;rw[MP (by simpa using hi),Ml,L7] at Vx;cases q:fv[i - own.length]? with
  |none=>rw[q] at Yf;cases Yf
  |some p=>
   rw[q] at Yf Vx;have ex:p.1=x:=Mw Yf;subst ex;have ev:(σ[p.2]?).join=some v:=Mw Vx;obtain⟨g1,g2,g3⟩:=Wz.mem p (Nb q);have ev2:σ[p.2]? =some (some v):=by
    cases z:σ[p.2]? with
    |none=>rw[z] at ev;cases ev
    |some y=>rw[z] at ev;exact congrArg some ev
   obtain⟨m0,_,hl⟩:=I.loc;obtain⟨u,r,l⟩:=hl p.2 p.1 v g1 ev2 (.inr g3);refine⟨u,r,?_⟩;have l2:∃c,X.env.cells.lookup p.1=some c/\s.heap.IsCell c (some u):=by
    rcases l with⟨k,_⟩|⟨_,c,e,z⟩
    ·have k':X.env.scope.names.lookup p.1=some .local:=k
     rcases g3 with z|z
     ·rw[z] at k';cases k'
     ·rw[z] at k';cases k'
    ·exact⟨c,e,z⟩
   obtain⟨c,e,o,ho,ZA⟩:=l2;refine .inr ⟨?_,c,?_,o,hk c o ho,ZA⟩
   ·exact jB g2
   ·show(uR X scope C).lookup p.1=some c;unfold uR;rw[Bc _ _ _ _ fun z=>by cases xR Us g2 z];exact wg (NJ g2) e
 ·rcases XD x c e with z|⟨z,_⟩
  ·exact WZ x c e z
  ·obtain⟨v,o,ho,ZA⟩:=I.cell x c z;exact⟨v,o,hk c o ho,ZA⟩
 ·show bA H D (.lst []) C=none;rw[aO hCD];exact I.Nw.fresh hC
 ·show bA H D (.lst []) c=none
  rcases XD x c e with z|⟨z1,z2⟩
  ·rw[aO (Ny (O0 Xd z))];exact I.Nw.fresh (MQ hC (Qn z))
  ·rw[aO (MD (MA z2 hD))];exact I.QM x c z1
 ·exact I.Nw.laid hk hD ⟨by show 0<=Mq;exact MN _,[],n,.nil,hd⟩
 ·show(own.map (fun _=>(none:Option V))++fv.map fun p=>(σ[p.2]?).join).length=(own++fv.map (·.1)).length;simp
end
def BO (X:Cx) (ifs:List MR) (t:TT):Prop:=
 ∀(pins:List (L8×Obj)) (s:Ma) (σ:St) (H:Hp) (Q:Bool->Hp->Prop),Inv X pins σ H s->t σ H Q->
  wpAny (model X.prog X.w) X.A (forIn ifs true fun c r=>if r=true then do let ok<-isTrue c X.env (eval c X.env);pure (ForInStep.yield ok) else pure (ForInStep.yield r)) (TP X pins σ Q) X.xe s
def BQ:TT:=fun _ H Q=>Q true H
theorem eR {X:Cx}:BO X [] BQ:=fun _ _ _ H _ I h=>wpAny_tests_nil ⟨H,I,h⟩
theorem gc {X:Cx} {c:MR} {tc:TT} (h:PT X c tc):BO X [c] tc:=fun pins s σ H Q I hw=>wpAny_tests_one (h pins s σ H Q I hw)
def D9 (J:It) (D:L8) (σc:St) (g:TG) (tc:TT) (te:TE) (H1:Hp) (Fin:Hp->Prop):Prop:=
 ∃W:Nat->Nat->St->Hp->Prop,(∃m,W 0 m σc (bA H1 D (.lst [])))/\∀i m σ H,W i m σ H->
  (J.stop i H/\Fin H)\/(J.go i H/\∃N:St->Hp->Prop,(∀σ' H',N σ' H'->∃m',m'<m/\W (i+1) m' σ' H')/\
   ∀x H',J.Xt i H x H'->g x σ H' fun σ2 H2=>tc σ2 H2 fun b H3=>if b=true then te σ2 H3 fun y H4=>∃ys,H4 D=some (.lst ys)/\ys.length<Mq/\N σ2 (bA H4 D (.lst (ys++[y]))) else N σ2 H3)
section
variable {prog:My} {w:MS} {A:MO} {s:Ma}
theorem z8 {elt tg iter:MR} {ifs:List MR} {scope:OH} {pos:Pos} {it acc:L5} {env:Env} {R:Ta->Ma->Prop} (I:Nat->Ma->Prop)
  (turn:∀n s,I n s->wpAny (model prog w) A (pyNext it) (fun r s1=>match r with
   |none=>R (.ok .next) s1
   |some v=>wpAny (model prog w) A (letOwnedTupleGo tg it v) (fun _ s2=>wpAny (model prog w) A (assign tg env v) (fun _ s3=>
     wpAny (model prog w) A (forIn ifs true fun c r=>if r=true then do let ok<-isTrue c env (eval c env);pure (ForInStep.yield ok) else pure (ForInStep.yield r)) (fun ok s4=>
      if ok=true then wpAny (model prog w) A (eval elt env) (fun x s5=>
       wpAny (model prog w) A (call (.builtin "list.append") [acc,x]) (fun _ s6=>∃m,m<n/\I m s6) (fun _ _=>False) s5) (fun _ _=>False) s4
      else∃m,m<n/\I m s4) (fun _ _=>False) s3) (fun _ _=>False) s2) (fun _ _=>False) s1) (fun _ _=>False) s)
  (n:Nat) (h:I n s):codeAny (model prog w) A (.compLoop (.ListComp elt [⟨tg,iter,ifs,0⟩] scope pos) 0 it acc env) R s:=by
 refine codeAny_loop rfl I (fun n s hI=> ?_) n h;show wpAny _ A (Sem.onRaise (compTurn (.ListComp elt [⟨tg,iter,ifs,0⟩] scope pos) 0 it acc env) (fun x=>do noteFrame x env;theTreesLotGoes x)) _ _ s;refine wpAny_noted ?_;rw[compTurn_list]
 have no:∀{α:Type} {t:Sem α} {Q Q':α->Ma->Prop} {E:L5->Ma->Prop} {s:Ma},wpAny (model prog w) A t Q (fun _ _=>False) s->(∀a s',Q a s'->Q' a s')->wpAny (model prog w) A t Q' E s:=
  fun h1 h2=>wpAny_mono h1 h2 fun _ _ z=>False.elim z
 refine L6 (aaX (L6 (no (turn n s hI) fun r s1 h1=> ?_)));cases r with
 |none=>exact Mi h1
 |some v=>
  refine L6 (no h1 fun _ s2 h2=>L6 (no h2 fun _ s3 h3=>L6 (no h3 fun ok s4 h4=> ?_)));cases ok with
  |false=>exact Mi ⟨rfl,h4⟩
  |true=>exact L6 (L6 (no h4 fun x s5 h5=>L6 (no h5 fun _ s6 h6=>Mi (Mi ⟨rfl,h6⟩))))
end
section
variable {X:Cx} {pins:List (L8×Obj)} {σ:St} {H:Hp} {s:Ma}
theorem ub {M:YX} {A:MO} {E:L5->Ma->Prop} {s:Ma} {scope:OH} {globals:L8} {closure:List (Str×L8)} {qual:Str} {env:Env} {Q:Env->Ma->Prop}
  (h:Q (newEnv scope s.heap.objs.size globals (NQ (s.heap.objs.size+1) scope.names closure) qual none .none (some env) builtinsNs) {s with heap:=pushCells (s.heap.push {cls:= .type "dict",data:= .dict #[]}) scope.names}):
  wpAny M A (newFunctionEnv scope globals closure [] qual none .none (some env)) Q E s:=by
 simp only[newFunctionEnv,Tu,if_true];refine L6 (wpAny_alloc ?_);refine L6 (wpAny_layCells _ (fun name kind cells=>by cases hkc:kind==MK.cell<;>simp[hkc]) _ _ _ _ ?_);rw[show({s with heap:=s.heap.push {cls:= .type "dict",data:= .dict #[]}}:Ma).heap.objs.size=s.heap.objs.size+1 from Heap.size_push ..];rw[Sd];exact L6 (Mi (Mi h))
theorem rd {elt tg iter:MR} {ifs:List MR} {scope:OH} {pos:Pos} {own:List Str} {fv:List (Str×Nat)} {g:TG} {tc:TT} {te:TE} {E:L5->Ma->Prop} {it:L8} {fp:List L8} {tn:Nat->Heap->Prop} {J:It} {Fin:L8->Hp->Prop}
  {RR:L5->L8->Ta->Ma->Prop} (I:Inv X pins σ H s) (hc:X.calm=true) (PL:scope.kind= .function) (Us:(scope.names.map (·.1)).Nodup) (Uh:∀y∈scope.names,y.2= .free->∃c,X.env.cells.lookup y.1=some c) (Wz:Tc X scope fv)
  (T:Turn X.prog X.w X.K tg J fp it tn) (st:tn 0 s.heap) (hf:∀b∈fp,nV X pins H b)
  (hg:∀C,PG (d4 X s H scope C (gu own fv) fp) tg g) (ht:∀C,BO (d4 X s H scope C (gu own fv) fp) ifs tc) (he:∀C,PE (d4 X s H scope C (gu own fv) fp) elt te)
  (hR:∀D,H D=none->D9 J D (ip own fv σ) g tc te H (Fin D))
  (hRR:∀D C H' s',Inv X pins σ H' s'->Fin D H'->(∃m,s'.heap.Ns C m)->s.heap.objs.size<=C->H' C=none->RR (.ref D) C (.ok .next) s'):
  wpAny (model X.prog X.w) X.A (newList []) (fun acc s3=>wpAny (model X.prog X.w) X.A (newFunctionEnv scope X.env.globals (iH X.env scope.names []) [] X.env.qual none .none (some X.env)) (fun Xq s4=>
   codeAny (model X.prog X.w) X.A (.compStart (.ListComp elt [⟨tg,iter,ifs,0⟩] scope pos) 0 (.ref it) acc {Xq with scope:=relabel scope X.env}) (RR acc Xq.locals) s4) E s3) E s:=by
 refine Nr ?_;generalize Ze:s.heap.push {cls:= .type "list",dict:=none,data:= .seq ([]:List L5).toArray}=h2;have hz:h2.objs.size=s.heap.objs.size+1:=by rw[<-Ze,Heap.size_push]
 refine ub (s:={s with heap:=h2}) ?_;have Xd:s.heap.objs.size<h2.objs.size:=by rw[hz];exact Qi _
 have hC:s.heap.objs.size<=h2.objs.size:=Qn Xd;generalize hH1:pushCells (h2.push {cls:= .type "dict",data:= .dict #[]}) scope.names=h1;have kp2:∀b o,h2.get? b=some o->h1.get? b=some o:=fun b o e=>by rw[<-hH1];exact SN _ _ b o (Heap.get?_push_of_some _ e)
 have kp:∀b o,s.heap.get? b=some o->h1.get? b=some o:=fun b o e=>kp2 b o (by rw[<-Ze];exact Heap.get?_push_of_some _ e);have SU:h1.Ns h2.objs.size (fun _=>none):=by rw[<-hH1];exact(Heap.Ns.new h2 (.type "dict")).keeps (SN _ _)
 have WZ:∀x c,(uR X scope h2.objs.size).lookup x=some c->h2.objs.size<c->∃v,h1.IsCell c v:=fun x c e Pw=>by
  have e':(NQ (h2.push {cls:= .type "dict",data:= .dict #[]}).objs.size scope.names (iH X.env scope.names [])).lookup x=some c:=by rw[Heap.size_push];exact e
  rcases rC _ _ _ x c e' with⟨_,z⟩|z
  ·exact⟨none,by rw[<-hH1];exact z⟩
  ·exact absurd (O0 (sR I z).2 (O0 Xd Pw)) (Nx _)
 have hd:∃n,h1.get? s.heap.objs.size=some {cls:= .type "list",data:= .seq #[] n}:=⟨0,kp2 _ _ (by rw[<-Ze];exact Heap.get?_push_size _ rfl)⟩;have U2:∀b∈fp,b<s.heap.objs.size:=fun b hb=>by obtain⟨o,e,_⟩:=T.obj 0 _ st b hb;exact Heap.lt_size e
 have hn:H s.heap.objs.size=none:=I.Nw.fresh (Mh _);obtain⟨W,⟨m0,w0⟩,turn⟩:=hR s.heap.objs.size hn;have fpX:∀{pl:List (L8×Obj)} {H':Hp},(∀b∈fp,H' b=none)->(∀p∈pl,p.1∉fp)->∀b∈fp,nV (d4 X s H scope h2.objs.size (gu own fv) fp) pl H' b:=fun{pl H'} UL SJ b hb=>by have ok:=zz (C:=h2.objs.size) (N:=gu own fv) I PL Us Uh hC hf U2;exact⟨UL b hb,(ok.XS b hb).1,ok.TX b hb,.inl hb,(ok.XS b hb).2,fun p hp=>by have WN:p∈([]:List (L8×Obj))++pl:=hp;intro z;exact SJ p (by simpa using WN) (by rw[z];exact hb)⟩
 have loop:∀s4:Ma,s4={s with heap:=h1}->
   codeAny (model X.prog X.w) X.A (.compLoop (.ListComp elt [⟨tg,iter,ifs,0⟩] scope pos) 0 (.ref it) (.ref s.heap.objs.size) (compEnvC scope (uR X scope h2.objs.size) h2.objs.size X.env)) (RR (.ref s.heap.objs.size) h2.objs.size) s4:=by
  rintro s4 rfl
  have I0:Inv (d4 X s H scope h2.objs.size (gu own fv) fp) [] (ip own fv σ) (bA H s.heap.objs.size (.lst [])) {s with heap:=h1}:=
   Cr I PL Us Uh Wz (Mh _) Xd hC hf U2 SU WZ kp hd
  have st0:tn 0 h1:=T.keep 0 _ _ st fun b _ o e=>kp b o e;have fr0:∀b∈fp,(bA H s.heap.objs.size (.lst [])) b=none:=fun b hb=>by rw[aO (MD (U2 b hb))];exact(hf b hb).1
  refine z8 (fun n s'=>∃i σ' H',Inv (d4 X s H scope h2.objs.size (gu own fv) fp) [] σ' H' s'/\tn i s'.heap/\(∀b∈fp,H' b=none)/\W i n σ' H') ?_ m0 ⟨0,_,_,I0,st0,fr0,w0⟩;rintro n s5 ⟨i,σ5,H5,I5,W6,YT,w5⟩;rcases turn i n σ5 H5 w5 with⟨stop,fin⟩|⟨go,N,hN,step⟩
  ·refine c8 (T.done (d4 X s H scope h2.objs.size (gu own fv) fp) rfl rfl rfl hc i [] s5 σ5 H5 (fun _ _=>False) I5 (fpX YT (by simp)) W6 stop) fun r s6 ⟨hr,I6⟩=> ?_;subst hr;obtain⟨mm,hm,_⟩:=I6.loc;refine hRR _ _ H5 s6 ?_ fin ⟨mm,hm⟩ hC I6.free;exact I.Yc (ch:=fp) I6.os I6.base I6.Nw I6.bare fun b hb=>⟨(hf b hb).2.2.2.1,(hf b hb).2.1,(hf b hb).2.2.2.2.1,(hf b hb).2.2.2.2.2⟩
  ·refine c8 (T.item (d4 X s H scope h2.objs.size (gu own fv) fp) rfl rfl rfl hc i [] s5 σ5 H5 (fun _ _=>False) I5 (fpX YT (by simp)) W6 go) fun r s6 ⟨u,hr,h6⟩=> ?_
   subst hr;refine c8 h6 fun _ s7 ⟨x,H7,I7,r7,y7,st7,fr7⟩=> ?_;have I7':=I7.pinned (fp:=fp) (fpX fr7 (by simp)) (T.obj _ _ st7);have back:∀{σ8:St} {H8:Hp} {s8:Ma},Inv (d4 X s H scope h2.objs.size (gu own fv) fp) ([]++qL fp s7.heap) σ8 H8 s8->N σ8 H8->∃m,m<n/\∃i σ' H',Inv (d4 X s H scope h2.objs.size (gu own fv) fp) [] σ' H' s8/\tn i s8.heap/\(∀b∈fp,H' b=none)/\W i m σ' H':=fun{σ8 H8 s8} I8 n8=>by obtain⟨m',hm,w8⟩:=hN σ8 H8 n8;refine⟨m',hm,i+1,σ8,H8,I8.Q2,T.keep _ _ _ st7 fun b hb o e=>(I8.pin (b,o) (M8 _ (M8 _ (jv hb e)))).1,fun b hb=> ?_,w8⟩;obtain⟨o,e,d⟩:=T.obj _ _ st7 b hb;exact(I8.pin (b,o) (M8 _ (M8 _ (jv hb e)))).2.1
   refine c8 (hg _ _ s7 σ5 H7 x u _ I7' r7 (step x H7 y7)) fun _ s8 ⟨σ8,H8,I8,q8⟩=> ?_;refine c8 (ht _ _ s8 σ8 H8 _ I8 q8) fun ok s9 ⟨H9,I9,q9⟩=> ?_;cases ok with
   |false=>rw[if_neg Mx] at q9⊢;exact back I9 q9
   |true=>rw[if_pos rfl] at q9⊢;refine c8 (he _ _ s9 σ8 H9 _ I9 q9) fun y s10 ⟨v10,H10,I10,r10,ys,hy,hl,q10⟩=> ?_;refine c8 (nu _ s10 σ8 H10 (.ref s.heap.objs.size) [v10] (.ref s.heap.objs.size) [y] (fun _ H11=>N σ8 H11) I10 rfl (.cons r10 .nil) ⟨_,ys,v10,rfl,rfl,hy,hl,q10⟩) fun _ s11 ⟨v11,H11,I11,_,q11⟩=> ?_;exact back I11 q11
 exact codeAny_compStart_list (loop _ rfl) (T.self _ 0 _ _ _ (T.keep 0 _ _ st fun b _ o e=>kp b o e) (loop _ rfl))
def sV (own:List Str) (fv:List (Str×Nat)) (wi:TI) (g:TG) (tc:TT) (te:TE):TE:=fun σ H Q=>wi σ H fun J H1=>∀D,H1 D=none->D9 J D (ip own fv σ) g tc te H1 fun H'=>Q (.ref D) H'
theorem pA {scope:OH} (ok:X.Ok) (h:∀y∈scope.names,y.2= .free->(X.env.scope.names.lookup y.1=some .cell\/X.env.scope.names.lookup y.1=some .free)):∀y∈scope.names,y.2= .free->∃c,X.env.cells.lookup y.1=some c:=
 fun y hy e=>ok.has y.1 (h y hy e)
theorem Gv {scope sc:OH} (h:(scope.names.all fun y=> !(y.2==MK.free)||(sc.names.lookup y.1==some MK.cell)||(sc.names.lookup y.1==some MK.free))=true):
  ∀y∈scope.names,y.2= .free->(sc.names.lookup y.1=some .cell\/sc.names.lookup y.1=some .free):=fun y hy e=>by
 have q:=OB.mp h y hy;rw[e] at q
 simpa using q
theorem dD {elt tg iter:MR} {ifs:List MR} {scope:OH} {pos:Pos} (own:List Str) (fv:List (Str×Nat)) {wi:TI} {g:TG} {tc:TT} {te:TE} (hc:X.calm=true) (hi:PI X tg iter wi)
  (hg:∀s H C fp,PG (d4 X s H scope C (gu own fv) fp) tg g) (ht:∀s H C fp,BO (d4 X s H scope C (gu own fv) fp) ifs tc) (he:∀s H C fp,PE (d4 X s H scope C (gu own fv) fp) elt te) (Wz:Tc X scope fv)
  (Wv:(scope.names.all fun y=> !(y.2==MK.free)||(X.env.scope.names.lookup y.1==some MK.cell)||(X.env.scope.names.lookup y.1==some MK.free))=true)
  (PL:scope.kind= .function:=by rfl) (Us:(scope.names.map (·.1)).Nodup:=by decide+kernel)
  (Th:∀y∈scope.names,y.2= .local->scope.names.lookup y.1=some .local:=by decide+kernel) (hs:∀x,foldedSetIterable iter X.env x=pure x:=by intro _;rfl):
  PE X (.ListComp elt [⟨tg,iter,ifs,0⟩] scope pos) (sV own fv wi g tc te):=by
 intro pins s σ H Q I h;have Uh:=Gv Wv;rw[eval_ListComp];refine TQ (use:=none) rfl hs (qk (pA I.ok Uh)) PL Th (c8 (hi pins s σ H _ I h) fun xv s1 h1=>c8 h1 fun YN s2 h2=> ?_);obtain⟨it,fp,tn,J,H2,e,I2,T,Xu,f2,R⟩:=h2;subst e;refine rd I2 hc PL Us (pA I.ok Uh) Wz T Xu f2 (fun C=>hg _ _ C _) (fun C=>ht _ _ C _) (fun C=>he _ _ C _) (Fin:=fun D H'=>Q (.ref D) H') R ?_;intro D C H' s' I' fin hm hC hn;obtain⟨m,hm⟩:=hm;refine⟨m,hm,fun h' X6=>⟨.ref D,H',?_,rfl,fin⟩⟩;obtain⟨f0,f1,_,f3,f4,f5⟩:=I2.Tf hC hn;exact I'.turned (t':=s'.toks) (fun b o hb q=>(X6.2 b hb).trans q) f0 f1 f3 f4 f5
theorem pI {elt tg iter:MR} {ifs:List MR} {scope:OH} {pos Xs py:Pos} {i:Nat} {x:Str} (own:List Str) (fv:List (Str×Nat)) {wi:TI} {g:TG} {tc:TT} {te:TE} (hN:X.N.Nodup) (ZZ:X.N[i]? =some x) (hx:X.env.scope.names.lookup x=some .local)
  (hc:X.calm=true) (hi:PI X tg iter wi)
  (hg:∀s H C fp,PG (d4 X s H scope C (gu own fv) fp) tg g) (ht:∀s H C fp,BO (d4 X s H scope C (gu own fv) fp) ifs tc) (he:∀s H C fp,PE (d4 X s H scope C (gu own fv) fp) elt te) (Wz:Tc X scope fv)
  (Wv:(scope.names.all fun y=> !(y.2==MK.free)||(X.env.scope.names.lookup y.1==some MK.cell)||(X.env.scope.names.lookup y.1==some MK.free))=true)
  (hsw:NN (.ListComp elt [⟨tg,iter,ifs,0⟩] scope pos) (some (.Name x py)) Xs.line X.env=pure true:=by rfl)
  (PL:scope.kind= .function:=by rfl) (Us:(scope.names.map (·.1)).Nodup:=by decide+kernel)
  (Th:∀y∈scope.names,y.2= .local->scope.names.lookup y.1=some .local:=by decide+kernel) (hs:∀x,foldedSetIterable iter X.env x=pure x:=by intro _;rfl):
  PS X (.Assign [.Name x py] (.ListComp elt [⟨tg,iter,ifs,0⟩] scope pos) Xs) (DQ (sV own fv wi g tc te) (wm i)):=by
 intro pins s σ H D I h;have Uh:=Gv Wv;rw[exec_Assign_Name_used _ _ _ _ hsw];refine L6 (aaX (L6 ?_));show wpAny _ _ (do let _<-comprehension (.ListComp elt [⟨tg,iter,ifs,0⟩] scope pos) scope X.env _ (newList []) false (eval iter X.env) (some (assign (.Name x py) X.env))) _ _ s;refine L6 (c8 (TQ (use:=some (assign (.Name x py) X.env)) (Q:=fun _ s'=>SP X pins D .next s') rfl hs (qk (pA I.ok Uh)) PL Th
  (c8 (hi pins s σ H _ I h) fun xv s1 h1=>c8 h1 fun YN s2 h2=> ?_)) fun _ s' q=>Mi (Mi q))
 obtain⟨it,fp,tn,J,H2,e,I2,T,Xu,f2,R⟩:=h2;subst e;refine rd I2 hc PL Us (pA I.ok Uh) Wz T Xu f2 (fun C=>hg _ _ C _) (fun C=>ht _ _ C _) (fun C=>he _ _ C _) (Fin:=fun L H'=>D.nx (σ.set i (some (.ref L))) H') R ?_;intro L C H' s' I' fin hm hC hn;obtain⟨m,hm⟩:=hm;obtain⟨f0,f1,f2',f3,f4,f5⟩:=I2.Tf hC hn;show wpAny _ _ (assign (.Name x py) X.env (.ref L)) _ _ s';refine WJ (sr I' hN ZZ (.inl hx) (v:= .ref L) rfl (fun X4 I'' ⟨a,sb,ha⟩=> ?_) (.inr hx));have hCa:C≠a:=by
  rcases ha with z|z
  ·rw[z];exact f1
  ·exact fun q=>f4 x a z q.symm
 refine⟨m,hm.sameBut sb hCa,fun h' X6=>⟨_,H',?_,fin⟩⟩;exact I''.turned (t':=X4.toks) (fun b o hb q=>(X6.2 b hb).trans q) f0 f1 f3 f4 f5
end
def zC (P:My) (w:MS) (K:Bn) (mg:Str->Option L5) (base:Heap) (k:Nat) (x:Str) (ps:List Str) (sp:Sp):Prop:=
 ∃(f:L8) (fd:Nk),FnOk P w K mg base dr k f fd ps sp/\Binds K fd ps []/\Ol K (.ref f)=true/\mg x=some (.ref f)
theorem nX {X:Cx} {k j:Nat} {x:Str} {ps:List Str} {sp:Sp} {e:MR} {es:List MR} {t:TA} {p pos:Pos} (C:zC X.prog X.w X.K X.mg X.base k x ps sp) (hr:Og j X.A) (ha:PA X (e::es) t) (V3:k<=j:=by decide) (hg:Gl X x:=by rfl)
  (Uv:(x==("__debug__":Str))=false:=by decide) (he:ML (e::es) X.env=(false,eval e X.env)::ML es X.env:=by rfl) (SJ:(backTo pos (ML es X.env)).any (·.1)=false:=by rfl):
  PE X (.Call (.Name x p) (e::es) [] pos) (sG sp [] E0 t):=by
 obtain⟨f,fd,F,b,kp,m⟩:=C;exact FR F (hr.mono V3) hg m kp b .nil D4 ha Uv he SJ
theorem HP {α:Type} {xs:List α} {i:Int} {v:α} (h0:0<=i) (h:xs[i.toNat]? =some v):l7 xs i=some v:=by have q:=yL h;rwa [OI h0] at q
theorem Nt.tup {K:Bn} {H H':Hp} {a:L8} {xs:List V} (e:Nt H H') (h:P4 K H a xs):P4 K H' a xs:=by
 rcases h with(h|⟨o,h⟩)|h
 ·exact .inl (.inl (e _ _ h))
 ·exact .inl (.inr ⟨o,e _ _ h⟩)
 ·exact .inr h
theorem b8 {H:Hp} {p:L8} (h:H p=none) (o:HO):Nt H (bA H p o):=fun b u q=>by rw[aO (cC q h)];exact q
theorem Dr:M6 "max"=some (.builtin "max"):=by decide+kernel
theorem ud:M6 "isinstance"=some (.builtin "isinstance"):=by decide+kernel
theorem kh:M6 "len"=some (.builtin "len"):=by decide+kernel
theorem mz:M6 "sorted"=some (.builtin "sorted"):=by decide+kernel
theorem Hf:M6 "all"=some (.builtin "all"):=by decide+kernel
theorem GC:M6 "any"=some (.builtin "any"):=by decide+kernel
theorem Kw:M6 "int"=some (.type "int"):=by decide+kernel
theorem x8:M6 "list"=some (.type "list"):=by decide+kernel
theorem kK:M6 "tuple"=some (.type "tuple"):=by decide+kernel
section
variable {X:Cx}
theorem vI:Oq X (.builtin "sorted") (fun xs H Q=>∃(p:L8) (ns:List Int),xs=[.ref p]/\PU X.K H p (ns.map V.int)/\ns.length<64/\∀(l:L8) (ms:List Int),H l=none->ms.Perm ns->ms.Pairwise (·<=·)->Q (.ref l) (bA H l (.lst (ms.map V.int)))):=by
 intro pins s σ H xs us Q I r h;obtain⟨p,ns,rfl,hq,Xa,q⟩:=h;obtain⟨u,rfl,ru⟩:=iy r;cases ru;obtain⟨MY,rv,pl,hz⟩:=I.list hq;have hl:=rv.length;rw[L7] at hl;refine sorted_ints pl.isList (jN rv) (by omega) fun out ms hi hp hs=> ?_;obtain⟨e,he⟩:=sortedAll_at s.heap MY out;have hlen:ms.length=ns.length:=hp.length_eq;have adp:out.toList.length=ms.length:=hi.length;refine⟨.ref (s.heap.objs.size+1),_,I.laid (t':=s.toks) (o:= .lst (ms.map V.int)) (fun b ob z=>sortedAll_old z) (QO _) ?_,rfl,q _ ms (I.Nw.fresh (QO _)) hp hs⟩;refine⟨?_,out.toList,e,jg hi,he⟩;rw[L7,hlen];have:(64:Nat)<=Mq:=by decide
 omega
end
end L2
namespace L3
open PySem L2
abbrev D:=Mb
inductive PV where
 |fz (d:D)
 |ow (ds:List D)
 |pl (i:Nat)
abbrev aK:=List (Option PV)
structure Xc where
 cls:Str
 fs:List (Str×D)
inductive Res (α:Type) where
 |ok (a:α)
 |er (x:Xc)
 |bad
namespace Res
noncomputable def bind {α β:Type} (r:Res α) (f:α->Res β):Res β:=match r with
 | .ok a=>f a
 | .er x=> .er x
 | .bad=> .bad
noncomputable def M3 {α:Type}:Option α->Res α
 |some a=> .ok a
 |none=> .bad
theorem bind_ok {α β:Type} (a:α) (f:α->Res β):(Res.ok a).bind f=f a:=rfl
end Res
abbrev ci:=L8->Prop
noncomputable def bL (O:ci) (p:L8):ci:=fun b=>O b\/b=p
noncomputable def Ay (O:ci) (p:L8):ci:=fun b=>O b/\b≠p
noncomputable def Sa:ci:=fun _=>False
def Ev (O:ci) (H:Hp) (O':ci) (H':Hp):Prop:=∀b o,H b=some o->¬O b->H' b=some o/\¬O' b
theorem Ev.refl {O:ci} {H:Hp}:Ev O H O H:=fun _ _ h n=>⟨h,n⟩
theorem Ev.trans {O O1 O2:ci} {H H1 H2:Hp} (a:Ev O H O1 H1) (b:Ev O1 H1 O2 H2):Ev O H O2 H2:=fun p o h n=>let⟨h1,n1⟩:=a p o h n;b p o h1 n1
theorem Ev.grow {O:ci} {H H':Hp} (s:Nt H H'):Ev O H O H':=fun b o h n=>⟨s b o h,n⟩
theorem Ev.add {O:ci} {H H':Hp} {p:L8} (s:Nt H H') (hp:H p=none):Ev O H (bL O p) H':=fun b o h n=>⟨s b o h,fun z=>z.elim n fun e=>by subst e;rw[h] at hp;cases hp⟩
theorem Ev.sub {O O':ci} {H:Hp} (h:∀b,O' b->O b):Ev O H O' H:=fun b o e n=>⟨e,fun z=>n (h b z)⟩
theorem Ev.mut {O:ci} {H:Hp} {p:L8} (hp:O p) (u:HO):Ev O H O (bA H p u):=fun b o h n=>⟨by rw[aO (fun e=>n (by rw[e];exact hp))];exact h,n⟩
def PB (K:Bn) (H:Hp) (a:L8) (xs:List V):Prop:=Rd H a (.lst xs)\/∃(MY:List L5) (n:Nat),K.lookup a=some {cls:= .type "list",data:= .seq MY.toArray n}/\xs.length<=Mq/\Vals xs MY
theorem PB.sq {K:Bn} {H:Hp} {a:L8} {xs:List V} (h:PB K H a xs):PU K H a xs:=by
 rcases h with h|⟨MY,n,h1,h2,h3⟩
 ·exact .inl h
 ·exact .inr ⟨_,MY.toArray,n,h1,rfl,rfl,rfl,by rw[Mo,<-h3.length];exact h2,by simpa using h3⟩
theorem PB.of {K:Bn} {H:Hp} {a:L8} {xs:List V} (h:H a=some (.lst xs)):PB K H a xs:= .inl (.inl h)
theorem PB.same {K:Bn} {H H':Hp} {a:L8} {xs:List V} (e:Nt H H') (h:PB K H a xs):PB K H' a xs:=by
 rcases h with(h|⟨o,h⟩)|h
 ·exact .inl (.inl (e _ _ h))
 ·exact .inl (.inr ⟨o,e _ _ h⟩)
 ·exact .inr h
theorem kX (H:Hp):Nt (fun _=>none) H:=fun _ _ h=>by cases h
def Ru (O:ci) (K:Bn) (H:Hp) (a:L8) (xs:List V):Prop:=PB K H a xs/\(O a->PB K (fun _=>none) a xs)
def Qj (O:ci) (K:Bn) (H:Hp) (a:L8) (xs:List V):Prop:=P4 K H a xs/\(O a->P4 K (fun _=>none) a xs)
section
variable {O O':ci} {K:Bn} {H H':Hp} {a:L8} {xs:List V}
theorem Ru.ev (h:Ru O K H a xs) (e:Ev O H O' H'):Ru O' K H' a xs:=by
 obtain⟨h,k⟩:=h;by_cases z:O a
 ·exact⟨PB.same (kX H') (k z),fun _=>k z⟩
 ·rcases h with(h|⟨o,h⟩)|h
  ·obtain⟨h1,h2⟩:=e a _ h z;exact⟨.inl (.inl h1),fun y=>absurd y h2⟩
  ·obtain⟨h1,h2⟩:=e a _ h z;exact⟨.inl (.inr ⟨o,h1⟩),fun y=>absurd y h2⟩
  ·exact⟨.inr h,fun _=> .inr h⟩
theorem Qj.ev (h:Qj O K H a xs) (e:Ev O H O' H'):Qj O' K H' a xs:=by
 obtain⟨h,k⟩:=h;by_cases z:O a
 ·exact⟨(kX H').tup (k z),fun _=>k z⟩
 ·rcases h with(h|⟨o,h⟩)|h
  ·obtain⟨h1,h2⟩:=e a _ h z;exact⟨.inl (.inl h1),fun y=>absurd y h2⟩
  ·obtain⟨h1,h2⟩:=e a _ h z;exact⟨.inl (.inr ⟨o,h1⟩),fun y=>absurd y h2⟩
  ·exact⟨.inr h,fun _=> .inr h⟩
end
mutual
inductive DV (O:ci) (K:Bn) (H:Hp):V->D->Prop
 |OT:DV O K H .OT .none
 |bl (b:Bool):DV O K H (.bl b) (.bool b)
 |int (i:Int):DV O K H (.int i) (.int i)
 |str (x:Str):DV O K H (.str x) (.str x)
 |tup {a:L8} {xs:List V} {ds:List D}:Qj O K H a xs->Nz O K H xs ds->DV O K H (.ref a) (.tuple ds)
 |lst {a:L8} {xs:List V} {ds:List D}:Ru O K H a xs->Nz O K H xs ds->DV O K H (.ref a) (.list ds)
inductive Nz (O:ci) (K:Bn) (H:Hp):List V->List D->Prop
 |nil:Nz O K H [] []
 |cons {v:V} {vs:List V} {d:D} {ds:List D}:DV O K H v d->Nz O K H vs ds->Nz O K H (v::vs) (d::ds)
end
section
variable {O O':ci} {K:Bn} {H H':Hp}
mutual
theorem DV.ev (e:Ev O H O' H'):∀{v:V} {d:D},DV O K H v d->DV O' K H' v d
 |_,_,.OT=> .OT
 |_,_,.bl b=> .bl b
 |_,_,.int i=> .int i
 |_,_,.str x=> .str x
 |_,_,.tup h hs=> .tup (h.ev e) (Nz.ev e hs)
 |_,_,.lst h hs=> .lst (h.ev e) (Nz.ev e hs)
theorem Nz.ev (e:Ev O H O' H'):∀{vs:List V} {ds:List D},Nz O K H vs ds->Nz O' K H' vs ds
 |_,_,.nil=> .nil
 |_,_,.cons h hs=> .cons (DV.ev e h) (Nz.ev e hs)
end
theorem Nz.length:∀{vs:List V} {ds:List D},Nz O K H vs ds->vs.length=ds.length
 |_,_,.nil=>rfl
 |_,_,.cons _ t=>by rw[Mm,Mm,t.length]
theorem Nz.get:∀{vs:List V} {ds:List D} {i:Nat} {d:D},Nz O K H vs ds->ds[i]? =some d->∃v,vs[i]? =some v/\DV O K H v d
 |_,_,_,_,.nil,e=>by simp at e
 |_,_,0,_,.cons h _,e=>by simp at e;subst e;exact⟨_,rfl,h⟩
 |_,_,i+1,d,.cons _ t,e=>by obtain⟨v,h1,h2⟩:=Nz.get (i:=i) (d:=d) t (by simpa using e);exact⟨v,by simpa using h1,h2⟩
theorem Nz.Ut:∀{vs:List V} {ds:List D} {i:Nat} {v:V},Nz O K H vs ds->vs[i]? =some v->∃d,ds[i]? =some d/\DV O K H v d
 |_,_,_,_,.nil,e=>by simp at e
 |_,_,0,_,.cons h _,e=>by simp at e;subst e;exact⟨_,rfl,h⟩
 |_,_,i+1,v,.cons _ t,e=>by obtain⟨d,h1,h2⟩:=Nz.Ut (i:=i) (v:=v) t (by simpa using e);exact⟨d,by simpa using h1,h2⟩
theorem Nz.append:∀{vs ws:List V} {ds es:List D},Nz O K H vs ds->Nz O K H ws es->Nz O K H (vs++ws) (ds++es)
 |_,_,_,_,.nil,h=>h
 |_,_,_,_,.cons h t,g=> .cons h (Nz.append t g)
theorem Nz.take:∀{vs:List V} {ds:List D} (n:Nat),Nz O K H vs ds->Nz O K H (vs.take n) (ds.take n)
 |_,_,0,_=> .nil
 |_,_,_+1,.nil=> .nil
 |_,_,n+1,.cons h t=> .cons h (Nz.take n t)
theorem Nz.drop:∀{vs:List V} {ds:List D} (n:Nat),Nz O K H vs ds->Nz O K H (vs.drop n) (ds.drop n)
 |_,_,0,h=>h
 |_,_,_+1,.nil=> .nil
 |_,_,n+1,.cons _ t=>Nz.drop n t
theorem Nz.flat {vs:List V} {ds:List D} (h:Nz O K H vs ds):∀n:Nat,Nz O K H (Me n vs).flatten (Me n ds).flatten
 |0=> .nil
 |n+1=>by rw[Na,Na,NW,NW];exact h.append (Nz.flat h n)
mutual
theorem DV.plain:∀{v:V} {d:D},DV O K H v d->L2.DV K H v d
 |_,_,.OT=> .OT
 |_,_,.bl b=> .bl b
 |_,_,.int i=> .int i
 |_,_,.str x=> .str x
 |_,_,.tup h hs=> .tup h.1 (Nz.plain hs)
 |_,_,.lst h hs=> .lst h.1.sq (Nz.plain hs)
theorem Nz.plain:∀{vs:List V} {ds:List D},Nz O K H vs ds->L2.Nz K H vs ds
 |_,_,.nil=> .nil
 |_,_,.cons h hs=> .cons (DV.plain h) (Nz.plain hs)
end
end
def DX (O:ci) (K:Bn) (H:Hp) (v:V):D->Prop
 | .list ds=>∃a xs,v= .ref a/\PB K H a xs/\Nz O K H xs ds
 |d=>DV O K H v d
theorem DV.x {O:ci} {K:Bn} {H:Hp} {v:V} {d:D} (h:DV O K H v d):DX O K H v d:=by
 cases h with
 |lst h hs=>exact⟨_,_,rfl,h.1,hs⟩
 |OT=>exact .OT
 |bl b=>exact .bl b
 |int i=>exact .int i
 |str x=>exact .str x
 |tup h hs=>exact .tup h hs
theorem DX.plain {O:ci} {K:Bn} {H:Hp} {v:V} {d:D} (h:DX O K H v d):L2.DV K H v d:=by
 cases d with
 |list ds=>obtain⟨a,xs,rfl,h1,h2⟩:=h;exact .lst h1.sq h2.plain
 |none=>exact DV.plain h
 |bool b=>exact DV.plain h
 |int i=>exact DV.plain h
 |str x=>exact DV.plain h
 |tuple ds=>exact DV.plain h
 |dict kvs=>exact DV.plain h
def Sq (K:Bn) (H0:Hp) (O:ci) (H:Hp) (v:V):PV->Prop
 | .fz d=>DV O K H v d
 | .ow ds=>∃a vs,v= .ref a/\O a/\H0 a=none/\H a=some (.lst vs)/\Nz O K H vs ds
 | .pl _=>False
structure Rl (K:Bn) (B:ci) (H0:Hp) (O:ci) (σ:St) (H:Hp) (ρ:aK):Prop where
 same:Nt H0 H
 bo:∀a,B a->O a
 bd:∀a,B a->H0 a≠none
 od:∀a,H a=none->¬O a
 len:σ.length=ρ.length
 slot:∀(i:Nat) (x:PV),ρ[i]? =some (some x)->∃v,σ[i]? =some (some v)/\Sq K H0 O H v x
 one:∀(i j:Nat) (ds es:List D) (v:V),ρ[i]? =some (some (.ow ds))->ρ[j]? =some (some (.ow es))->σ[i]? =some (some v)->σ[j]? =some (some v)->i=j
def Qz (K:Bn) (H0:Hp) (O:ci) (σ:St) (H:Hp) (ρ:aK) (v:V):PV->Prop
 | .fz d=>DV O K H v d
 | .ow ds=>∃a vs,v= .ref a/\O a/\H0 a=none/\H a=some (.lst vs)/\Nz O K H vs ds/\∀(i:Nat) (es:List D),ρ[i]? =some (some (.ow es))->σ[i]?≠some (some (.ref a))
 | .pl i=>σ[i]? =some (some v)
def k9:PV->Prop
 | .ow _=>False
 |_=>True
noncomputable def bU:PV->PV
 | .ow ds=> .fz (.list ds)
 |p=>p
section
variable {K:Bn} {B O O':ci} {H0 H H':Hp} {σ:St} {ρ ρ':aK} {v:V}
theorem Sq.grow {x:PV} (s:Nt H H') (h:Sq K H0 O H v x):Sq K H0 O H' v x:=by
 cases x with
 |fz d=>exact DV.ev (Ev.grow s) h
 |ow ds=>obtain⟨a,vs,e,h1,h2,h3,h4⟩:=h;exact⟨a,vs,e,h1,h2,s _ _ h3,h4.ev (Ev.grow s)⟩
 |pl i=>exact h
theorem Rl.grow (R:Rl K B H0 O σ H ρ) (s:Nt H H'):Rl K B H0 O σ H' ρ:=
 ⟨R.same.trans s,R.bo,R.bd,fun a h=>R.od a (s.free h),R.len,fun i x h=>let⟨v,h1,h2⟩:=R.slot i x h;⟨v,h1,h2.grow s⟩,R.one⟩
theorem Rl.Vz (R:Rl K B H0 O σ H ρ) {p:L8} (h:H p=none):H0 p=none:=R.same.free h
theorem Rl.add (R:Rl K B H0 O σ H ρ) {p:L8} (s:Nt H H') (hp:H p=none) (hq:H' p≠none):Rl K B H0 (bL O p) σ H' ρ:=by
 refine⟨R.same.trans s,fun a h=> .inl (R.bo a h),R.bd,fun a h z=>z.elim (R.od a (s.free h)) fun e=>hq (by rw[<-e];exact h),R.len,fun i x h=> ?_,R.one⟩;obtain⟨v,h1,h2⟩:=R.slot i x h;refine⟨v,h1,?_⟩;cases x with
 |fz d=>exact DV.ev (Ev.add s hp) h2
 |ow ds=>obtain⟨a,vs,e,g1,g2,g3,g4⟩:=h2;exact⟨a,vs,e,.inl g1,g2,s _ _ g3,g4.ev (Ev.add s hp)⟩
 |pl i=>exact h2
theorem Rl.Vo (R:Rl K B H0 O σ H ρ) {a:L8} (h:H0 a=none):¬B a:=fun z=>R.bd a z h
theorem Rl.sub (R:Rl K B H0 O σ H ρ) {a:L8} (h0:H0 a=none) (h:∀(i:Nat) (es:List D),ρ[i]? =some (some (.ow es))->σ[i]?≠some (some (.ref a))):Rl K B H0 (Ay O a) σ H ρ:=by
 refine⟨R.same,fun b hb=>⟨R.bo b hb,fun e=>R.Vo h0 (e▸hb)⟩,R.bd,fun b hb z=>R.od b hb z.1,R.len,fun i x hx=> ?_,R.one⟩;obtain⟨v,h1,h2⟩:=R.slot i x hx;refine⟨v,h1,?_⟩;cases x with
 |fz d=>exact DV.ev (Ev.sub fun b z=>z.1) h2
 |ow ds=>obtain⟨b,vs,e,g1,g2,g3,g4⟩:=h2;subst e;exact⟨b,vs,rfl,⟨g1,fun e=>h i ds hx (by rw[h1,e])⟩,g2,g3,g4.ev (Ev.sub fun b z=>z.1)⟩
 |pl i=>exact h2
theorem uC {a:L8} {vs:List V} {ds:List D} (h:H a=some (.lst vs)) (n:¬O a) (hd:Nz O K H vs ds):DV O K H (.ref a) (.list ds):= .lst ⟨PB.of h,fun z=>absurd z n⟩ hd
theorem gD {pv:PV} (R:Rl K B H0 O σ H ρ) (h:Qz K H0 O σ H ρ v pv):∃O',Ev O H O' H/\Rl K B H0 O' σ H ρ/\Qz K H0 O' σ H ρ v (bU pv):=by
 cases pv with
 |fz d=>exact⟨O,.refl,R,h⟩
 |pl i=>exact⟨O,.refl,R,h⟩
 |ow ds=>obtain⟨a,vs,rfl,h1,h2,h3,h4,h5⟩:=h;exact⟨Ay O a,Ev.sub fun b z=>z.1,R.sub h2 h5,uC h3 (fun z=>z.2 rfl) (h4.ev (Ev.sub fun b z=>z.1))⟩
theorem kZ (pv:PV):k9 (bU pv):=by cases pv<;>trivial
theorem Qz.keep {pv:PV} (hs:k9 pv) (e:Ev O H O' H') (h:Qz K H0 O σ H ρ v pv):Qz K H0 O' σ H' ρ' v pv:=by
 cases pv with
 |fz d=>exact DV.ev e h
 |pl i=>exact h
 |ow ds=>exact hs.elim
noncomputable def LA:Option (Option PV)->Option D
 |some (some (.fz d))=>some d
 |some (some (.ow ds))=>some (.list ds)
 |_=>none
noncomputable def rX (ρ:aK):PV->Option D
 | .fz d=>some d
 | .ow ds=>some (.list ds)
 | .pl i=>LA ρ[i]?
theorem ki {pv:PV} {d:D} (R:Rl K B H0 O σ H ρ) (h:Qz K H0 O σ H ρ v pv) (e:rX ρ pv=some d):DX O K H v d:=by
 cases pv with
 |fz d'=>cases e;exact DV.x h
 |ow ds=>cases e;obtain⟨a,vs,rfl,h1,h2,h3,h4,h5⟩:=h;exact⟨a,vs,rfl,PB.of h3,h4⟩
 |pl i=>
  have e':LA ρ[i]? =some d:=e;have h':σ[i]? =some (some v):=h;cases q:ρ[i]? with
  |none=>rw[q] at e';cases e'
  |some o=>
   cases o with
   |none=>rw[q] at e';cases e'
   |some x=>
    obtain⟨u,g1,g2⟩:=R.slot i x q;rw[h'] at g1;cases g1;rw[q] at e';cases x with
    |fz d'=>cases e';exact DV.x g2
    |ow ds=>cases e';obtain⟨a,vs,rfl,k1,k2,k3,k4⟩:=g2;exact⟨a,vs,rfl,PB.of k3,k4⟩
    |pl j=>exact g2.elim
noncomputable def Lc (ρ:aK) (i:Nat):Option (Option PV)->Option (D×aK)
 |some (some (.fz d))=>some (d,ρ)
 |some (some (.ow ds))=>some (.list ds,ρ.set i (some (.fz (.list ds))))
 |_=>none
noncomputable def vJ (ρ:aK):PV->Option (D×aK)
 | .fz d=>some (d,ρ)
 | .ow ds=>some (.list ds,ρ)
 | .pl i=>Lc ρ i ρ[i]?
theorem cA {α:Type} {l:List α} {i j:Nat} {x y:α} (h:(l.set i x)[j]? =some y):(j=i/\y=x)\/(j≠i/\l[j]? =some y):=by
 rw[Nf] at h;by_cases e:i=j
 ·rw[if_pos e] at h
  split at h
  ·cases h;exact .inl ⟨e.symm,rfl⟩
  ·cases h
 ·rw[if_neg e] at h;exact .inr ⟨fun z=>e z.symm,h⟩
theorem sT {pv:PV} {d:D} (R:Rl K B H0 O σ H ρ) (h:Qz K H0 O σ H ρ v pv) (e:vJ ρ pv=some (d,ρ')):∃O',Ev O H O' H/\Rl K B H0 O' σ H ρ'/\DV O' K H v d:=by
 cases pv with
 |fz d'=>cases e;exact⟨O,.refl,R,h⟩
 |ow ds=>cases e;obtain⟨a,vs,rfl,h1,h2,h3,h4,h5⟩:=h;exact⟨Ay O a,Ev.sub fun b z=>z.1,R.sub h2 h5,uC h3 (fun z=>z.2 rfl) (h4.ev (Ev.sub fun b z=>z.1))⟩
 |pl i=>
  have e':Lc ρ i ρ[i]? =some (d,ρ'):=e;have h':σ[i]? =some (some v):=h;cases q:ρ[i]? with
  |none=>rw[q] at e';cases e'
  |some o=>
   cases o with
   |none=>rw[q] at e';cases e'
   |some x=>
    obtain⟨u,g1,g2⟩:=R.slot i x q;rw[h'] at g1;cases g1;rw[q] at e';cases x with
    |fz d'=>cases e';exact⟨O,.refl,R,g2⟩
    |pl j=>exact g2.elim
    |ow ds=>
     cases e';obtain⟨a,vs,rfl,k1,k2,k3,k4⟩:=g2;have es:Ev O H (Ay O a) H:=Ev.sub fun b z=>z.1;have dv:DV (Ay O a) K H (.ref a) (.list ds):=uC k3 (fun z=>z.2 rfl) (k4.ev es);refine⟨Ay O a,es,⟨R.same,fun b hb=>⟨R.bo b hb,fun e=>R.Vo k2 (e▸hb)⟩,R.bd,fun b hb z=>R.od b hb z.1,by rw[Nc];exact R.len,fun j x hx=> ?_,fun j k xs ys w hj hk=> ?_⟩,dv⟩
     ·rcases cA hx with⟨rfl,ee⟩|⟨QR,hx⟩
      ·cases ee;exact⟨_,h',dv⟩
      ·obtain⟨u,m1,m2⟩:=R.slot j x hx
       refine⟨u,m1,?_⟩;cases x with
       |fz d=>exact DV.ev es m2
       |pl i=>exact m2
       |ow xs=>obtain⟨b,us,rfl,n1,n2,n3,n4⟩:=m2;exact⟨b,us,rfl,⟨n1,fun z=>QR (R.one j i xs ds (.ref a) hx q (by rw[m1,z]) h')⟩,n2,n3,n4.ev es⟩
     ·rcases cA hj with⟨rfl,ee⟩|⟨_,hj⟩
      ·cases ee
      ·rcases cA hk with⟨rfl,ee⟩|⟨_,hk⟩
       ·cases ee
       ·exact R.one j k xs ys w hj hk
end
def Wg (K:Bn) (B:ci) (H:Hp) (c:L5) (dx:Option L8) (x:Xc):Prop:=
 (∃a,c= .ref a/\MG K Mv x.cls=some (some (.ref a)))/\∃fs,(∀p,dx=some p->H p=some (.xd fs))/\∀f d,x.fs.lookup f=some d->dx≠none/\∃v,fs.lookup f=some v/\DV B K H v d
def XE (K:Bn) (B:ci) (H0:Hp) (E:XK) (x:Xc):Prop:=∀c dx H',Nt H0 H'->Wg K B H' c dx x->E c dx H'
def WR {α:Type} (K:Bn) (E:XK) (B:ci) (H0:Hp) (P:α->Prop):Res α->Prop
 | .ok a=>P a
 | .er x=>XE K B H0 E x
 | .bad=>False
section
variable {K:Bn} {E:XK} {B:ci} {H0:Hp}
theorem WR.bind {α β:Type} {P:β->Prop} {r:Res α} {k:α->Res β} (h:WR K E B H0 P (r.bind k)):WR K E B H0 (fun a=>WR K E B H0 P (k a)) r:=by cases r<;>exact h
theorem WR.M3 {α β:Type} {P:β->Prop} {o:Option α} {k:α->Res β} (h:WR K E B H0 P ((Res.M3 o).bind k)):∃a,o=some a/\WR K E B H0 P (k a):=by
 cases o with
 |none=>exact h.elim
 |some a=>exact⟨a,rfl,h⟩
theorem WR.imp {α:Type} {P P':α->Prop} {r:Res α} (h:WR K E B H0 P r) (g:∀a,P a->P' a):WR K E B H0 P' r:=by
 cases r with
 |ok a=>exact g a h
 |er x=>exact h
 |bad=>exact h
end
abbrev FE:=aK->Res (PV×aK)
abbrev FT:=aK->Res (Bool×aK)
abbrev FA:=aK->Res (List PV×aK)
def EO (K:Bn) (E:XK) (t:TE) (f:FE):Prop:=
 ∀(B:ci) (H0:Hp) (O:ci) (σ:St) (H:Hp) (ρ:aK) (Q:VK),Rl K B H0 O σ H ρ->WR K E B H0 (fun r=>∀O' v H',Ev O H O' H'->Rl K B H0 O' σ H' r.2->Qz K H0 O' σ H' r.2 v r.1->Q v H') (f ρ)->t σ H Q
def Td (K:Bn) (E:XK) (t:TT) (f:FT):Prop:=
 ∀(B:ci) (H0:Hp) (O:ci) (σ:St) (H:Hp) (ρ:aK) (Q:Bool->Hp->Prop),Rl K B H0 O σ H ρ->WR K E B H0 (fun r=>∀O' H',Ev O H O' H'->Rl K B H0 O' σ H' r.2->Q r.1 H') (f ρ)->t σ H Q
def AO (K:Bn) (E:XK) (t:TA) (f:FA):Prop:=
 ∀(B:ci) (H0:Hp) (O:ci) (σ:St) (H:Hp) (ρ:aK) (Q:List V->Hp->Prop),Rl K B H0 O σ H ρ->WR K E B H0 (fun r=>∀O' vs H',Ev O H O' H'->Rl K B H0 O' σ H' r.2->Paired (fun v pv=>Qz K H0 O' σ H' r.2 v pv/\k9 pv) vs r.1->Q vs H') (f ρ)->t σ H Q
inductive RV where
 |fz (d:D)
 |ow (ds:List D)
noncomputable def RV.pv:RV->PV
 | .fz d=> .fz d
 | .ow ds=> .ow ds
def Fin (O:ci) (K:Bn) (H:Hp) (Q:VK):RV->Prop
 | .fz d=>∀v H',Nt H H'->DV O K H' v d->Q v H'
 | .ow ds=>∀p vs H',Nt H H'->H p=none->H' p=some (.lst vs)->Nz (bL O p) K H' vs ds->Q (.ref p) H'
def mS (O:ci) (H:Hp):Prop:=∀a,H a=none->¬O a
section
variable {K:Bn} {E:XK} {B O O':ci} {H0 H H':Hp} {σ:St} {ρ ρ':aK} {v:V}
theorem lR {Q:VK} {rv:RV} (R:Rl K B H0 O σ H ρ) (h:∀O' v H',Ev O H O' H'->Rl K B H0 O' σ H' ρ->Qz K H0 O' σ H' ρ v rv.pv->Q v H'):Fin O K H Q rv:=by
 cases rv with
 |fz d=>exact fun v H' s dv=>h O v H' (Ev.grow s) (R.grow s) dv
 |ow ds=>intro p vs H' s hp e dv;refine h (bL O p) (.ref p) H' (Ev.add s hp) (R.add s hp (by rw[e];simp)) ⟨p,vs,rfl,.inr rfl,R.Vz hp,e,dv,fun i es hi z=> ?_⟩;obtain⟨u,h1,a,us,e2,g1,g2,g3,g4⟩:=R.slot i _ hi;rw[z] at h1;cases h1;cases e2;rw[hp] at g3;cases g3
theorem Fin.new {Q:VK} {ds:List D} {vs:List V} (hd:Nz O K H vs ds) (h:Fin O K H Q (.ow ds)):∀p,H p=none->Q (.ref p) (bA H p (.lst vs)):=fun p hp=>
 h p vs _ (b8 hp _) hp aH (hd.ev (Ev.add (b8 hp _) hp))
theorem Fin.Uy {Q:VK} {ds:List D} {vs:List V} (hd:Nz O K H vs ds) (hO:mS O H) (h:Fin O K H Q (.fz (.tuple ds))):∀p,H p=none->Q (.ref p) (bA H p (.tup vs)):=fun p hp=>
 h (.ref p) _ (b8 hp _) (.tup ⟨P4.of aH,fun z=>absurd z (hO p hp)⟩ (hd.ev (Ev.grow (b8 hp _))))
theorem Fin.at {Q:VK} {d:D} (h:Fin O K H Q (.fz d)) (hv:DV O K H v d):Q v H:=h v H (Nt.refl H) hv
noncomputable def yJ (ρ:aK) (i:Nat):Option (Option PV)->Res (PV×aK)
 |some (some (.fz d))=> .ok (.fz d,ρ)
 |some (some (.ow _))=> .ok (.pl i,ρ)
 |_=> .bad
noncomputable def aa (i:Nat):FE:=fun ρ=>yJ ρ i ρ[i]?
theorem ay {i:Nat}:EO K E (Aa i) (aa i):=by
 intro B H0 O σ H ρ Q R w;unfold aa at w;cases q:ρ[i]? with
 |none=>rw[q] at w;exact w.elim
 |some o=>
  cases o with
  |none=>rw[q] at w;exact w.elim
  |some x=>
   rw[q] at w;obtain⟨v,h1,h2⟩:=R.slot i x q;cases x with
   |fz d=>exact⟨v,h1,w O v H .refl R h2⟩
   |ow ds=>exact⟨v,h1,w O v H .refl R h1⟩
   |pl j=>exact w.elim
noncomputable def pC (d:D):FE:=fun ρ=> .ok (.fz d,ρ)
theorem C8 {v:V} {d:D} (h:∀O H,DV O K H v d):EO K E (tC v) (pC d):=fun B H0 O σ H ρ Q R w=>w O v H .refl R (h O H)
theorem a8 {i:Int}:EO K E (tC (.int i)) (pC (.int i)):=C8 fun _ _=> .int i
theorem A7 {b:Bool}:EO K E (tC (.bl b)) (pC (.bool b)):=C8 fun _ _=> .bl b
theorem d9 {x:Str}:EO K E (tC (.str x)) (pC (.str x)):=C8 fun _ _=> .str x
theorem lS:EO K E (tC .OT) (pC .none):=C8 fun _ _=> .OT
def l8 (K:Bn) (r:R2) (f:D->D->Option RV):Prop:=∀(O:ci) (H:Hp) (x y:V) (dx dy:D) (rv:RV) (Q:VK),mS O H->DX O K H x dx->DX O K H y dy->f dx dy=some rv->Fin O K H Q rv->r x y H Q
noncomputable def au (f:D->D->Option RV) (fa fb:FE):FE:=fun ρ=>(fa ρ).bind fun a=>(fb a.2).bind fun b=>(Res.M3 (rX b.2 (bU a.1))).bind fun dx=>(Res.M3 (rX b.2 b.1)).bind fun dy=>(Res.M3 (f dx dy)).bind fun rv=> .ok (rv.pv,b.2)
theorem bh {r:R2} {f:D->D->Option RV} {ta tb:TE} {fa fb:FE} (hr:l8 K r f) (ha:EO K E ta fa) (hb:EO K E tb fb):EO K E (HZ r ta tb) (au f fa fb):=by intro B H0 O σ H ρ Q R w;refine ha B H0 O σ H ρ _ R (w.bind.imp fun a w1 O1 x H1 e1 R1 p1=> ?_);obtain⟨O2,e2,R2,p2⟩:=gD R1 p1;refine hb B H0 O2 σ H1 a.2 _ R2 (w1.bind.imp fun b w2 O3 y H3 e3 R3 p3=> ?_);have ZS:=p2.keep (kZ a.1) e3 (ρ':=b.2);obtain⟨dx,qx,w2⟩:=w2.M3;obtain⟨dy,qy,w2⟩:=w2.M3;obtain⟨rv,qf,w2⟩:=w2.M3;refine hr O3 H3 x y dx dy rv Q R3.od (ki R3 ZS qx) (ki R3 p3 qy) qf (lR R3 fun O4 v H4 e4 R4 p4=> ?_);exact w2 O4 v H4 (e1.trans (e2.trans (e3.trans e4))) R4 p4
noncomputable def Lz:D->Option Bool
 | .bool b=>some b
 |_=>none
theorem Hq {O:ci} {H:Hp} {x:V} {d:D} {b:Bool} (h:DX O K H x d) (e:Lz d=some b):x= .bl b:=by cases d<;>cases e;cases h;rfl
noncomputable def ar (fa:FE):aK->Res (Bool×aK):=fun ρ=>(fa ρ).bind fun a=>(Res.M3 (rX a.2 a.1)).bind fun d=>(Res.M3 (Lz d)).bind fun b=> .ok (b,a.2)
theorem bO {ta:TE} {fa:FE} (ha:EO K E ta fa):Td K E (yl ta) (ar fa):=by intro B H0 O σ H ρ Q R w;refine ha B H0 O σ H ρ _ R (w.bind.imp fun a w1 O1 x H1 e1 R1 p1=> ?_);obtain⟨d,qd,w1⟩:=w1.M3;obtain⟨b,qb,w1⟩:=w1.M3;exact⟨b,Hq (ki R1 p1 qd) qb,w1 O1 H1 e1 R1⟩
theorem Dt {ta:TE} {fa:FE} (ha:EO K E ta fa):Td K E (tB ta) (ar fa):=bO ha
noncomputable def ig (fa fb:FT):FT:=fun ρ=>(fa ρ).bind fun a=>if a.1=true then fb a.2 else .ok (false,a.2)
noncomputable def yh (fa:FT):FT:=fun ρ=>(fa ρ).bind fun a=> .ok (!a.1,a.2)
theorem Td.next {t:TT} {f:FT} {Q:Bool->Hp->Prop} (h:Td K E t f) {O1:ci} {H1:Hp} {ρ:aK} (R:Rl K B H0 O1 σ H1 ρ) (e1:Ev O H O1 H1) (w:WR K E B H0 (fun r=>∀O' H',Ev O H O' H'->Rl K B H0 O' σ H' r.2->Q r.1 H') (f ρ)):t σ H1 Q:=
 h B H0 O1 σ H1 ρ Q R (w.imp fun r q O' H' e' R'=>q O' H' (e1.trans e') R')
theorem EO.next {t:TE} {f:FE} {Q:VK} (h:EO K E t f) {O1:ci} {H1:Hp} {ρ:aK} (R:Rl K B H0 O1 σ H1 ρ) (e1:Ev O H O1 H1) (w:WR K E B H0 (fun r=>∀O' v H',Ev O H O' H'->Rl K B H0 O' σ H' r.2->Qz K H0 O' σ H' r.2 v r.1->Q v H') (f ρ)):t σ H1 Q:=
 h B H0 O1 σ H1 ρ Q R (w.imp fun r q O' v H' e' R' p'=>q O' v H' (e1.trans e') R' p')
theorem jL {t u:TT} {f g:FT} (h1:Td K E t f) (h2:Td K E u g):Td K E (Hw t u) (ig f g):=by
 intro B H0 O σ H ρ Q R w;refine h1 B H0 O σ H ρ _ R (w.bind.imp fun a w1 O1 H1 e1 R1=> ?_);obtain⟨b,ρ1⟩:=a;cases b with
 |true=>exact h2.next R1 e1 w1
 |false=>exact w1 O1 H1 e1 R1
theorem Fp {t:TT} {f:FT} (h1:Td K E t f):Td K E (IT t) (yh f):=by intro B H0 O σ H ρ Q R w;exact h1 B H0 O σ H ρ _ R (w.bind.imp fun a w1 O1 H1 e1 R1=>w1 O1 H1 e1 R1)
noncomputable def fw:FT:=fun ρ=> .ok (true,ρ)
theorem gf:Td K E BQ fw:=fun B H0 O σ H ρ Q R w=>w O H .refl R
noncomputable def Ii (c:FT) (fa fb:FE):FE:=fun ρ=>(c ρ).bind fun a=>if a.1=true then fa a.2 else fb a.2
theorem GV {t:TT} {c:FT} {ta tb:TE} {fa fb:FE} (hc:Td K E t c) (ha:EO K E ta fa) (hb:EO K E tb fb):EO K E (Lu t ta tb) (Ii c fa fb):=by
 intro B H0 O σ H ρ Q R w;refine hc B H0 O σ H ρ _ R (w.bind.imp fun a w1 O1 H1 e1 R1=> ?_);obtain⟨b,ρ1⟩:=a;cases b with
 |true=>exact ha.next R1 e1 w1
 |false=>exact hb.next R1 e1 w1
noncomputable def n9 (f g:D->D->Option RV) (fa fb fc:FE):FE:=fun ρ=>(fa ρ).bind fun a=>(fb a.2).bind fun b=>(Res.M3 (rX b.2 (bU a.1))).bind fun dx=>(Res.M3 (rX b.2 (bU b.1))).bind fun dy=>
 (Res.M3 (f dx dy)).bind fun rv=>match rv with
  | .fz (.bool true)=>(fc b.2).bind fun c=>(Res.M3 (rX c.2 (bU b.1))).bind fun ZL=>(Res.M3 (rX c.2 c.1)).bind fun dz=>(Res.M3 (g ZL dz)).bind fun rv=> .ok (rv.pv,c.2)
  | .fz (.bool false)=> .ok (.fz (.bool false),b.2)
  |_=> .bad
theorem vT {r r':R2} {f g:D->D->Option RV} {ta tb tc:TE} {fa fb fc:FE} (hr:l8 K r f) (hr':l8 K r' g) (ha:EO K E ta fa) (hb:EO K E tb fb) (hc:EO K E tc fc):EO K E (DS r r' ta tb tc) (n9 f g fa fb fc):=by
 intro B H0 O σ H ρ Q R w;refine ha B H0 O σ H ρ _ R (w.bind.imp fun a w1 O1 x H1 e1 R1 p1=> ?_);obtain⟨O2,e2,R2,p2⟩:=gD R1 p1;refine hb B H0 O2 σ H1 a.2 _ R2 (w1.bind.imp fun b w2 O3' y H3 e3' R3' p3'=> ?_);obtain⟨O3,e3,R3,p3⟩:=gD R3' p3';have e3:=e3'.trans e3;have ZS:=p2.keep (kZ a.1) e3 (ρ':=b.2);obtain⟨dx,qx,w2⟩:=w2.M3;obtain⟨dy,qy,w2⟩:=w2.M3;obtain⟨rv,qf,w2⟩:=w2.M3;refine hr O3 H3 x y dx dy rv _ R3.od (ki R3 ZS qx) (ki R3 p3 qy) qf ?_;cases rv with
 |ow ds=>exact w2.elim
 |fz d=>
  intro v H' s dv;cases dv with
  |bl k=>
   refine⟨k,rfl,?_⟩;have R4:=R3.grow s;have e4:Ev O3 H3 O3 H':=Ev.grow s;cases k with
   |false=>exact w2 O3 _ H' (e1.trans (e2.trans (e3.trans e4))) R4 (.bl false)
   |true=>rw[if_pos rfl];refine hc B H0 O3 σ H' b.2 _ R4 (WR.imp (WR.bind w2) fun c w3 O5 z H5 e5 R5 p5=> ?_);obtain⟨ZL,qy',w3⟩:=w3.M3;obtain⟨dz,qz,w3⟩:=w3.M3;obtain⟨rv,qg,w3⟩:=w3.M3;refine hr' O5 H5 y z ZL dz rv Q R5.od (ki R5 (p3.keep (kZ b.1) (e4.trans e5)) qy') (ki R5 p5 qz) qg (lR R5 fun O6 v H6 e6 R6 p6=> ?_);exact w3 O6 v H6 (e1.trans (e2.trans (e3.trans (e4.trans (e5.trans e6))))) R6 p6
  |_=>exact w2.elim
noncomputable def ao:FA:=fun ρ=> .ok ([],ρ)
noncomputable def ae (fa:FE) (fr:FA):FA:=fun ρ=>(fa ρ).bind fun a=>(fr a.2).bind fun b=> .ok (bU a.1::b.1,b.2)
theorem bM:AO K E rF ao:=fun B H0 O σ H ρ Q R w=>w O [] H .refl R .nil
theorem aV {ta:TE} {tr:TA} {fa:FE} {fr:FA} (ha:EO K E ta fa) (hr:AO K E tr fr):AO K E (lx ta tr) (ae fa fr):=by intro B H0 O σ H ρ Q R w;refine ha B H0 O σ H ρ _ R (w.bind.imp fun a w1 O1 x H1 e1 R1 p1=> ?_);obtain⟨O2,e2,R2,p2⟩:=gD R1 p1;refine hr B H0 O2 σ H1 a.2 _ R2 (w1.bind.imp fun b w2 O3 ys H3 e3 R3 p3=> ?_);exact w2 O3 (x::ys) H3 (e1.trans (e2.trans e3)) R3 (.cons ⟨p2.keep (kZ a.1) e3,kZ a.1⟩ p3)
noncomputable def vL (ρ:aK):List PV->Option (List D)
 |[]=>some []
 |p::r=>match rX ρ p with
  |some d=>(match vL ρ r with
   |some ds=>some (d::ds)
   |none=>none)
  |none=>none
theorem xl (R:Rl K B H0 O σ H ρ):∀{vs:List V} {ps:List PV} {ds:List D},Paired (fun v pv=>Qz K H0 O σ H ρ v pv/\k9 pv) vs ps->vL ρ ps=some ds->Paired (DX O K H) vs ds
 |_,_,_,.nil,e=>by cases e;exact .nil
 |_,_,_,.cons (l₁:=vs) (l₂:=ps) (b:=p) h t,e=>by
  unfold vL at e;cases q:rX ρ p with
  |none=>rw[q] at e;cases e
  |some d=>
   rw[q] at e;dsimp only at e;cases q2:vL ρ ps with
   |none=>rw[q2] at e;cases e
   |some X7=>rw[q2] at e;cases e;exact .cons (ki R h.1 q) (xl R t q2)
noncomputable def pe (ρ:aK):List PV->Option (List D×aK)
 |[]=>some ([],ρ)
 |p::r=>match vJ ρ p with
  |some (d,ρ1)=>(match pe ρ1 r with
   |some (ds,ρ2)=>some (d::ds,ρ2)
   |none=>none)
  |none=>none
theorem qN:∀{vs:List V} {ps:List PV} {ds:List D} {O:ci} {ρ ρ':aK},Rl K B H0 O σ H ρ->Paired (fun v pv=>Qz K H0 O σ H ρ v pv/\k9 pv) vs ps->pe ρ ps=some (ds,ρ')->∃O',Ev O H O' H/\Rl K B H0 O' σ H ρ'/\Nz O' K H vs ds
 |_,_,_,O,_,_,R,.nil,e=>by cases e;exact⟨O,.refl,R,.nil⟩
 |_,_,_,O,ρ,ρ',R,.cons (l₁:=vs) (l₂:=ps) (b:=p) h t,e=>by
  unfold pe at e;cases q:vJ ρ p with
  |none=>rw[q] at e;cases e
  |some r=>
   obtain⟨d,ρ1⟩:=r;rw[q] at e;dsimp only at e;cases q2:pe ρ1 ps with
   |none=>rw[q2] at e;cases e
   |some r2=>obtain⟨X7,ρ2⟩:=r2;rw[q2] at e;cases e;obtain⟨O1,e1,R1,d1⟩:=sT R h.1 q;have t1:Paired (fun v pv=>Qz K H0 O1 σ H ρ1 v pv/\k9 pv) vs ps:=Paired.Ph t fun v pv ⟨h1,h2⟩=>⟨h1.keep h2 e1,h2⟩;obtain⟨O2,e2,R2,d2⟩:=qN R1 t1 q2;exact⟨O2,e1.trans e2,R2,.cons (d1.ev e2) d2⟩
abbrev FN:=List D->Res RV
noncomputable def ou (K:Bn) (n:Nat) (F:FN):Sp:=fun vs H Q E=>vs.length=n/\∃(B:ci) (ds:List D),(∀a,B a->H a≠none)/\Nz B K H vs ds/\WR K E B H (Fin B K H Q) (F ds)
noncomputable def aW (fa:FA):FE:=fun ρ=>(fa ρ).bind fun a=>(Res.M3 (pe a.2 a.1)).bind fun b=>if b.1.length<=1000 then .ok (.fz (.tuple b.1),b.2) else .bad
noncomputable def cY (fa:FA):FE:=fun ρ=>(fa ρ).bind fun a=>(Res.M3 (pe a.2 a.1)).bind fun b=>if b.1.length<=1000 then .ok (.ow b.1,b.2) else .bad
theorem x5 {n:Nat} (h:n<=1000):n<=Mq:=MQ h (by decide)
theorem Jh {ta:TA} {fa:FA} (ha:AO K E ta fa):EO K E (HB ta) (aW fa):=by
 intro B H0 O σ H ρ Q R w;refine ha B H0 O σ H ρ _ R (w.bind.imp fun a w1 O1 vs H1 e1 R1 p1=> ?_);obtain⟨⟨ds,ρ2⟩,q,w2⟩:=w1.M3;obtain⟨O2,e2,R2,dv⟩:=qN R1 p1 q;dsimp only at w2;by_cases hn:ds.length<=1000
 ·rw[if_pos hn] at w2;refine⟨by rw[dv.length];exact x5 hn,Fin.Uy dv R2.od (lR (rv:= .fz (.tuple ds)) R2 fun O3 v H3 e3 R3 p3=>w2 O3 v H3 (e1.trans (e2.trans e3)) R3 p3)⟩
 ·rw[if_neg hn] at w2;exact w2.elim
theorem nv {ta:TA} {fa:FA} (ha:AO K E ta fa):EO K E (Kk ta) (cY fa):=by
 intro B H0 O σ H ρ Q R w;refine ha B H0 O σ H ρ _ R (w.bind.imp fun a w1 O1 vs H1 e1 R1 p1=> ?_);obtain⟨⟨ds,ρ2⟩,q,w2⟩:=w1.M3;obtain⟨O2,e2,R2,dv⟩:=qN R1 p1 q;dsimp only at w2;by_cases hn:ds.length<=1000
 ·rw[if_pos hn] at w2;refine⟨by rw[dv.length];exact x5 hn,Fin.new dv (lR (rv:= .ow ds) R2 fun O3 v H3 e3 R3 p3=>w2 O3 v H3 (e1.trans (e2.trans e3)) R3 p3)⟩
 ·rw[if_neg hn] at w2;exact w2.elim
def yK (K:Bn) (r:List V->Hp->VK->Prop) (f:List D->Option RV):Prop:=∀(O:ci) (H:Hp) (xs:List V) (ds:List D) (rv:RV) (Q:VK),mS O H->Paired (DX O K H) xs ds->f ds=some rv->Fin O K H Q rv->r xs H Q
noncomputable def eN (f:List D->Option RV) (fa:FA):FE:=fun ρ=>(fa ρ).bind fun a=>(Res.M3 (vL a.2 a.1)).bind fun ds=>(Res.M3 (f ds)).bind fun rv=> .ok (rv.pv,a.2)
theorem gl {r:List V->Hp->VK->Prop} {f:List D->Option RV} {ta:TA} {fa:FA} (hr:yK K r f) (ha:AO K E ta fa):EO K E (Fs r ta) (eN f fa):=by intro B H0 O σ H ρ Q R w;refine ha B H0 O σ H ρ _ R (w.bind.imp fun a w1 O1 vs H1 e1 R1 p1=> ?_);obtain⟨ds,q,w2⟩:=w1.M3;obtain⟨rv,qf,w2⟩:=w2.M3;exact hr O1 H1 vs ds rv Q R1.od (xl R1 p1 q) qf (lR R1 fun O4 v H4 e4 R4 p4=>w2 O4 v H4 (e1.trans e4) R4 p4)
noncomputable def Ld:D->Option Int
 | .int i=>some i
 |_=>none
theorem Ig {O:ci} {H:Hp} {x:V} {d:D} {i:Int} (h:DX O K H x d) (e:Ld d=some i):x= .int i:=by cases d<;>cases e;cases h;rfl
abbrev FO:=aK->Res (Option Int×aK)
def Ly (K:Bn) (E:XK) (t:TO) (f:FO):Prop:=
 ∀(B:ci) (H0:Hp) (O:ci) (σ:St) (H:Hp) (ρ:aK) (Q:Option Int->Hp->Prop),Rl K B H0 O σ H ρ->WR K E B H0 (fun r=>∀O' H',Ev O H O' H'->Rl K B H0 O' σ H' r.2->Q r.1 H') (f ρ)->t σ H Q
noncomputable def sN (fa:FE):FO:=fun ρ=>(fa ρ).bind fun a=>(Res.M3 (rX a.2 a.1)).bind fun d=>(Res.M3 (Ld d)).bind fun i=> .ok (some i,a.2)
theorem CH {ta:TE} {fa:FE} (ha:EO K E ta fa):Ly K E (GY ta) (sN fa):=by intro B H0 O σ H ρ Q R w;refine ha B H0 O σ H ρ _ R (w.bind.imp fun a w1 O1 x H1 e1 R1 p1=> ?_);obtain⟨d,q,w2⟩:=w1.M3;obtain⟨i,qi,w2⟩:=w2.M3;exact⟨i,Ig (ki R1 p1 q) qi,w2 O1 H1 e1 R1⟩
def LD (K:Bn) (r:V->Option Int->Option Int->Hp->VK->Prop) (f:D->Option Int->Option Int->Option RV):Prop:=∀(O:ci) (H:Hp) (x:V) (lo hi:Option Int) (dx:D) (rv:RV) (Q:VK),mS O H->DX O K H x dx->f dx lo hi=some rv->Fin O K H Q rv->r x lo hi H Q
noncomputable def JX (f:D->Option Int->Option Int->Option RV) (fa:FE) (fl fh:FO):FE:=fun ρ=>(fa ρ).bind fun a=>(fl a.2).bind fun l=>(fh l.2).bind fun h=>(Res.M3 (rX h.2 (bU a.1))).bind fun dx=>(Res.M3 (f dx l.1 h.1)).bind fun rv=> .ok (rv.pv,h.2)
theorem Kf {r:V->Option Int->Option Int->Hp->VK->Prop} {f:D->Option Int->Option Int->Option RV} {ta:TE} {tl th:TO} {fa:FE} {fl fh:FO} (hr:LD K r f) (ha:EO K E ta fa) (hl:Ly K E tl fl) (hh:Ly K E th fh):EO K E (LK r ta tl th) (JX f fa fl fh):=by intro B H0 O σ H ρ Q R w;refine ha B H0 O σ H ρ _ R (w.bind.imp fun a w1 O1 x H1 e1 R1 p1=> ?_);obtain⟨O2,e2,R2,p2⟩:=gD R1 p1;refine hl B H0 O2 σ H1 a.2 _ R2 (w1.bind.imp fun l w2 O3 H3 e3 R3=> ?_);refine hh B H0 O3 σ H3 l.2 _ R3 (w2.bind.imp fun h w3 O4 H4 e4 R4=> ?_);obtain⟨dx,qx,w3⟩:=w3.M3;obtain⟨rv,qf,w3⟩:=w3.M3;exact hr O4 H4 x l.1 h.1 dx rv Q R4.od (ki R4 (p2.keep (kZ a.1) (e3.trans e4)) qx) qf (lR R4 fun O5 v H5 e5 R5 p5=>w3 O5 v H5 (e1.trans (e2.trans (e3.trans (e4.trans e5)))) R5 p5)
end
theorem uO {α:Type} {l:List α} {i:Nat} {x y:α} (h:(l.set i x)[i]? =some y):i<l.length:=by
 rw[Nf] at h;rw[if_pos rfl] at h;split at h
 ·assumption
 ·cases h
section
variable {K:Bn} {E:XK} {B O O':ci} {H0 H H':Hp} {σ:St} {ρ ρ':aK} {v:V}
theorem Rl.mut {i:Nat} {ds X7:List D} {a:L8} {U3:List V} (R:Rl K B H0 O σ H ρ) (hi:ρ[i]? =some (some (.ow ds))) (hv:σ[i]? =some (some (.ref a))) (hO:O a) (h0:H0 a=none) (hd:Nz O K H U3 X7):
  Rl K B H0 O σ (bA H a (.lst U3)) (ρ.set i (some (.ow X7))):=by
 have ev:Ev O H O (bA H a (.lst U3)):=Ev.mut hO _;refine⟨fun b o e=>by rw[aO (cC e h0)];exact R.same b o e,R.bo,R.bd,fun b hb=> ?_,by rw[Nc];exact R.len,fun j x hx=> ?_,fun j k xs ys w hj hk Vg SI=> ?_⟩
 ·by_cases e:b=a
  ·rw[e,aH] at hb;cases hb
  ·rw[aO e] at hb;exact R.od b hb
 ·rcases cA hx with⟨rfl,ee⟩|⟨QR,hx⟩
  ·cases ee;exact⟨_,hv,a,U3,rfl,hO,h0,aH,hd.ev ev⟩
  ·obtain⟨u,m1,m2⟩:=R.slot j x hx
   refine⟨u,m1,?_⟩;cases x with
   |fz d=>exact DV.ev ev m2
   |pl i=>exact m2
   |ow xs=>obtain⟨b,us,rfl,n1,n2,n3,n4⟩:=m2;have hba:b≠a:=fun z=>QR (R.one j i xs ds (.ref a) hx hi (by rw[m1,z]) hv);exact⟨b,us,rfl,n1,n2,by rw[aO hba];exact n3,n4.ev ev⟩
 ·have own:∀{j:Nat} {xs:List D},(ρ.set i (some (.ow X7)))[j]? =some (some (.ow xs))->∃ys,ρ[j]? =some (some (.ow ys)):=fun{j xs} h=>by
   rcases cA h with⟨rfl,_⟩|⟨_,h⟩
   ·exact⟨_,hi⟩
   ·exact⟨_,h⟩
  obtain⟨xs',hj'⟩:=own hj;obtain⟨ys',WX⟩:=own hk;exact R.one j k xs' ys' w hj' WX Vg SI
theorem sC {n:Nat} (h:n<1000000):n<Mq:=MA h (by decide)
noncomputable def Ct:Option (Option PV)->Option (List D)
 |some (some (.ow ds))=>some ds
 |_=>none
theorem zc {o:Option (Option PV)} {ds:List D} (h:Ct o=some ds):o=some (some (.ow ds)):=by
 unfold Ct at h;split at h
 ·cases h;rfl
 ·cases h
noncomputable def lL (i:Nat) (fe:FE):FE:=fun ρ=>(Res.M3 (Ct ρ[i]?)).bind fun _=>(fe ρ).bind fun a=>(Res.M3 (vJ a.2 a.1)).bind fun b=>(Res.M3 (Ct b.2[i]?)).bind fun ds=>
 if ds.length<1000000 then .ok (.fz .none,b.2.set i (some (.ow (ds++[b.1])))) else .bad
theorem Ck {i:Nat} {te:TE} {fe:FE} (he:EO K E te fe):EO K E (Ls K "list" uL (Aa i) (lx te rF)) (lL i fe):=by
 intro B H0 O σ H ρ Q R w;obtain⟨ds0,q0,w⟩:=w.M3;obtain⟨v,g1,a,vs,rfl,g2,g3,g4,g5⟩:=R.slot i _ (zc q0);refine⟨_,g1,.inl ⟨rfl,_,PU.of g4⟩,?_⟩;refine he B H0 O σ H ρ _ R (w.bind.imp fun b w1 O1 y H1 e1 R1 p1=> ?_);obtain⟨⟨d,ρ2⟩,qd,w1⟩:=w1.M3;obtain⟨O2,e2,R2,dv⟩:=sT R1 p1 qd;obtain⟨ds,qo,w1⟩:=w1.M3;have qo:=zc qo;obtain⟨v',k1,a',U3,e',k2,k3,k4,k5⟩:=R2.slot i _ qo;subst e';rw[g1] at k1;cases k1;dsimp only at w1;by_cases hl:ds.length<1000000
 ·rw[if_pos hl] at w1;refine⟨a,U3,y,rfl,rfl,k4,sC (by rw[k5.length];exact hl),?_⟩;exact w1 O2 .OT _ (e1.trans (e2.trans (Ev.mut k2 _))) (R2.mut qo g1 k2 k3 (k5.append (.cons dv .nil))) .OT
 ·rw[if_neg hl] at w1;exact w1.elim
abbrev FG:=PV->aK->Res aK
abbrev Iq:=List D->aK->Res aK
def GO (K:Bn) (E:XK) (g:TG) (f:FG):Prop:=
 ∀(B:ci) (H0:Hp) (O:ci) (σ:St) (H:Hp) (ρ:aK) (v:V) (pv:PV) (Q:St->Hp->Prop),Rl K B H0 O σ H ρ->Qz K H0 O σ H ρ v pv->WR K E B H0 (fun ρ'=>∀O' σ' H',Ev O H O' H'->Rl K B H0 O' σ' H' ρ'->Q σ' H') (f pv ρ)->g v σ H Q
def K0 (K:Bn) (E:XK) (g:AJ) (f:Iq):Prop:=
 ∀(B:ci) (H0:Hp) (O:ci) (σ:St) (H:Hp) (ρ:aK) (vs:List V) (ds:List D) (Q:St->Hp->Prop),Rl K B H0 O σ H ρ->Nz O K H vs ds->WR K E B H0 (fun ρ'=>∀O' σ' H',Ev O H O' H'->Rl K B H0 O' σ' H' ρ'->Q σ' H') (f ds ρ)->g vs σ H Q
theorem Rl.XR {i:Nat} {d:D} (R:Rl K B H0 O σ H ρ) (h:DV O K H v d):Rl K B H0 O (σ.set i (some v)) H (ρ.set i (some (.fz d))):=by
 refine⟨R.same,R.bo,R.bd,R.od,by rw[Nc,Nc];exact R.len,fun j x hx=> ?_,fun j k xs ys w hj hk Vg SI=> ?_⟩
 ·rcases cA hx with⟨rfl,e⟩|⟨QR,hx⟩
  ·cases e;have:=uO hx;exact⟨v,by rw[Nf,if_pos rfl,if_pos (by rw[R.len];exact this)],h⟩
  ·obtain⟨u,m1,m2⟩:=R.slot j x hx;exact⟨u,by rw[Nf,if_neg (fun z=>QR z.symm)];exact m1,m2⟩
 ·rcases cA hj with⟨rfl,ee⟩|⟨n1,hj⟩
  ·cases ee
  ·rcases cA hk with⟨rfl,ee⟩|⟨n2,hk⟩
   ·cases ee
   ·rw[Nf,if_neg (fun z=>n1 z.symm)] at Vg;rw[Nf,if_neg (fun z=>n2 z.symm)] at SI;exact R.one j k xs ys w hj hk Vg SI
theorem Rl.Wc {i:Nat} {ds:List D} (R:Rl K B H0 O σ H ρ) (h:Qz K H0 O σ H ρ v (.ow ds)):Rl K B H0 O (σ.set i (some v)) H (ρ.set i (some (.ow ds))):=by
 obtain⟨a,vs,rfl,h1,h2,h3,h4,h5⟩:=h;refine⟨R.same,R.bo,R.bd,R.od,by rw[Nc,Nc];exact R.len,fun j x hx=> ?_,fun j k xs ys w hj hk Vg SI=> ?_⟩
 ·rcases cA hx with⟨rfl,e⟩|⟨QR,hx⟩
  ·cases e;have:=uO hx;exact⟨.ref a,by rw[Nf,if_pos rfl,if_pos (by rw[R.len];exact this)],a,vs,rfl,h1,h2,h3,h4⟩
  ·obtain⟨u,m1,m2⟩:=R.slot j x hx;exact⟨u,by rw[Nf,if_neg (fun z=>QR z.symm)];exact m1,m2⟩
 ·rcases cA hj with⟨rfl,ee⟩|⟨n1,hjj⟩
  ·rcases cA hk with⟨rfl,ee2⟩|⟨n2,hk⟩
   ·rfl
   ·rw[Nf,if_neg (fun z=>n2 z.symm)] at SI
    rcases cA Vg with⟨_,e⟩|⟨z,_⟩
    ·cases e;exact absurd SI (h5 k ys hk)
    ·exact absurd rfl z
  ·have hj':=hjj
   rw[Nf,if_neg (fun z=>n1 z.symm)] at Vg;rcases cA hk with⟨rfl,ee⟩|⟨n2,hk⟩
   ·rcases cA SI with⟨_,e⟩|⟨z,_⟩
    ·cases e;exact absurd Vg (h5 j xs hjj)
    ·exact absurd rfl z
   ·rw[Nf,if_neg (fun z=>n2 z.symm)] at SI;exact R.one j k xs ys w hjj hk Vg SI
noncomputable def gN (i:Nat):FG:=fun pv ρ=>match pv with
 | .ow ds=> .ok (ρ.set i (some (.ow ds)))
 | .fz d=> .ok (ρ.set i (some (.fz d)))
 | .pl j=>(Res.M3 (vJ ρ (.pl j))).bind fun b=> .ok (b.2.set i (some (.fz b.1)))
theorem b4 {i:Nat}:GO K E (wm i) (gN i):=by
 intro B H0 O σ H ρ v pv Q R p w;cases pv with
 |ow ds=>exact w O _ H .refl (R.Wc p)
 |fz d=>exact w O _ H .refl (R.XR p)
 |pl j=>obtain⟨⟨d,ρ2⟩,q,w⟩:=WR.M3 (show WR K E B H0 _ ((Res.M3 (vJ ρ (.pl j))).bind fun b=> .ok (b.2.set i (some (.fz b.1)))) from w);obtain⟨O2,e2,R2,dv⟩:=sT R p q;exact w O2 _ H e2 (R2.XR dv)
noncomputable def KP:Iq:=fun ds ρ=>match ds with
 |[]=> .ok ρ
 |_=> .bad
noncomputable def JH (f:FG) (g:Iq):Iq:=fun ds ρ=>match ds with
 |[]=> .bad
 |d::r=>(f (.fz d) ρ).bind fun ρ1=>g r ρ1
theorem DJ:K0 K E Jn KP:=by
 intro B H0 O σ H ρ vs ds Q R dv w;cases dv with
 |nil=>exact⟨rfl,w O σ H .refl R⟩
 |cons _ _=>exact w.elim
theorem uf {t:TG} {u:AJ} {f:FG} {g:Iq} (h1:GO K E t f) (h2:K0 K E u g):K0 K E (DB t u) (JH f g):=by
 intro B H0 O σ H ρ vs ds Q R dv w;cases dv with
 |nil=>exact w.elim
 |cons hd tl=>rename_i v vs d ds;refine⟨_,_,rfl,h1 B H0 O σ H ρ _ (.fz d) _ R hd (WR.imp (WR.bind w) fun ρ1 w1 O1 σ1 H1 e1 R1=> ?_)⟩;exact h2 B H0 O1 σ1 H1 ρ1 _ _ Q R1 (tl.ev e1) (w1.imp fun ρ2 q O2 σ2 H2 e2 R2=>q O2 σ2 H2 (e1.trans e2) R2)
noncomputable def LO:D->Option (List D)
 | .tuple ds=>some ds
 |_=>none
theorem Di {O:ci} {H:Hp} {x:V} {d:D} {ds:List D} (h:DX O K H x d) (e:LO d=some ds):∃a xs,x= .ref a/\Qj O K H a xs/\Nz O K H xs ds:=by
 cases d<;>cases e;cases h with
 |tup h hs=>exact⟨_,_,rfl,h,hs⟩
noncomputable def gT (n:Nat) (f:Iq):FG:=fun pv ρ=>(Res.M3 (rX ρ pv)).bind fun d=>(Res.M3 (LO d)).bind fun ds=>if ds.length=n then f ds ρ else .bad
theorem C2 {n:Nat} {t:AJ} {f:Iq} (h:K0 K E t f):GO K E (IK K n t) (gT n f):=by
 intro B H0 O σ H ρ v pv Q R p w;obtain⟨d,qd,w⟩:=w.M3;obtain⟨ds,qs,w⟩:=w.M3;obtain⟨a,xs,rfl,hq,hx⟩:=Di (ki R p qd) qs;by_cases hn:ds.length=n
 ·rw[if_pos hn] at w;exact⟨a,xs,rfl,hq.1,hx.length.trans hn,h B H0 O σ H ρ xs ds Q R hx w⟩
 ·rw[if_neg hn] at w;exact w.elim
inductive Fl where
 |nx (ρ:aK)
 |rt (rv:RV)
 |bk (ρ:aK)
 |ct (ρ:aK)
abbrev FS:=aK->Res Fl
def T4 (K:Bn) (B:ci) (H0:Hp) (O:ci) (H:Hp) (D:Ends):Fl->Prop
 | .nx ρ'=>∀O' σ' H',Ev O H O' H'->Rl K B H0 O' σ' H' ρ'->D.nx σ' H'
 | .bk ρ'=>∀O' σ' H',Ev O H O' H'->Rl K B H0 O' σ' H' ρ'->D.bk σ' H'
 | .ct ρ'=>∀O' σ' H',Ev O H O' H'->Rl K B H0 O' σ' H' ρ'->D.ct σ' H'
 | .rt rv=>Fin B K H0 D.rt rv
def SO (K:Bn) (E:XK) (t:TS) (g:FS):Prop:=
 ∀(B:ci) (H0:Hp) (O:ci) (σ:St) (H:Hp) (ρ:aK) (D:Ends),Rl K B H0 O σ H ρ->WR K E B H0 (T4 K B H0 O H D) (g ρ)->t D σ H
theorem T4.ev {D:Ends} {fl:Fl} {O1:ci} {H1:Hp} (e:Ev O H O1 H1) (h:T4 K B H0 O H D fl):T4 K B H0 O1 H1 D fl:=by
 cases fl with
 |nx ρ'=>exact fun O' σ' H' e' R'=>h O' σ' H' (e.trans e') R'
 |bk ρ'=>exact fun O' σ' H' e' R'=>h O' σ' H' (e.trans e') R'
 |ct ρ'=>exact fun O' σ' H' e' R'=>h O' σ' H' (e.trans e') R'
 |rt rv=>exact h
noncomputable def dH:FS:=fun ρ=> .ok (.nx ρ)
noncomputable def bz (f g:FS):FS:=fun ρ=>(f ρ).bind fun fl=>match fl with
 | .nx ρ1=>g ρ1
 |fl=> .ok fl
noncomputable def gO (f:FE):FS:=fun ρ=>(f ρ).bind fun a=> .ok (.nx a.2)
noncomputable def de (f:FE) (g:FG):FS:=fun ρ=>(f ρ).bind fun a=>(g a.1 a.2).bind fun ρ1=> .ok (.nx ρ1)
noncomputable def jW (c:FT) (f g:FS):FS:=fun ρ=>(c ρ).bind fun a=>if a.1=true then f a.2 else g a.2
noncomputable def AQ (ρ:aK):PV->Option RV
 | .fz d=>some (.fz d)
 | .ow ds=>some (.ow ds)
 | .pl i=>match ρ[i]? with
  |some (some (.fz d))=>some (.fz d)
  |some (some (.ow ds))=>some (.ow ds)
  |_=>none
noncomputable def dG (f:FE):FS:=fun ρ=>(f ρ).bind fun a=>(Res.M3 (AQ a.2 a.1)).bind fun rv=> .ok (.rt rv)
theorem ut:SO K E Ed dH:=fun B H0 O σ H ρ D R w=>w O σ H .refl R
theorem bV {t u:TS} {f g:FS} (h1:SO K E t f) (h2:SO K E u g):SO K E (IM t u) (bz f g):=by
 intro B H0 O σ H ρ D R w;refine h1 B H0 O σ H ρ {D with nx:=u D} R (WR.imp (WR.bind w) fun fl w1=> ?_);cases fl with
 |nx ρ1=>exact fun O1 σ1 H1 e1 R1=>h2 B H0 O1 σ1 H1 ρ1 D R1 (WR.imp w1 fun fl q=>q.ev e1)
 |rt rv=>exact w1
 |bk ρ1=>exact w1
 |ct ρ1=>exact w1
theorem yn {t:TE} {f:FE} (h:EO K E t f):SO K E (Cj t) (gO f):=by intro B H0 O σ H ρ D R w;exact h B H0 O σ H ρ _ R (w.bind.imp fun a w1 O1 x H1 e1 R1 p1=>w1 O1 σ H1 e1 R1)
theorem nU {t:TE} {f:FE} {g:TG} {fg:FG} (h:EO K E t f) (hg:GO K E g fg):SO K E (DQ t g) (de f fg):=by intro B H0 O σ H ρ D R w;refine h B H0 O σ H ρ _ R (w.bind.imp fun a w1 O1 x H1 e1 R1 p1=> ?_);exact hg B H0 O1 σ H1 a.2 x a.1 _ R1 p1 (w1.bind.imp fun ρ1 w2 O2 σ2 H2 e2 R2=>w2 O2 σ2 H2 (e1.trans e2) R2)
theorem Cm {c:TT} {fc:FT} {t u:TS} {f g:FS} (hc:Td K E c fc) (h1:SO K E t f) (h2:SO K E u g):SO K E (Iu c t u) (jW fc f g):=by
 intro B H0 O σ H ρ D R w;refine hc B H0 O σ H ρ _ R (w.bind.imp fun a w1 O1 H1 e1 R1=> ?_);obtain⟨b,ρ1⟩:=a;cases b with
 |true=>exact h1 B H0 O1 σ H1 ρ1 D R1 (WR.imp w1 fun fl q=>q.ev e1)
 |false=>exact h2 B H0 O1 σ H1 ρ1 D R1 (WR.imp w1 fun fl q=>q.ev e1)
theorem IJ {Q:VK} {pv:PV} {rv:RV} (R:Rl K B H0 O σ H ρ) (p:Qz K H0 O σ H ρ v pv) (e:AQ ρ pv=some rv) (w:Fin B K H0 Q rv):Q v H:=by
 have ow:∀{a:L8} {vs:List V} {ds:List D},O a->H0 a=none->H a=some (.lst vs)->Nz O K H vs ds->Fin B K H0 Q (.ow ds)->Q (.ref a) H:=fun{a vs ds} h1 h2 h3 h4 w=>
  w a vs H R.same h2 h3 (h4.ev (Ev.sub fun b z=>z.elim (R.bo b) fun e=>by rw[e];exact h1))
 have fz:∀{d:D},DV O K H v d->Fin B K H0 Q (.fz d)->Q v H:=fun{d} h w=>w v H R.same (h.ev (Ev.sub R.bo));cases pv with
 |fz d=>cases e;exact fz p w
 |ow ds=>cases e;obtain⟨a,vs,rfl,h1,h2,h3,h4,h5⟩:=p;exact ow h1 h2 h3 h4 w
 |pl i=>
  have p':σ[i]? =some (some v):=p;unfold AQ at e;dsimp only at e;cases q:ρ[i]? with
  |none=>rw[q] at e;cases e
  |some o=>
   cases o with
   |none=>rw[q] at e;cases e
   |some x=>
    obtain⟨u,g1,g2⟩:=R.slot i x q;rw[p'] at g1;cases g1;rw[q] at e;cases x with
    |fz d=>cases e;exact fz g2 w
    |ow ds=>cases e;obtain⟨a,vs,rfl,h1,h2,h3,h4⟩:=g2;exact ow h1 h2 h3 h4 w
    |pl j=>exact g2.elim
theorem j8 {t:TE} {f:FE} (h:EO K E t f):SO K E (Iw t) (dG f):=by intro B H0 O σ H ρ D R w;refine h B H0 O σ H ρ _ R (w.bind.imp fun a w1 O1 x H1 e1 R1 p1=> ?_);obtain⟨rv,q,w1⟩:=w1.M3;exact IJ R1 p1 q w1
def wC (K:Bn) (J:It) (O:ci) (H:Hp) (ds:List D):Prop:=∀O' H',Ev O H O' H'->mS O' H'->
 (∀i,i<ds.length->J.go i H'/\∀x TY,J.Xt i H' x TY->Nt H' TY/\∃d,ds[i]? =some d/\DV O' K TY x d)/\J.stop ds.length H'
abbrev FI:=aK->Res (List D×aK)
def IO (K:Bn) (E:XK) (wi:TI) (fi:FI):Prop:=
 ∀(B:ci) (H0:Hp) (O:ci) (σ:St) (H:Hp) (ρ:aK) (R':It->Hp->Prop),Rl K B H0 O σ H ρ->WR K E B H0 (fun r=>∀O' J H',Ev O H O' H'->Rl K B H0 O' σ H' r.2->wC K J O' H' r.1->R' J H') (fi ρ)->wi σ H R'
noncomputable def pf (gt:FG) (b:FS):List D->FS
 |[],ρ=> .ok (.nx ρ)
 |d::r,ρ=>(gt (.fz d) ρ).bind fun ρ1=>(b ρ1).bind fun fl=>match fl with
  | .nx ρ2=>pf gt b r ρ2
  | .ct ρ2=>pf gt b r ρ2
  | .bk ρ2=> .ok (.nx ρ2)
  | .rt rv=> .ok (.rt rv)
noncomputable def md (fi:FI) (gt:FG) (b:FS):FS:=fun ρ=>(fi ρ).bind fun a=>pf gt b a.1 a.2
theorem u6 {wi:TI} {fi:FI} {g:TG} {gt:FG} {tb:TS} {b:FS} (hi:IO K E wi fi) (hg:GO K E g gt) (hb:SO K E tb b):SO K E (Jj wi g tb) (md fi gt b):=by
 intro B H0 O σ H ρ D R w;refine hi B H0 O σ H ρ _ R (w.bind.imp fun a w1 O1 J H1 e1 R1 it=> ?_);obtain⟨ds,ρ1⟩:=a;dsimp only at w1 it R1;refine⟨fun i m σ' H'=>m=ds.length - i/\i<=ds.length/\∃O2 ρ2,Ev O1 H1 O2 H'/\Rl K B H0 O2 σ' H' ρ2/\WR K E B H0 (T4 K B H0 O H D) (pf gt b (ds.drop i) ρ2),⟨_,rfl,MN _,O1,ρ1,.refl,R1,w1⟩,?_⟩;rintro i m σ2 H2 ⟨rfl,hi,O2,ρ2,e2,R2,w2⟩;obtain⟨go,stop⟩:=it O2 H2 e2 R2.od;by_cases Pw:i<ds.length
 ·obtain⟨g1,g2⟩:=go i Pw
  refine .inr ⟨g1,fun σ' H'=>i+1<=ds.length/\∃O2 ρ2,Ev O1 H1 O2 H'/\Rl K B H0 O2 σ' H' ρ2/\WR K E B H0 (T4 K B H0 O H D) (pf gt b (ds.drop (i+1)) ρ2),fun σ' H' ⟨h1,h2⟩=>⟨ds.length - (i+1),by omega,rfl,h1,h2⟩,fun x H3 y=> ?_⟩;obtain⟨s3,d,hd,dv⟩:=g2 x H3 y;have ed:ds.drop i=d::ds.drop (i+1):=by obtain⟨_,q⟩:=Md.mp hd;rw[NT Pw,q]
  rw[ed] at w2;have e3:Ev O2 H2 O2 H3:=Ev.grow s3;refine hg B H0 O2 σ2 H3 ρ2 x (.fz d) _ (R2.grow s3) dv (WR.imp (WR.bind w2) fun ρ3 w3 O4 σ4 H4 e4 R4=> ?_);have ZT:Ev O1 H1 O4 H4:=e2.trans (e3.trans e4);refine hb B H0 O4 σ4 H4 ρ3 _ R4 (WR.imp (WR.bind w3) fun fl w4=> ?_);cases fl with
  |nx ρ5=>exact fun O5 σ5 H5 e5 R5=>⟨Pw,O5,ρ5,ZT.trans e5,R5,w4⟩
  |ct ρ5=>exact fun O5 σ5 H5 e5 R5=>⟨Pw,O5,ρ5,ZT.trans e5,R5,w4⟩
  |bk ρ5=>exact fun O5 σ5 H5 e5 R5=>w4 O5 σ5 H5 (e1.trans (ZT.trans e5)) R5
  |rt rv=>exact w4
 ·have e:i=ds.length:=by omega
  subst e;rw[Oa (Mh _)] at w2;exact .inl ⟨stop,w2 O2 σ2 H2 (e1.trans e2) R2⟩
noncomputable def fQ:D->Option (List D)
 | .tuple ds=>some ds
 | .list ds=>some ds
 |_=>none
def yB (K:Bn) (tl:TE):TI:=fun σ H R=>tl σ H fun x H1=>∃a,x= .ref a/\(((∃xs,PU K H1 a xs)/\R (Lr K a) H1)\/((∃xs,P4 K H1 a xs)/\R (Ll K a) H1))
theorem d8 {X:Cx} {tg l:MR} {tl:TE} (hl:PE X l tl):PI X tg l (yB X.K tl):=by
 intro pins s σ H R I h;refine c8 (hl pins s σ H _ I h) fun v s1 ⟨x,H1,I1,r1,q1⟩=> ?_;obtain⟨a,e,q⟩:=q1;subst e;cases r1;rcases q with⟨⟨xs,hq⟩,q⟩|⟨⟨xs,hq⟩,q⟩
 ·obtain⟨MY,rv,p,hz⟩:=I1.list hq
  refine OV p.isList ?_;refine⟨s1.heap.objs.size,[s1.heap.objs.size],_,_,H1,rfl,I1.kept (t':=s1.toks) fun b o e=>Heap.get?_push_of_some _ e,AH a _,⟨_,Heap.get?_push_size _ rfl,rfl,rfl⟩,fun b hb=> ?_,q⟩;have e:b=s1.heap.objs.size:=by simpa using hb
  subst e;exact I1.Tf (Mh _) (I1.Nw.fresh (Mh _))
 ·obtain⟨MY,rv,p,hz⟩:=I1.tuple hq
  refine QZ (show s1.heap.IsTuple a MY.toArray from p) ?_;refine⟨s1.heap.objs.size,[s1.heap.objs.size],_,_,H1,rfl,I1.kept (t':=s1.toks) fun b o e=>Heap.get?_push_of_some _ e,xq a _,⟨_,Heap.get?_push_size _ rfl,rfl,rfl⟩,fun b hb=> ?_,q⟩;have e:b=s1.heap.objs.size:=by simpa using hb
  subst e;exact I1.Tf (Mh _) (I1.Nw.fresh (Mh _))
theorem yC {a:L8} {xs:List V} {ds:List D} (h:Ru O K H a xs) (hd:Nz O K H xs ds):wC K (Lr K a) O H ds:=by intro O' H' e n;have h':=h.ev e;have T5:=hd.ev e;refine⟨fun i hi=> ?_,⟨xs,h'.1.sq,by rw[hd.length];exact Mh _⟩⟩;obtain⟨x,hx,_⟩:=T5.get (Mf hi);refine⟨⟨xs,x,h'.1.sq,hx⟩,?_⟩;rintro y TY ⟨rfl,hy⟩;obtain⟨d,q1,q2⟩:=T5.Ut (hy xs h'.1.sq);exact⟨Nt.refl _,d,q1,q2⟩
theorem Bm {a:L8} {xs:List V} {ds:List D} (h:Qj O K H a xs) (hd:Nz O K H xs ds):wC K (Ll K a) O H ds:=by intro O' H' e n;have h':=h.ev e;have T5:=hd.ev e;refine⟨fun i hi=> ?_,⟨xs,h'.1,by rw[hd.length];exact Mh _⟩⟩;obtain⟨x,hx,_⟩:=T5.get (Mf hi);refine⟨⟨xs,x,h'.1,hx⟩,?_⟩;rintro y TY ⟨rfl,hy⟩;obtain⟨d,q1,q2⟩:=T5.Ut (hy xs h'.1);exact⟨Nt.refl _,d,q1,q2⟩
noncomputable def gX (fe:FE):FI:=fun ρ=>(fe ρ).bind fun a=>(Res.M3 (vJ a.2 a.1)).bind fun b=>(Res.M3 (fQ b.1)).bind fun ds=> .ok (ds,b.2)
theorem gB {tl:TE} {fe:FE} (h:EO K E tl fe):IO K E (yB K tl) (gX fe):=by
 intro B H0 O σ H ρ R' R w;refine h B H0 O σ H ρ _ R (w.bind.imp fun a w1 O1 x H1 e1 R1 p1=> ?_);obtain⟨⟨d,ρ2⟩,q,w1⟩:=w1.M3;obtain⟨O2,e2,R2,dv⟩:=sT R1 p1 q;obtain⟨ds,qs,w1⟩:=w1.M3;dsimp only at qs;cases dv with
 |tup h hs=>cases qs;exact⟨_,rfl,.inr ⟨⟨_,h.1⟩,w1 O2 _ H1 (e1.trans e2) R2 (Bm h hs)⟩⟩
 |lst h hs=>cases qs;exact⟨_,rfl,.inl ⟨⟨_,h.1.sq⟩,w1 O2 _ H1 (e1.trans e2) R2 (yC h hs)⟩⟩
 |_=>cases qs
noncomputable def gM (lo:Int) (n:Nat):List D:=(Mz n).map fun(k:Nat)=> .int (lo+(k:Int))
theorem BZ {lo:Int} {n:Nat}:wC K (K8 lo n) O H (gM lo n):=by
 intro O' H' e nn;have hl:(gM lo n).length=n:=by unfold gM;rw[L7,MW]
 refine⟨fun i hi=> ?_,by show n<=_;rw[hl];exact Mh _⟩;rw[hl] at hi;refine⟨hi,?_⟩;rintro x TY ⟨rfl,rfl⟩;exact⟨Nt.refl _,.int (lo+i),by unfold gM;rw[Ml,List.getElem?_range hi];rfl,.int _⟩
def jx (i:Int):Prop:= -(2^62)<=i/\i<2^62
noncomputable instance (i:Int):Decidable (jx i):=by unfold jx;infer_instance
noncomputable def gS:List D->Option (List D)
 |[.int j]=>if jx j then some (gM 0 j.toNat) else none
 |_=>none
noncomputable def lJ (f:List D->Option (List D)) (fa:FA):FI:=fun ρ=>(fa ρ).bind fun a=>(Res.M3 (vL a.2 a.1)).bind fun ds=>(Res.M3 (f ds)).bind fun xs=> .ok (xs,a.2)
theorem jC {ta:TA} {fa:FA} (h:AO K E ta fa):IO K E (G6 ta) (lJ gS fa):=by
 intro B H0 O σ H ρ R' R w;refine h B H0 O σ H ρ _ R (w.bind.imp fun a w1 O1 vs H1 e1 R1 p1=> ?_);obtain⟨ds,q,w1⟩:=w1.M3;obtain⟨xs,qx,w1⟩:=w1.M3;have px:=xl R1 p1 q;unfold gS at qx;split at qx
 ·rename_i j
  split at qx
  ·rename_i hj
   cases qx;cases px with
   |cons h1 h2=>cases h2;cases h1;exact⟨j,rfl,hj.1,hj.2,w1 O1 _ H1 e1 R1 BZ⟩
  ·cases qx
 ·cases qx
end
section
variable {K:Bn} {E:XK} {B O O':ci} {H0 H H':Hp} {σ:St} {ρ ρ':aK} {v:V}
noncomputable def yw:Option PV->Option PV
 |some (.fz d)=>some (.fz d)
 |_=>none
noncomputable def df (ρ:aK):aK:=ρ.map yw
theorem xz {i:Nat} {x:PV} (h:(df ρ)[i]? =some (some x)):∃d,x= .fz d/\ρ[i]? =some (some (.fz d)):=by
 unfold df at h;rw[Ml] at h;cases q:ρ[i]? with
 |none=>rw[q] at h;cases h
 |some o=>
  rw[q] at h;have h':yw o=some x:=Mw h;unfold yw at h';split at h'
  ·cases h';exact⟨_,rfl,rfl⟩
  ·cases h'
noncomputable def ti (ρ:aK):List Nat->Option (List D×aK)
 |[]=>some ([],ρ)
 |j::r=>match vJ ρ (.pl j) with
  |some (d,ρ1)=>(match ti ρ1 r with
   |some (c,ρ2)=>some (d::c,ρ2)
   |none=>none)
  |none=>none
theorem z5 {i:Nat} {d:D} {ρ':aK} (R:Rl K B H0 O σ H ρ) (h:vJ ρ (.pl i)=some (d,ρ')):∃v,σ[i]? =some (some v):=by
 have e':Lc ρ i ρ[i]? =some (d,ρ'):=h;cases q:ρ[i]? with
 |none=>rw[q] at e';cases e'
 |some o=>
  cases o with
  |none=>rw[q] at e';cases e'
  |some x=>obtain⟨v,g1,_⟩:=R.slot i x q;exact⟨v,g1⟩
theorem wS:∀{fv:List Nat} {ds:List D} {O:ci} {ρ ρ':aK},Rl K B H0 O σ H ρ->ti ρ fv=some (ds,ρ')->∃O' vs,Ev O H O' H/\Rl K B H0 O' σ H ρ'/\Nz O' K H vs ds/\fv.map (fun j=>(σ[j]?).join)=vs.map some
 |[],_,O,_,_,R,e=>by cases e;exact⟨O,[],.refl,R,.nil,rfl⟩
 |j::r,_,O,ρ,ρ',R,e=>by
  unfold ti at e;cases q:vJ ρ (.pl j) with
  |none=>rw[q] at e;cases e
  |some p=>
   obtain⟨d,ρ1⟩:=p;rw[q] at e;dsimp only at e;cases q2:ti ρ1 r with
   |none=>rw[q2] at e;cases e
   |some p2=>obtain⟨c,ρ2⟩:=p2;rw[q2] at e;cases e;obtain⟨v,hv⟩:=z5 R q;obtain⟨O1,e1,R1,d1⟩:=sT (v:=v) (pv:= .pl j) R hv q;obtain⟨O2,vs,e2,R2,d2,h2⟩:=wS R1 q2;exact⟨O2,v::vs,e1.trans e2,R2,.cons (d1.ev e2) d2,by rw[Ms,Ms,h2,hv];rfl⟩
noncomputable def dm (gt:FG) (ft:FT) (fe:FE):List D->aK->List D->Res (List D)
 |[],_,acc=> .ok acc
 |d::r,ρ,acc=>(gt (.fz d) ρ).bind fun ρ1=>(ft ρ1).bind fun b=>if b.1=true then(fe b.2).bind fun a=>(Res.M3 (vJ a.2 a.1)).bind fun x=>
   if acc.length<1000000 then dm gt ft fe r (df x.2) (acc++[x.1]) else .bad
  else dm gt ft fe r (df b.2) acc
noncomputable def jq {α:Type}:Res α->Res α
 | .er _=> .bad
 |r=>r
noncomputable def dk (n:Nat) (fv:List Nat) (fi:FI) (gt:FG) (ft:FT) (fe:FE):FE:=fun ρ=>(fi ρ).bind fun a=>(Res.M3 (ti a.2 fv)).bind fun c=>
 (jq (dm gt ft fe a.1 (Me n none++c.1.map fun d=>some (.fz d)) [])).bind fun xs=> .ok (.ow xs,c.2)
theorem zK {n:Nat} {own:List Str} (h:own.length=n):own.map (fun _=>(none:Option V))=Me n none:=by
 subst h
 induction own with
 |nil=>rfl
 |cons x r ih=>rw[Ms,ih,Mm,Na]
theorem yS {α:Type} {r:Res α} {P:α->Prop} (h:WR K E B H0 P (jq r)):∃a,r= .ok a/\P a:=by
 cases r with
 |ok a=>exact⟨a,rfl,h⟩
 |er x=>exact h.elim
 |bad=>exact h.elim
def Kx (K:Bn) (J:It) (O:ci) (H:Hp) (ds:List D):Prop:=∀O' H',Ev O H O' H'->Nt H H'->mS O' H'->
 (∀i,i<ds.length->J.go i H'/\∀x TY,J.Xt i H' x TY->Nt H' TY/\∃d,ds[i]? =some d/\DV O' K TY x d)/\J.stop ds.length H'
def Lh (K:Bn) (E:XK) (wi:TI) (fi:FI):Prop:=
 ∀(B:ci) (H0:Hp) (O:ci) (σ:St) (H:Hp) (ρ:aK) (R':It->Hp->Prop),Rl K B H0 O σ H ρ->WR K E B H0 (fun r=>∀O' J H',Ev O H O' H'->Rl K B H0 O' σ H' r.2->Kx K J O' H' r.1->R' J H') (fi ρ)->wi σ H R'
theorem IO.s {wi:TI} {fi:FI} (h:IO K E wi fi):Lh K E wi fi:=fun B H0 O σ H ρ R' R w=>h B H0 O σ H ρ R' R (w.imp fun r q O' J H' e R it=>q O' J H' e R fun O2 H2 e2 _ n=>it O2 H2 e2 n)
theorem rQ {own:List Str} {fv:List (Str×Nat)} {wi:TI} {g:TG} {tc:TT} {te:TE} {fi:FI} {gt:FG} {ft:FT} {fe:FE} {n:Nat} {fj:List Nat} (hn:own.length=n) (hf:fv.map (·.2)=fj)
  (hi:Lh K E wi fi) (hg:GO K E0 g gt) (ht:Td K E0 tc ft) (he:EO K E0 te fe):EO K E (sV own fv wi g tc te) (dk n fj fi gt ft fe):=by
 intro B H0 O σ H ρ Q R w;refine hi B H0 O σ H ρ _ R (w.bind.imp fun a w1 O1 J H1 e1 R1 it=> ?_);obtain⟨ds,ρ1⟩:=a;obtain⟨⟨cs,ρ2⟩,qc,w1⟩:=w1.M3;dsimp only at qc it;obtain⟨O2,vs,e2,R2,Rg,U7⟩:=wS R1 qc;obtain⟨xs,qx,w1⟩:=yS (WR.bind w1);intro Dd Vy;have hB:∀{H':Hp},Nt H1 H'->H' Dd≠none->∀a,bL O2 Dd a->H' a≠none:=fun{H'} s nd a h z=>h.elim (fun q=>R2.od a (s.free z) q) fun e=>nd (by rw[<-e];exact z);refine⟨fun i m σ' H'=>m=ds.length - i/\i<=ds.length/\∃(acc:List D) (ys:List V) (ρc:aK),Nt H1 H'/\H' Dd=some (.lst ys)/\Nz (bL O2 Dd) K H' ys acc/\σ'.length=ρc.length/\(∀(j:Nat) (x:PV),ρc[j]? =some (some x)->∃d u,x=PV.fz d/\σ'[j]? =some (some u)/\DV (bL O2 Dd) K H' u d)/\dm gt ft fe (ds.drop i) ρc acc= .ok xs,
  ⟨_,rfl,MN _,[],[],_,b8 Vy _,aH,.nil,?_,fun j x hx=> ?_,qx⟩,?_⟩
 ·unfold ip;rw[Mg,Mg,L7,L7,MJ,L7,hn,<-Rg.length];have:=congrArg QD U7;rw[L7,L7,<-hf,L7] at this;omega
 ·have hm:fv.map (fun p=>(σ[p.2]?).join)=vs.map some:=by rw[<-U7,<-hf,MV];rfl
  unfold ip;rw[zK hn,hm];by_cases hj:j<n
  ·rw[MM (by rw[MJ];exact hj),NB,if_pos hj] at hx;cases hx
  ·rw[MP (by rw[MJ];omega),MJ,Ml] at hx⊢
   cases qd:cs[j - n]? with
   |none=>rw[qd] at hx;cases hx
   |some d=>rw[qd] at hx;cases hx;obtain⟨u,hu,du⟩:=Rg.get qd;exact⟨d,u,rfl,by rw[hu];rfl,du.ev (Ev.add (b8 Vy _) Vy)⟩
 ·rintro i m σ' H' ⟨rfl,hi,acc,ys,ρc,s,hD,YU,hl,hsl,qP⟩
  have nD:H' Dd≠none:=by rw[hD];simp
  have no':mS (bL O2 Dd) H':=fun a z h=>hB s nD a h z;have ev1:Ev O1 H1 (bL O2 Dd) H':=e2.trans (Ev.add s Vy);obtain⟨go,stop⟩:=it (bL O2 Dd) H' ev1 s no';by_cases Pw:i<ds.length
  ·obtain⟨g1,g2⟩:=go i Pw
   refine .inr ⟨g1,fun σ5 H5=>i+1<=ds.length/\∃(acc:List D) (ys:List V) (ρc:aK),Nt H1 H5/\H5 Dd=some (.lst ys)/\Nz (bL O2 Dd) K H5 ys acc/\σ5.length=ρc.length/\(∀(j:Nat) (x:PV),ρc[j]? =some (some x)->∃d u,x=PV.fz d/\σ5[j]? =some (some u)/\DV (bL O2 Dd) K H5 u d)/\dm gt ft fe (ds.drop (i+1)) ρc acc= .ok xs,
    fun σ5 H5 ⟨h1,h2⟩=>⟨ds.length - (i+1),by omega,rfl,h1,h2⟩,fun x H3 y=> ?_⟩
   obtain⟨s3,d,hd,dv⟩:=g2 x H3 y;have ed:ds.drop i=d::ds.drop (i+1):=by obtain⟨_,q⟩:=Md.mp hd;rw[NT Pw,q]
   rw[ed] at qP;have Zh:H3 Dd=some (.lst ys):=s3 _ _ hD;have nD3:H3 Dd≠none:=by rw[Zh];simp
   have sv:Nt H1 H3:=s.trans s3;have RC:Rl K (bL O2 Dd) H3 (bL O2 Dd) σ' H3 ρc:=⟨Nt.refl _,fun _ h=>h,hB sv nD3,fun a z h=>hB sv nD3 a h z,hl,fun j x hx=>by obtain⟨d,u,rfl,h1,h2⟩:=hsl j x hx;exact⟨u,h1,h2.ev (Ev.grow s3)⟩,fun j k xs ys w hj=>by obtain⟨d,u,e,_⟩:=hsl j _ hj;cases e⟩;unfold dm at qP;have back:∀{O5:ci} {σ5:St} {H5:Hp} {ρ5:aK} {H6:Hp},Rl K (bL O2 Dd) H3 O5 σ5 H5 ρ5->(∀b o,b≠Dd->H5 b=some o->H6 b=some o)->σ5.length=(df ρ5).length/\∀(j:Nat) (x:PV),(df ρ5)[j]? =some (some x)->∃d u,x=PV.fz d/\σ5[j]? =some (some u)/\DV (bL O2 Dd) K H6 u d:=fun{O5 σ5 H5 ρ5 H6} R5 k=>by refine⟨by unfold df;rw[L7];exact R5.len,fun j x hx=> ?_⟩;obtain⟨d,rfl,hxx⟩:=xz hx;obtain⟨u,h1,h2⟩:=R5.slot j _ hxx;refine⟨d,u,rfl,h1,DV.ev (O:=bL O2 Dd) (H:=H5) (fun b o h n=>⟨k b o (fun e=>n (.inr e)) h,n⟩) (DV.ev (Ev.sub R5.bo) h2)⟩
   refine hg _ _ _ σ' H3 ρc x (.fz d) _ RC dv ?_;cases qg:gt (.fz d) ρc with
   |er z=>rw[qg] at qP;cases qP
   |bad=>rw[qg] at qP;cases qP
   |ok ρ3=>
    rw[qg,Res.bind_ok] at qP;intro O4 σ4 H4 e4 R4;refine ht _ _ _ σ4 H4 ρ3 _ R4 ?_;cases qt:ft ρ3 with
    |er z=>rw[qt] at qP;cases qP
    |bad=>rw[qt] at qP;cases qP
    |ok b=>
     obtain⟨b,ρ4⟩:=b;rw[qt,Res.bind_ok] at qP;intro O5 H5 e5 R5;cases b with
     |false=>rw[if_neg Mx] at qP⊢;obtain⟨l5,k5⟩:=back R5 (H6:=H5) fun b o _ h=>h;refine⟨Pw,acc,ys,df ρ4,sv.trans R5.same,R5.same _ _ Zh,?_,l5,k5,qP⟩;exact YU.ev (Ev.grow (s3.trans R5.same))
     |true=>
      rw[if_pos rfl] at qP⊢;refine he _ _ _ σ4 H5 ρ4 _ R5 ?_;cases qe:fe ρ4 with
      |er z=>rw[qe] at qP;cases qP
      |bad=>rw[qe] at qP;cases qP
      |ok r=>
       rw[qe,Res.bind_ok] at qP;intro O6 yv H6 e6 R6 p6;cases q7:vJ r.2 r.1 with
       |none=>rw[q7] at qP;cases qP
       |some xr=>
        obtain⟨xd,ρ7⟩:=xr;rw[q7] at qP;obtain⟨O7,e7,R7,dv7⟩:=sT R6 p6 q7;have hD7:H6 Dd=some (.lst ys):=R7.same _ _ Zh;have Yp:(if acc.length<1000000 then dm gt ft fe (ds.drop (i+1)) (df ρ7) (acc++[xd]) else .bad)= .ok xs:=qP;by_cases TM:acc.length<1000000
        ·rw[if_pos TM] at Yp
         have up:∀b o,b≠Dd->H6 b=some o->bA H6 Dd (.lst (ys++[yv])) b=some o:=fun b o hb h=>by rw[aO hb];exact h
         have dg:Ev (bL O2 Dd) H6 (bL O2 Dd) (bA H6 Dd (.lst (ys++[yv]))):=fun b o h n=>⟨up b o (fun e=>n (.inr e)) h,n⟩;have aab:Nz (bL O2 Dd) K H6 ys acc:=YU.ev (Ev.grow (s3.trans R7.same));obtain⟨l5,k5⟩:=back R7 up;refine⟨ys,hD7,sC (by rw[YU.length];exact TM),Pw,acc++[xd],ys++[yv],df ρ7,fun b o h=> ?_,aH,?_,l5,k5,Yp⟩
         ·rw[aO (cC h Vy)];exact R7.same _ _ (sv _ _ h)
         ·exact(aab.append (.cons (DV.ev (Ev.sub R7.bo) dv7) .nil)).ev dg
        ·rw[if_neg TM] at Yp;cases Yp
  ·have e:i=ds.length:=by omega
   subst e;rw[Oa (Mh _)] at qP;have qP:Res.ok acc= .ok xs:=qP;cases qP;refine .inl ⟨stop,?_⟩;refine w1 (bL O2 Dd) (.ref Dd) H' (e1.trans ev1) (R2.add s Vy nD) ⟨Dd,ys,rfl,.inr rfl,R2.Vz Vy,hD,YU,fun k es hk z=> ?_⟩;obtain⟨u,h1,b,us,e2,g1,g2,g3,g4⟩:=R2.slot k _ hk;rw[z] at h1;cases h1;cases e2;rw[Vy] at g3;cases g3
theorem et {own:List Str} {fv:List (Str×Nat)} {wi:TI} {g:TG} {tc:TT} {te:TE} {fi:FI} {gt:FG} {ft:FT} {fe:FE} {n:Nat} {fj:List Nat} (hn:own.length=n) (hf:fv.map (·.2)=fj)
  (hi:IO K E wi fi) (hg:GO K E0 g gt) (ht:Td K E0 tc ft) (he:EO K E0 te fe):EO K E (sV own fv wi g tc te) (dk n fj fi gt ft fe):=rQ hn hf hi.s hg ht he
noncomputable def Iv (ρ:aK):Option (Option PV)->Res (List D×aK)
 |some (some (.ow ds))=> .ok (ds,ρ)
 |_=> .bad
noncomputable def su (i:Nat):FI:=fun ρ=>Iv ρ ρ[i]?
theorem rH {i:Nat}:Lh K E (yB K (Aa i)) (su i):=by
 intro B H0 O σ H ρ R' R w;unfold su at w;cases q:ρ[i]? with
 |none=>rw[q] at w;exact w.elim
 |some o=>
  cases o with
  |none=>rw[q] at w;exact w.elim
  |some x=>
   cases x with
   |fz d=>rw[q] at w;exact w.elim
   |pl j=>rw[q] at w;exact w.elim
   |ow ds=>rw[q] at w;obtain⟨v,h1,a,vs,rfl,g1,g2,g3,g4⟩:=R.slot i _ q;refine⟨_,h1,a,rfl,.inl ⟨⟨vs,PU.of g3⟩,w O _ H .refl R fun O' H' e s n=> ?_⟩⟩;have k:H' a=some (.lst vs):=s _ _ g3;have d':=g4.ev e;refine⟨fun j hj=> ?_,⟨vs,PU.of k,by rw[d'.length];exact Mh _⟩⟩;obtain⟨x,hx,_⟩:=d'.get (Mf hj);refine⟨⟨vs,x,PU.of k,hx⟩,?_⟩;rintro y TY ⟨rfl,hy⟩;obtain⟨d,q1,q2⟩:=d'.Ut (hy vs (PU.of k));exact⟨Nt.refl _,d,q1,q2⟩
noncomputable def eh (F:FN) (n:Nat) (fa:FA):FE:=fun ρ=>(fa ρ).bind fun a=>(Res.M3 (pe a.2 a.1)).bind fun b=>if b.1.length=n then(jq (F b.1)).bind fun rv=> .ok (rv.pv,b.2) else .bad
theorem rB {F:FN} {n:Nat} {ta:TA} {fa:FA} (ha:AO K E ta fa):EO K E (sG (ou K n F) [] E0 ta) (eh F n fa):=by
 intro B H0 O σ H ρ Q R w;refine ha B H0 O σ H ρ _ R (w.bind.imp fun a w1 O1 vs H1 e1 R1 p1=> ?_);obtain⟨⟨ds,ρ2⟩,q,w2⟩:=w1.M3;obtain⟨O2,e2,R2,dv⟩:=qN R1 p1 q;dsimp only at w2;by_cases hn:ds.length=n
 ·rw[if_pos hn] at w2;obtain⟨rv,qF,w2⟩:=yS (WR.bind w2);rw[ME];refine⟨dv.length.trans hn,O2,ds,fun a z hz=>R2.od a hz z,dv,?_⟩;rw[qF];exact lR R2 fun O3 v H3 e3 R3 p3=>w2 O3 v H3 (e1.trans (e2.trans e3)) R3 p3
 ·rw[if_neg hn] at w2;exact w2.elim
end
noncomputable def gb (N:Nat) (g:FS):FN:=fun ds=>(g (ds.map (fun d=>some (.fz d))++Me (N - ds.length) none)).bind fun fl=>match fl with
 | .rt rv=> .ok rv
 | .nx _=> .ok (.fz .none)
 |_=> .bad
theorem Cy {K:Bn} {B:ci} {H:Hp} {N:List Str} {vs:List V} {ds:List D} (hb:∀a,B a->H a≠none) (dv:Nz B K H vs ds):Rl K B H B (L2.start N vs) H (ds.map (fun d=>some (.fz d))++Me (N.length - ds.length) none):=by
 have hl:=dv.length;refine⟨Nt.refl _,fun _ h=>h,hb,fun a z h=>hb a h z,?_,fun i x hx=> ?_,fun i j xs ys w hi=> ?_⟩
 ·unfold L2.start;rw[Mg,Mg,L7,L7,MJ,MJ,hl]
 all_goals
  have key:∀{i:Nat} {x:PV},(ds.map (fun d=>some (PV.fz d))++Me (N.length - ds.length) none)[i]? =some (some x)->∃d,x= .fz d/\ds[i]? =some d:=fun{i x} h=>by
   by_cases hi:i<ds.length
   ·rw[MM (by rw[L7];exact hi),Ml] at h
    cases q:ds[i]? with
    |none=>rw[q] at h;cases h
    |some d=>rw[q] at h;cases h;exact⟨d,rfl,rfl⟩
   ·rw[MP (by rw[L7];omega),NB] at h;split at h<;>cases h
 ·obtain⟨d,rfl,hd⟩:=key hx;obtain⟨v,hv,h2⟩:=dv.get hd;refine⟨v,?_,h2⟩;have hi:i<vs.length:=(Md.mp hv).1;unfold L2.start;rw[MM (by rw[L7];exact hi),Ml,hv];rfl
 ·obtain⟨d,e,_⟩:=key hi;cases e
theorem LP {P:My} {w:MS} {K:Bn} {mg:Str->Option L5} {base:Heap} {x qual:Str} {st:Oj} {f:L8} {fd:Nk} {N ps:List Str} {k n:Nat} {g:FS} (F:O9 K x qual st f fd) (S:PK N ps (bi st)) (hn:ps.length=n)
  (P2:∀(N5:L5) (A:MO) (outer:List Env) (s:Ma) (H:Hp) (E:XK),Og k (A.deeper (M4 qual (bi st) s.heap.objs.size f N5))->
   ∃t,RZ (pS dr P w K mg base N qual (bi st) f N5 A outer s H E).Vi (gi st) t/\SO K E t g):FnOk P w K mg base dr (k+1) f fd ps (ou K n (gb N.length g)):=by
 refine F.ok S (fun vs H Q E h=>h.1.trans hn.symm) (fun N5 A outer s H vs Q E hr h=> ?_);obtain⟨t,ht,hs⟩:=P2 N5 A outer s H E hr;obtain⟨hl,B,ds,hb,dv,h⟩:=h;refine⟨t,ht,hs B H B _ H _ _ (Cy hb dv) (WR.imp (WR.bind h) fun fl q=> ?_)⟩;cases fl with
 |rt rv=>exact q
 |nx ρ=>exact fun O' σ' H' e R=>q .OT H' R.same .OT
 |bk ρ=>exact q.elim
 |ct ρ=>exact q.elim
end L3
namespace L3
open PySem PySem.Spec PyProof.Rows L2
theorem OpR.or {X:Cx} {f:L5->L5->Sem L5} {r r':R2} (h:OpR X f r) (h':OpR X f r'):OpR X f (fun x y H Q=>r x y H Q\/r' x y H Q):=by
 intro pins s σ H x y v u Q I rx ry q;rcases q with q|q
 ·exact h pins s σ H x y v u Q I rx ry q
 ·exact h' pins s σ H x y v u Q I rx ry q
theorem Ik {X:Cx} {pins:List (L8×Obj)} {σ:L2.St} {H:Hp} {s:Ma} {l:L8} {xs:List V} (I:Inv X pins σ H s) (h:PB X.K H l xs):xs.length<=Mq/\∃(MY:List L5) (n:Nat),Vals xs MY/\xs.length=MY.length/\s.heap.get? l=some {cls:= .type "list",data:= .seq MY.toArray n}:=by
 rcases h with(h|⟨o,h⟩)|⟨MY,n,h1,h2,h3⟩
 ·exact I.Ya h
 ·obtain⟨_,z,MY,n,r,e⟩:=I.Nw l _ h;exact⟨z,MY,n,r,r.length,e⟩
 ·exact⟨h2,MY,n,h3,h3.length,I.RO _ _ h1⟩
def Gy (K:Bn):R2:=fun x y H Q=>∃l b xs zs,x= .ref l/\y= .ref b/\PB K H l xs/\PB K H b zs/\xs.length+zs.length<=Mq/\∀p,H p=none->Q (.ref p) (bA H p (.lst (xs++zs)))
theorem FL {X:Cx}:OpR X (NU .Add) (Gy X.K):=by
 intro pins s σ H x y v u Q I rx ry h;obtain⟨l,b,xs,zs,rfl,rfl,hH,hB,hz,q⟩:=h;cases rx;cases ry;obtain⟨z,MY,n,r,hl,e⟩:=Ik I hH;obtain⟨z2,Sv,n2,r2,Si,e2⟩:=Ik I hB;refine PySem.P.add_list e e2 ?_ (by rw[Mo,Mo];omega);have ea:MY.toArray++Sv.toArray=(MY++Sv).toArray:=by simp
 rw[ea];exact⟨.ref _,_,I.X1 (t':=s.toks) (r.append r2) (by rw[Mg];omega),rfl,q _ I.fresh⟩
def G1 (K:Bn):R2:=fun x y H Q=>∃l k xs,x= .ref l/\y= .int k/\PB K H l xs/\ -(2^63)<=k/\k<2^63/\xs.length*k.toNat<=Mq/\
 ∀p,H p=none->Q (.ref p) (bA H p (.lst (Me k.toNat xs).flatten))
theorem Fr {X:Cx}:OpR X (NU .Mult) (G1 X.K):=by
 intro pins s σ H x y v u Q I rx ry h;obtain⟨l,k,xs,rfl,rfl,hH,h1,h2,hz,q⟩:=h;cases rx;obtain⟨t,rfl⟩:=ry;obtain⟨z,MY,n,r,hl,e⟩:=Ik I hH;have hlen:MY.toArray.size*k.toNat<=Mq:=by rw[Mo,<-hl];exact hz
 have aan:¬MY.toArray.size*k.toNat>(2^63 - 1)/8:=by
  have:(Mq:Nat)<=(2^63 - 1)/8:=by decide
  omega
 have ZW:¬(!MU.List.listFitsIndex k)=true:=by rw[fitsIndex_both h1 h2];exact Mx
 have XZ:¬MU.List.listTooLong (MY.toArray.size*k.toNat)=true:=by rw[D8 hlen];exact Mx
 have T1:PH (fun x1 x2=>x1++x2) #[] (Me (if MY.toArray.isEmpty=true then 0 else k.toNat) MY.toArray)=(Me k.toNat MY).flatten.toArray:=by
  have f0:∀m:Nat,PH (fun x1 x2=>x1++x2) #[] (Me m MY.toArray)=(Me m MY).flatten.toArray:=fun m=>by have:=nw MY m [];rw[Od] at this;exact this
  rw[f0];cases MY with
  |nil=>simp
  |cons a r'=>rw[if_neg (by simp)]
 refine Tv (T:= "list") (U:= "int") (by decide) ⟨_,e,rfl⟩ (fun s'=>RD s' k t) noFill_list_mul F.fills_int_mul F.slot_int_rmul repeat_list F.slot_int_index.lookup
  (QP F.slot_int_rmul (RD s k t) F.entry_int_rmul (F.args_int_rmul_2 _ _) (int___rmul___int_list k t l MY.toArray n)
   ⟨e,rfl,⟨_,e,rfl⟩,QP F.slot_list_mul ⟨_,e,rfl⟩ F.entry_list_mul (F.args_list_mul_2 _ _) (AutoListH.list___mul___list_int_3 l MY.toArray n k t ZW aan XZ) ⟨e,?_⟩⟩)
 rw[T1];exact⟨.ref _,_,I.X1 (t':=s.toks) (r.rep k.toNat) (by rw[za,Nat.mul_comm];exact hz),rfl,q _ I.fresh⟩
section
variable {K:Bn}
noncomputable def fI (g:Int->Int->Int):D->D->Option RV
 | .int i,.int j=>some (.fz (.int (g i j)))
 |_,_=>none
noncomputable def fB (g:Int->Int->Bool):D->D->Option RV
 | .int i,.int j=>some (.fz (.bool (g i j)))
 |_,_=>none
noncomputable def JE (C:Int->Int->Bool) (g:Int->Int->Int):D->D->Option RV
 | .int i,.int j=>if C i j=true then some (.fz (.int (g i j))) else none
 |_,_=>none
theorem CD {g:Int->Int->Int} {dx dy:D} {rv:RV} (h:fI g dx dy=some rv):∃i j,dx= .int i/\dy= .int j/\rv= .fz (.int (g i j)):=by
 unfold fI at h;split at h
 ·cases h;exact⟨_,_,rfl,rfl,rfl⟩
 ·cases h
theorem Gx {g:Int->Int->Int}:l8 K (vo fun i j=> .int (g i j)) (fI g):=by intro O H x y dx dy rv Q n hx hy e q;obtain⟨i,j,rfl,rfl,rfl⟩:=CD e;cases hx;cases hy;exact⟨i,j,rfl,rfl,q.at (.int _)⟩
theorem zu {g:Int->Int->Bool}:l8 K (vo fun i j=> .bl (g i j)) (fB g):=by
 intro O H x y dx dy rv Q n hx hy e q;unfold fB at e;split at e
 ·cases e;cases hx;cases hy;exact⟨_,_,rfl,rfl,q.at (.bl _)⟩
 ·cases e
theorem ve {C:Int->Int->Bool} {C':Int->Int->Prop} {g:Int->Int->Int} (hC:∀i j,C i j=true->C' i j):l8 K (rI C' fun i j=> .int (g i j)) (JE C g):=by
 intro O H x y dx dy rv Q n hx hy e q;unfold JE at e;split at e
 ·split at e
  ·rename_i hc;cases e;cases hx;cases hy;exact⟨_,_,rfl,rfl,hC _ _ hc,q.at (.int _)⟩
  ·cases e
 ·cases e
theorem xk {O:ci} {H:Hp} {x:V} {ds:List D} (h:DX O K H x (.list ds)):∃a xs,x= .ref a/\PB K H a xs/\Nz O K H xs ds:=h
theorem Cl {O:ci} {H:Hp} {x:V} {ds:List D} (h:DX O K H x (.tuple ds)):∃a xs,x= .ref a/\Qj O K H a xs/\Nz O K H xs ds:=Di h rfl
def Hc (K:Bn):R2:=fun x y H Q=>vo (fun i j=> .int (i+j)) x y H Q\/Gy K x y H Q\/GU K x y H Q
theorem mI {X:Cx}:OpR X (NU .Add) (Hc X.K):=OpR.or HI (OpR.or FL Eg)
noncomputable def cS:D->D->Option RV
 | .int i,.int j=>some (.fz (.int (i+j)))
 | .list xs,.list ys=>if xs.length+ys.length<=1000000 then some (.ow (xs++ys)) else none
 | .tuple xs,.tuple ys=>if xs≠[]/\xs.length+ys.length<=1000000 then some (.fz (.tuple (xs++ys))) else none
 |_,_=>none
theorem zx {n:Nat} (h:n<=1000000):n<=Mq:=MQ h (by decide)
theorem Nz.ne {O:ci} {H:Hp} {vs:List V} {ds:List D} (h:Nz O K H vs ds):vs=[]↔ds=[]:=by cases h<;>simp
theorem mh:l8 K (Hc K) cS:=by
 intro O H x y dx dy rv Q n hx hy e q;unfold cS at e;split at e
 ·cases e;cases hx;cases hy;exact .inl ⟨_,_,rfl,rfl,q.at (.int _)⟩
 ·split at e
  ·rename_i hl;cases e;obtain⟨a,xs,rfl,h1,h2⟩:=xk hx;obtain⟨b,ys,rfl,g1,g2⟩:=xk hy;exact .inr (.inl ⟨a,b,xs,ys,rfl,rfl,h1,g1,zx (by rw[h2.length,g2.length];exact hl),Fin.new (h2.append g2) q⟩)
  ·cases e
 ·split at e
  ·rename_i hl;cases e;obtain⟨a,xs,rfl,h1,h2⟩:=Cl hx;obtain⟨b,ys,rfl,g1,g2⟩:=Cl hy;refine .inr (.inr ⟨a,b,xs,ys,rfl,rfl,h1.1,g1.1,fun z=>hl.1 (h2.ne.mp z),zx (by rw[h2.length,g2.length];exact hl.2),fun z=> ?_,fun _=>Fin.Uy (h2.append g2) n q⟩);have z':=g2.ne.mp z;subst z';rw[ME] at q;exact q.at (.tup h1 h2)
  ·cases e
 ·cases e
def Bl (K:Bn):R2:=fun x y H Q=>rI Vn (fun i j=> .int (i*j)) x y H Q\/G1 K x y H Q
theorem EU {X:Cx}:OpR X (NU .Mult) (Bl X.K):=OpR.or IG Fr
noncomputable def hZ (i:Int):Bool:=decide (-(2^64)<i/\i<2^64)
theorem qJ {i:Int} (h:hZ i=true): -(2^64)<i/\i<2^64:=of_decide_eq_true h
noncomputable def Ab:D->D->Option RV
 | .int i,.int j=>if(hZ i||hZ j)=true then some (.fz (.int (i*j))) else none
 | .list xs,.int k=>if xs.length*k.toNat<=1000000/\ -(2^63)<=k/\k<2^63 then some (.ow (Me k.toNat xs).flatten) else none
 |_,_=>none
theorem Fd:l8 K (Bl K) Ab:=by
 intro O H x y dx dy rv Q n hx hy e q;unfold Ab at e;split at e
 ·split at e
  ·rename_i hc
   cases e;cases hx;cases hy;refine .inl ⟨_,_,rfl,rfl,?_,q.at (.int _)⟩;rcases(Qr _ _).mp hc with z|z
   ·exact .inl (qJ z)
   ·exact .inr (qJ z)
  ·cases e
 ·split at e
  ·rename_i hc;cases e;cases hy;obtain⟨a,xs,rfl,h1,h2⟩:=xk hx;exact .inr ⟨a,_,xs,rfl,rfl,h1,hc.2.1,hc.2.2,zx (by rw[h2.length];exact hc.1),Fin.new (h2.flat _) q⟩
  ·cases e
 ·cases e
noncomputable def oU:=fI fun i j=>i - j
theorem FJ:l8 K (vo fun i j=> .int (i - j)) oU:=Gx
noncomputable def Hm (_ j:Int):Bool:=decide (0<j)
noncomputable def ef:=JE Hm fun i j=>i % j
theorem EN:l8 K (rI (fun _ j=>0<j) fun i j=> .int (i % j)) ef:=ve fun i j h=>of_decide_eq_true h
noncomputable def Ht (_ j:Int):Bool:=decide (0<j/\j<2^128)
noncomputable def eY:=JE Ht fun i j=>i/j
theorem E7:l8 K (rI (fun _ j=>0<j/\j.natAbs.log2<9000) fun i j=> .int (i/j)) eY:=ve fun i j h=>by
 have h':=of_decide_eq_true h;refine⟨h'.1,?_⟩;have h2:j.natAbs<2^128:=by have:=h'.2;omega
 have h3:j.natAbs.log2<128:=(Nat.log2_lt (by omega)).mpr h2;omega
noncomputable def D7 (i j:Int):Bool:=decide (0<=j/\j<=1000000/\i.natAbs<2^64)
theorem Ey (i j:Int) (h:D7 i j=true):IL i j:=by unfold D7 at h;exact(show 0<=j/\j<=1000000/\i.natAbs<2^64 from of_decide_eq_true h)
noncomputable def z6:=JE D7 fun i j=>i^j.toNat
theorem EK:l8 K (rI IL fun i j=> .int (i^j.toNat)) z6:=ve Ey
noncomputable def Lm (_ j:Int):Bool:=decide (0<=j)
noncomputable def D0:=JE Lm fun i j=>i/2^j.toNat
theorem zR:l8 K (rI (fun _ j=>0<=j) fun i j=> .int (i/2^j.toNat)) D0:=ve fun i j h=>of_decide_eq_true h
noncomputable def wF:=fI fun i j=>MU.bitAnd i j
theorem zF:l8 K (vo fun i j=> .int (MU.bitAnd i j)) wF:=Gx
noncomputable def F7:=fB fun i j=>decide (i<j)
noncomputable def J4:=fB fun i j=>decide (i<=j)
noncomputable def rU:=fB fun i j=>decide (j<i)
noncomputable def K4:=fB fun i j=>decide (j<=i)
theorem C7:l8 K (vo fun i j=> .bl (decide (i<j))) F7:=zu
theorem Jm:l8 K (vo fun i j=> .bl (decide (i<=j))) J4:=zu
theorem qZ:l8 K (vo fun i j=> .bl (decide (j<i))) rU:=zu
theorem Ia:l8 K (vo fun i j=> .bl (decide (j<=i))) K4:=zu
noncomputable def ju (d:D):Bool:=d.canLay0&&decide (d.depth<=64)
noncomputable def bQ (d e:D):Option RV:=if(ju d&&e.canLay0)=true then some (.fz (.bool (Mb.eqv d e))) else none
noncomputable def oN (d e:D):Option RV:=if(ju d&&e.canLay0)=true then some (.fz (.bool (!Mb.eqv d e))) else none
theorem gC:l8 K (FX K false) bQ:=by
 intro O H x y dx dy rv Q n hx hy e q;unfold bQ at e;split at e
 ·rename_i hc;cases e;unfold ju at hc;simp only[MB,decide_eq_true_eq] at hc;exact⟨dx,dy,hx.plain,hy.plain,hc.1.1,hc.2,hc.1.2,q.at (.bl _)⟩
 ·cases e
theorem IA:l8 K (FX K true) oN:=by
 intro O H x y dx dy rv Q n hx hy e q;unfold oN at e;split at e
 ·rename_i hc;cases e;unfold ju at hc;simp only[MB,decide_eq_true_eq] at hc;exact⟨dx,dy,hx.plain,hy.plain,hc.1.1,hc.2,hc.1.2,q.at (.bl _)⟩
 ·cases e
noncomputable def nF:D->D->Option RV
 | .none,.none=>some (.fz (.bool true))
 |_,.none=>some (.fz (.bool false))
 |_,_=>none
noncomputable def iz:D->D->Option RV
 | .none,.none=>some (.fz (.bool false))
 |_,.none=>some (.fz (.bool true))
 |_,_=>none
theorem Bb {O:ci} {H:Hp} {x:V} {d:D} (h:DX O K H x d) (hd:d≠ .none):x≠ .OT:=by
 cases d with
 |none=>exact absurd rfl hd
 |list ds=>obtain⟨a,xs,rfl,_⟩:=xk h;simp
 |tuple ds=>obtain⟨a,xs,rfl,_⟩:=Cl h;simp
 |bool b=>cases h;simp
 |int b=>cases h;simp
 |str b=>cases h;simp
 |dict b=>cases h
theorem F6:l8 K (fun x y H Q=>y= .OT/\Q (.bl (decide (x= .OT))) H) nF:=by
 intro O H x y dx dy rv Q n hx hy e q;unfold nF at e;split at e
 ·cases e;cases hx;cases hy;exact⟨rfl,q.at (.bl _)⟩
 ·rename_i hd;cases e;cases hy;refine⟨rfl,?_⟩;rw[decide_eq_false (Bb hx hd)];exact q.at (.bl _)
 ·cases e
theorem tQ:l8 K (fun x y H Q=>y= .OT/\Q (.bl (!decide (x= .OT))) H) iz:=by
 intro O H x y dx dy rv Q n hx hy e q;unfold iz at e;split at e
 ·cases e;cases hx;cases hy;exact⟨rfl,q.at (.bl _)⟩
 ·rename_i hd;cases e;cases hy;refine⟨rfl,?_⟩;rw[decide_eq_false (Bb hx hd)];exact q.at (.bl _)
 ·cases e
def Fx (K:Bn) (neg:Bool):R2:=fun x y H Q=>∃d ds,L2.DV K H x d/\(L2.DV K H y (.list ds)\/L2.DV K H y (.tuple ds))/\d.canLay0=true/\Mb.canLayAll0 ds=true/\d.depth<=64/\Q (.bl (if neg then !(ds.any fun e=>Mb.eqv e d) else ds.any fun e=>Mb.eqv e d)) H
theorem lN {X:Cx} (hu:X.A.units+65<cLine):OpR X (NM .In) (Fx X.K false):=by
 intro pins s σ H x y v u Q I rx ry h;obtain⟨d,ds,h1,h2,l1,l2,hd,q⟩:=h;obtain⟨as,r1⟩:=h1.reads I rx;have hm:min (Mb.depthAll ds) d.depth<=64:=MQ (RB _ _) hd;rcases h2 with h2|h2
 ·obtain⟨bs,r2⟩:=h2.reads I ry;exact Y2 r2 r1 l2 l1 (by omega) ⟨.bl _,H,I,rfl,q⟩
 ·obtain⟨bs,r2⟩:=h2.reads I ry;exact Y3 r2 r1 l2 l1 (by omega) ⟨.bl _,H,I,rfl,q⟩
theorem um {X:Cx} (hu:X.A.units+65<cLine):OpR X (NM .NotIn) (Fx X.K true):=by
 intro pins s σ H x y v u Q I rx ry h;obtain⟨d,ds,h1,h2,l1,l2,hd,q⟩:=h;obtain⟨as,r1⟩:=h1.reads I rx;have hm:min (Mb.depthAll ds) d.depth<=64:=MQ (RB _ _) hd;rcases h2 with h2|h2
 ·obtain⟨bs,r2⟩:=h2.reads I ry;exact Y4 r2 r1 l2 l1 (by omega) ⟨.bl _,H,I,rfl,q⟩
 ·obtain⟨bs,r2⟩:=h2.reads I ry;exact Y5 r2 r1 l2 l1 (by omega) ⟨.bl _,H,I,rfl,q⟩
noncomputable def pY (d e:D):Option RV:=match fQ e with
 |some ds=>if(ju d&&Mb.canLayAll0 ds)=true then some (.fz (.bool (ds.any fun e=>Mb.eqv e d))) else none
 |none=>none
noncomputable def lr (d e:D):Option RV:=match fQ e with
 |some ds=>if(ju d&&Mb.canLayAll0 ds)=true then some (.fz (.bool (!ds.any fun e=>Mb.eqv e d))) else none
 |none=>none
theorem Ee {O:ci} {H:Hp} {y:V} {e:D} {ds:List D} (hy:DX O K H y e) (h:fQ e=some ds):L2.DV K H y (.list ds)\/L2.DV K H y (.tuple ds):=by
 unfold fQ at h;split at h
 ·cases h;exact .inr hy.plain
 ·cases h;exact .inl hy.plain
 ·cases h
theorem lY:l8 K (Fx K false) pY:=by
 intro O H x y dx dy rv Q n hx hy e q;unfold pY at e;split at e
 ·rename_i ds hs
  split at e
  ·rename_i hc;cases e;unfold ju at hc;simp only[MB,decide_eq_true_eq] at hc;exact⟨dx,ds,hx.plain,Ee hy hs,hc.1.1,hc.2,hc.1.2,q.at (.bl _)⟩
  ·cases e
 ·cases e
theorem uc:l8 K (Fx K true) lr:=by
 intro O H x y dx dy rv Q n hx hy e q;unfold lr at e;split at e
 ·rename_i ds hs
  split at e
  ·rename_i hc;cases e;unfold ju at hc;simp only[MB,decide_eq_true_eq] at hc;exact⟨dx,ds,hx.plain,Ee hy hs,hc.1.1,hc.2,hc.1.2,q.at (.bl _)⟩
  ·cases e
 ·cases e
noncomputable def aG (d e:D):Option RV:=match fQ d,e with
 |some ds,.int i=>(l7 ds i).map .fz
 |_,_=>none
theorem Cn {O:ci} {H:Hp} {xs:List V} {ds:List D} {i:Int} {d:D} (h:Nz O K H xs ds) (e:l7 ds i=some d):∃v,l7 xs i=some v/\DV O K H v d:=by
 unfold l7 at e⊢;rw[h.length];cases q:GZ ds.length i with
 |none=>rw[q] at e;cases e
 |some j=>rw[q] at e;exact h.get e
theorem cj:l8 K (K6 K) aG:=by
 intro O H x y dx dy rv Q n hx hy e q;unfold aG at e;split at e
 ·rename_i ds i hs
  cases hy;cases qa:l7 ds i with
  |none=>rw[qa] at e;cases e
  |some d=>
   rw[qa] at e;cases e;unfold fQ at hs;split at hs
   ·cases hs;obtain⟨a,xs,rfl,h1,h2⟩:=Cl hx;obtain⟨v,hv,dv⟩:=Cn h2 qa;exact .inr (.inl ⟨a,xs,i,v,rfl,rfl,h1.1,hv,q.at dv⟩)
   ·cases hs;obtain⟨a,xs,rfl,h1,h2⟩:=xk hx;obtain⟨v,hv,dv⟩:=Cn h2 qa;exact .inl ⟨a,xs,i,v,rfl,rfl,h1.sq,hv,q.at dv⟩
   ·cases hs
 ·cases e
noncomputable def Ad (xs:List D) (lo hi:Option Int):List D:=(xs.drop (HT.sIx xs.length 0 lo)).take (HT.sIx xs.length xs.length hi - HT.sIx xs.length 0 lo)
theorem D5 {O:ci} {H:Hp} {xs:List V} {ds:List D} {lo hi:Option Int} (h:Nz O K H xs ds):Nz O K H (wR xs lo hi) (Ad ds lo hi):=by unfold wR Ad;rw[h.length];exact(h.drop _).take _
noncomputable def vp (n:Nat) (lo hi:Option Int):Bool:=decide (HT.sIx n 0 lo=0/\HT.sIx n n hi=n)
def Kn (K:Bn):V->Option Int->Option Int->Hp->VK->Prop:=fun x lo hi H Q=>KA K x lo hi H Q\/Kz K x lo hi H Q
theorem Jo {X:Cx}:KZ X (Kn X.K):=by
 intro pins s σ H x v vl vu lo hi sl Q I rx hs pl pu h;rcases h with h|h
 ·exact Gc pins s σ H x v vl vu lo hi sl Q I rx hs pl pu h
 ·exact Ir pins s σ H x v vl vu lo hi sl Q I rx hs pl pu h
noncomputable def KS:D->Option Int->Option Int->Option RV
 | .list ds,lo,hi=>some (.ow (Ad ds lo hi))
 | .tuple ds,lo,hi=>if vp ds.length lo hi=true then none else some (.fz (.tuple (Ad ds lo hi)))
 |_,_,_=>none
theorem Gi:LD K (Kn K) KS:=by
 intro O H x lo hi dx rv Q n hx e q;unfold KS at e;split at e
 ·cases e;obtain⟨a,xs,rfl,h1,h2⟩:=xk hx;exact .inl ⟨a,xs,rfl,h1.sq,Fin.new (D5 h2) q⟩
 ·split at e
  ·cases e
  ·rename_i hw;cases e;obtain⟨a,xs,rfl,h1,h2⟩:=Cl hx;refine .inr ⟨a,xs,rfl,h1.1,fun z=>hw ?_,Fin.Uy (D5 h2) n q⟩;unfold vp;rw[<-h2.length];exact decide_eq_true z
 ·cases e
noncomputable def dN:List D->Option RV
 |[d]=>(match fQ d with
  |some ds=>some (.fz (.int ds.length))
  |none=>none)
 |_=>none
theorem iu:yK K (fun xs H Q=>∃x n,xs=[x]/\JN K x H n/\Q (.int n) H) dN:=by
 intro O H xs ds rv Q n hp e q;unfold dN at e;split at e
 ·split at e
  ·rename_i es hs
   cases e;cases hp with
   |cons h1 h2=>
    cases h2;unfold fQ at hs;split at hs
    ·cases hs;obtain⟨a,xs,rfl,h1,h2⟩:=Cl h1;exact⟨_,xs.length,rfl,.inr ⟨xs,h1.1,rfl⟩,by rw[h2.length];exact q.at (.int _)⟩
    ·cases hs;obtain⟨a,xs,rfl,h1,h2⟩:=xk h1;exact⟨_,xs.length,rfl,.inl ⟨xs,h1.sq,rfl⟩,by rw[h2.length];exact q.at (.int _)⟩
    ·cases hs
  ·cases e
 ·cases e
noncomputable def iG:List D->Option RV
 |[.tuple ds]=>some (.fz (.tuple ds))
 |[.list ds]=>some (.fz (.tuple ds))
 |_=>none
theorem jp:yK K (fun xs H Q=>∃p ys,xs=[.ref p]/\((PU K H p ys/\∀l,H l=none->Q (.ref l) (bA H l (.tup ys)))\/(P4 K H p ys/\Q (.ref p) H))) iG:=by
 intro O H xs ds rv Q n hp e q;unfold iG at e;split at e
 ·cases e
  cases hp with
  |cons h1 h2=>cases h2;obtain⟨a,xs,rfl,h1,h2⟩:=Cl h1;exact⟨a,xs,rfl,.inr ⟨h1.1,q.at (.tup h1 h2)⟩⟩
 ·cases e
  cases hp with
  |cons h1 h2=>cases h2;obtain⟨a,xs,rfl,h1,h2⟩:=xk h1;exact⟨a,xs,rfl,.inl ⟨h1.sq,Fin.Uy h2 n q⟩⟩
 ·cases e
noncomputable def oZ:List D->Option RV
 |[d]=>(fQ d).map .ow
 |_=>none
theorem yW:yK K (fun xs H Q=>∃p ys,xs=[.ref p]/\(PU K H p ys\/P4 K H p ys)/\∀l,H l=none->Q (.ref l) (bA H l (.lst ys))) oZ:=by
 intro O H xs ds rv Q n hp e q;unfold oZ at e;split at e
 ·rename_i d
  cases hp with
  |cons h1 h2=>
   cases h2;cases hs:fQ d with
   |none=>rw[hs] at e;cases e
   |some es=>
    rw[hs] at e;cases e;unfold fQ at hs;split at hs
    ·cases hs;obtain⟨a,xs,rfl,h1,h2⟩:=Cl h1;exact⟨a,xs,rfl,.inr h1.1,Fin.new h2 q⟩
    ·cases hs;obtain⟨a,xs,rfl,h1,h2⟩:=xk h1;exact⟨a,xs,rfl,.inl h1.sq,Fin.new h2 q⟩
    ·cases hs
 ·cases e
noncomputable def wf:List D->Option RV
 |[.int i,.int j]=>some (.fz (.int (if j>i then j else i)))
 |_=>none
theorem Fh:yK K (fun xs H Q=>∃i j,xs=[.int i,.int j]/\Q (.int (if j>i then j else i)) H) wf:=by
 intro O H xs ds rv Q n hp e q;unfold wf at e;split at e
 ·cases e
  cases hp with
  |cons h1 h2=>
   cases h2 with
   |cons h2 h3=>cases h3;cases h1;cases h2;exact⟨_,_,rfl,q.at (.int _)⟩
 ·cases e
end
end L3
namespace PySem
open Sem (wp)
open AutoSeq1 (wpAny_loadPart')
open Builtin Builtin.Str
section
variable {prog:My} {w:MS} {A:MO} {E:L5->Ma->Prop} {s:Ma}
theorem mq {it t:L8} {i:Nat} {items:Array L5} {x:L5} {Q:L5->Ma->Prop} (hit:s.heap.IsTupleIter it t i) (ht:s.heap.IsTuple t items) (hx:items[i]? =some x)
  (hQ:∀h',h'.IsTupleIter it t (i+1)->Heap.SameBut it s.heap h'->Q x {s with heap:=h'}):wpAny (model prog w) A (MU.SmallTypes.nextOf (.ref it)) Q E s:=by
 obtain⟨o,ho,hc,hd⟩:=id hit;obtain⟨ol,ZD,_,nl,hdl⟩:=ht;unfold MU.SmallTypes.nextOf;refine L6 (Ob (name:=Str.ofString "__next__") hit.typeIs F.slot_tuple_iterator_next
  (Oc F.slot_tuple_iterator_next hit.typeIs F.entry_tuple_iterator_next ?_ (F.args_tuple_iterator_next_1 _)))
 show wpAny _ _ (field (.ref it) 0>>=_) _ _ s;refine L6 (Np ho hd (x:= .ref t) rfl ?_);show wpAny _ _ (if(L5.ref t==L5.none)=true then _ else _) _ _ s;rw[if_neg (show¬((L5.ref t==L5.none)=true) from Mx)];show wpAny _ _ (field (.ref it) 1>>=_) _ _ s;refine L6 (Np ho hd (x:= .int i 0) rfl ?_);show wpAny _ _ (seqItems? (.ref t)>>=_) _ _ s;refine L6 (NK ZD hdl ?_);simp only[ND,hx];refine L6 (Y6 ho hd (by simp) (Mi ⟨x,rfl,Mi (hQ _ ?_ (Heap.SameBut.update ..))⟩));exact⟨_,Heap.get?_update_self _ ho (Obj.isFreed_of_fields (Obj.data_mapFields hd _)),(Obj.cls_mapFields ..).trans hc,by rw[Obj.data_mapFields hd];simp[rawInt]⟩
theorem nO {it t:L8} {i:Nat} {items:Array L5} {Q:L5->Ma->Prop} (hh:A.handled=none) (hit:s.heap.IsTupleIter it t i) (ht:s.heap.IsTuple t items) (hx:items[i]? =none)
  (hE:∀h' e,Heap.ExtBut it s.heap h'->(∃o,h'.get? e=some o/\o.cls= .type "StopIteration")->E (.ref e) {s with heap:=h'}):wpAny (model prog w) A (MU.SmallTypes.nextOf (.ref it)) Q E s:=by
 obtain⟨o,ho,hc,hd⟩:=id hit;obtain⟨ol,ZD,_,nl,hdl⟩:=ht;unfold MU.SmallTypes.nextOf;refine L6 (Ob (name:=Str.ofString "__next__") hit.typeIs F.slot_tuple_iterator_next
  (Oc F.slot_tuple_iterator_next hit.typeIs F.entry_tuple_iterator_next ?_ (F.args_tuple_iterator_next_1 _)))
 show wpAny _ _ (field (.ref it) 0>>=_) _ _ s;refine L6 (Np ho hd (x:= .ref t) rfl ?_);show wpAny _ _ (if(L5.ref t==L5.none)=true then _ else _) _ _ s;rw[if_neg (show¬((L5.ref t==L5.none)=true) from Mx)];show wpAny _ _ (field (.ref it) 1>>=_) _ _ s;refine L6 (Np ho hd (x:= .int i 0) rfl ?_);show wpAny _ _ (seqItems? (.ref t)>>=_) _ _ s;refine L6 (NK ZD hdl ?_);simp only[ND,hx];refine L6 (RF (L6 (Y6 ho hd (by simp) ?_)));show wpAny _ _ (newExc (.type "StopIteration") []>>=_) _ _ _;refine L6 ?_;simp only[newExc,newTuple];refine L6 (Nr ?_ (by size_fits));refine L6 (m:=firstArgMember _ _) (SE (a:=L5.none) (by first|rfl|(simp only[firstArgMember];rfl)) ?_);refine Nr ?_ (by size_fits);simp only[raiseNew];refine L6 (wpAny_handled ?_)
 first|rw[show A.in1.handled=none from hh]|rw[hh]
 refine L6 (Mi (wpAny_throw ?_));exact hE _ _ (((Heap.SameBut.update ..).extBut.push _).push _) ⟨_,Heap.get?_push_size _ rfl,rfl⟩
end
end PySem
namespace L3
open PySem PySem.Spec PyProof.Rows L2
theorem Gd {X:Cx} {pins:List (L8×Obj)} {σ:L2.St} {H:Hp} {s:Ma} {a:L8} {xs ys:List V} (I:Inv X pins σ H s) (h1:P4 X.K H a xs) (h2:P4 X.K H a ys):xs=ys:=by
 obtain⟨MY,r1,⟨o,e1,_,n,d1⟩,_⟩:=I.tuple h1;obtain⟨Sv,r2,⟨o2,e2,_,n2,d2⟩,_⟩:=I.tuple h2;rw[e1] at e2;cases e2;rw[d1] at d2;have:MY=Sv:=by
  have q:MY.toArray=Sv.toArray:=by injection d2
  simpa using q
 subst this;exact r1.inj r2
theorem sU {bs:List Bool} {MY:List L5} (r:Vals (bs.map V.bl) MY) {i:Nat} {v:L5} (h:MY[i]? =some v):∃b,bs[i]? =some b/\v= .bool b:=by
 have hl:=r.length;rw[L7] at hl;have hi:i<bs.length:=by rw[hl];exact(Md.mp h).1
 obtain⟨u,hu,ru⟩:=r.get (i:=i) (x:= .bl bs[i]) (by rw[Ml,Mf hi];rfl);rw[h] at hu;cases hu;exact⟨bs[i],Mf hi,ru⟩
theorem xt (bs:List Bool):((Mz bs.length).all fun i=>(bs[i]?).getD true)=bs.all id:=by
 rw[Qs,OB,OB];constructor
 ·intro h b hb;obtain⟨i,hi,e⟩:=Tw.mp hb;have:=h i (NO.mpr hi);rw[Mf hi,e] at this;exact this
 ·intro h i hi;have hi:=NO.mp hi;rw[Mf hi];exact h _ (Qd hi)
theorem xa (bs:List Bool):((Mz bs.length).any fun i=>(bs[i]?).getD false)=bs.any id:=by
 rw[Qs,N2,N2];constructor
 ·rintro⟨i,hi,h⟩;have hi:=NO.mp hi;rw[Mf hi] at h;exact⟨_,Qd hi,h⟩
 ·rintro⟨b,hb,h⟩;obtain⟨i,hi,e⟩:=Tw.mp hb;exact⟨i,NO.mpr hi,by rw[Mf hi,e];exact h⟩
section
variable {X:Cx}
theorem vv (hc:X.calm=true):Oq X (.builtin "all") (fun xs H Q=>∃(p:L8) (bs:List Bool),xs=[.ref p]/\PU X.K H p (bs.map V.bl)/\Q (.bl (bs.all id)) H):=by
 intro pins s σ H xs us Q I r h;obtain⟨l,bs,rfl,hq,q⟩:=h;obtain⟨u,rfl,ru⟩:=iy r;cases ru;obtain⟨MY,rv,pl,hz⟩:=I.list hq;have hlen:=rv.length;rw[L7] at hlen;have Pw:l<s.heap.objs.size:=by obtain⟨_,_,e,_⟩:=pl;exact Heap.lt_size e
 refine call_all_walk (OV pl.isList ?_);refine⟨s.heap.objs.size,[s.heap.objs.size,l],[s.heap.objs.size],MY.toArray.size,_,_,fun i=>(bs[i]?).getD true,rfl,YZ.list (A:=X.A.in1) (I.ok.hd hc) _ l (MD Pw) MY.toArray,
  ⟨⟨_,Heap.get?_push_size _ rfl,rfl,rfl⟩,pl.isList.push _⟩,fun i v s' Q' E' hP hQ=> ?_,fun h' tk hk=> ?_⟩
 ·obtain⟨b,e,rfl⟩:=sU rv (i:=i) (v:=v) (by simpa using hP);simp only[e,P7] at hQ;exact Nj hQ
 ·rw[Mo,<-hlen,xt];refine⟨.bl _,H,I.kept (t':=tk) fun b o e=>hk b o (fun hm=> ?_) (Heap.get?_push_of_some _ e),rfl,q⟩;rw[MC.mp hm] at e;exact Nx _ (Heap.lt_size e)
theorem vW (hc:X.calm=true):Oq X (.builtin "any") (fun xs H Q=>∃(p:L8) (bs:List Bool),xs=[.ref p]/\PU X.K H p (bs.map V.bl)/\Q (.bl (bs.any id)) H):=by
 intro pins s σ H xs us Q I r h;obtain⟨l,bs,rfl,hq,q⟩:=h;obtain⟨u,rfl,ru⟩:=iy r;cases ru;obtain⟨MY,rv,pl,hz⟩:=I.list hq;have hlen:=rv.length;rw[L7] at hlen;have Pw:l<s.heap.objs.size:=by obtain⟨_,_,e,_⟩:=pl;exact Heap.lt_size e
 refine call_any_walk (OV pl.isList ?_);refine⟨s.heap.objs.size,[s.heap.objs.size,l],[s.heap.objs.size],MY.toArray.size,_,_,fun i=>(bs[i]?).getD false,rfl,YZ.list (A:=X.A.in1) (I.ok.hd hc) _ l (MD Pw) MY.toArray,
  ⟨⟨_,Heap.get?_push_size _ rfl,rfl,rfl⟩,pl.isList.push _⟩,fun i v s' Q' E' hP hQ=> ?_,fun h' tk hk=> ?_⟩
 ·obtain⟨b,e,rfl⟩:=sU rv (i:=i) (v:=v) (by simpa using hP);simp only[e,P7] at hQ;exact Nj hQ
 ·rw[Mo,<-hlen,xa];refine⟨.bl _,H,I.kept (t':=tk) fun b o e=>hk b o (fun hm=> ?_) (Heap.get?_push_of_some _ e),rfl,q⟩;rw[MC.mp hm] at e;exact Nx _ (Heap.lt_size e)
end
section
variable {K:Bn}
noncomputable def o0:List D->Option (List Bool)
 |[]=>some []
 | .bool b::r=>(o0 r).map (b::·)
 |_=>none
theorem u0 {O:ci} {H:Hp}:∀{xs:List V} {ds:List D} {bs:List Bool},Nz O K H xs ds->o0 ds=some bs->xs=bs.map V.bl
 |_,_,_,.nil,e=>by cases e;rfl
 |_,_,bs,.cons (vs:=vs) (ds:=r) h t,e=>by
  cases h with
  |bl b=>
   have e':(o0 r).map (b::·)=some bs:=e;cases q:o0 r with
   |none=>rw[q] at e';cases e'
   |some bs'=>rw[q] at e';cases e';rw[u0 t q];rfl
  |_=>cases e
noncomputable def Dh:List D->Option RV
 |[.list ds]=>(o0 ds).map fun bs=> .fz (.bool (bs.all id))
 |_=>none
noncomputable def AC:List D->Option RV
 |[.list ds]=>(o0 ds).map fun bs=> .fz (.bool (bs.any id))
 |_=>none
theorem C1:yK K (fun xs H Q=>∃(p:L8) (bs:List Bool),xs=[.ref p]/\PU K H p (bs.map V.bl)/\Q (.bl (bs.all id)) H) Dh:=by
 intro O H xs ds rv Q n hp e q;unfold Dh at e;split at e
 ·rename_i es
  cases qs:o0 es with
  |none=>rw[qs] at e;cases e
  |some bs=>
   rw[qs] at e;cases e;cases hp with
   |cons h1 h2=>cases h2;obtain⟨a,ys,rfl,h1,h2⟩:=xk h1;have:=u0 h2 qs;subst this;exact⟨a,bs,rfl,h1.sq,q.at (.bl _)⟩
 ·cases e
theorem Ds:yK K (fun xs H Q=>∃(p:L8) (bs:List Bool),xs=[.ref p]/\PU K H p (bs.map V.bl)/\Q (.bl (bs.any id)) H) AC:=by
 intro O H xs ds rv Q n hp e q;unfold AC at e;split at e
 ·rename_i es
  cases qs:o0 es with
  |none=>rw[qs] at e;cases e
  |some bs=>
   rw[qs] at e;cases e;cases hp with
   |cons h1 h2=>cases h2;obtain⟨a,ys,rfl,h1,h2⟩:=xk h1;have:=u0 h2 qs;subst this;exact⟨a,bs,rfl,h1.sq,q.at (.bl _)⟩
 ·cases e
noncomputable def kA:List D->Option (List Int)
 |[]=>some []
 | .int b::r=>(kA r).map (b::·)
 |_=>none
theorem mW {O:ci} {H:Hp}:∀{xs:List V} {ds:List D} {bs:List Int},Nz O K H xs ds->kA ds=some bs->xs=bs.map V.int
 |_,_,_,.nil,e=>by cases e;rfl
 |_,_,bs,.cons (vs:=vs) (ds:=r) h t,e=>by
  cases h with
  |int b=>
   have e':(kA r).map (b::·)=some bs:=e;cases q:kA r with
   |none=>rw[q] at e';cases e'
   |some bs'=>rw[q] at e';cases e';rw[mW t q];rfl
  |_=>cases e
theorem kC (ns:List Int):kA (ns.map .int)=some ns:=by
 induction ns with
 |nil=>rfl
 |cons n r ih=>show(kA (r.map .int)).map (n::·)=_;rw[ih];rfl
noncomputable def xE (x:Int):List Int->List Int
 |[]=>[x]
 |y::r=>if x<=y then x::y::r else y::xE x r
noncomputable def iZ:List Int->List Int
 |[]=>[]
 |x::r=>xE x (iZ r)
theorem oj (x:Int):∀l,(xE x l).Perm (x::l)
 |[]=>Rr _
 |y::r=>by
  unfold xE;split
  ·exact Rr _
  ·exact((oj x r).cons y).trans (abX x y r)
theorem fL:∀l,(iZ l).Perm l
 |[]=>Rr _
 |x::r=>(oj x _).trans ((fL r).cons x)
theorem oI (x:Int):∀l:List Int,l.Pairwise (·<=·)->(xE x l).Pairwise (·<=·)
 |[],_=>by simp[xE]
 |y::r,h=>by
  unfold xE;obtain⟨h1,h2⟩:=PJ.mp h;split
  ·rename_i YG
   refine PJ.mpr ⟨fun z hz=> ?_,h⟩;rcases MH.mp hz with e|e
   ·rw[e];exact YG
   ·have:=h1 z e;omega
  ·rename_i YG
   refine PJ.mpr ⟨fun z hz=> ?_,oI x r h2⟩;rcases MH.mp ((oj x r).mem_iff.mp hz) with e|e
   ·rw[e];omega
   ·exact h1 z e
theorem eU:∀l,(iZ l).Pairwise (·<=·)
 |[]=>Qq
 |x::r=>oI x _ (eU r)
theorem k8 {l m:List Int} (hp:l.Perm m) (hl:l.Pairwise (·<=·)) (hm:m.Pairwise (·<=·)):l=m:=hp.eq_of_pairwise (fun a b _ _ h1 h2=>Vw h1 h2) hl hm
noncomputable def t9:List D->Option RV
 |[.list ds]=>(match kA ds with
  |some ns=>if ns.length<64 then some (.ow ((iZ ns).map .int)) else none
  |none=>none)
 |_=>none
theorem qQ {O:ci} {H:Hp} (ns:List Int):Nz O K H (ns.map V.int) (ns.map .int):=by
 induction ns with
 |nil=>exact .nil
 |cons n r ih=>exact .cons (.int n) ih
theorem sY:yK K (fun xs H Q=>∃(p:L8) (ns:List Int),xs=[.ref p]/\PU K H p (ns.map V.int)/\ns.length<64/\∀(l:L8) (ms:List Int),H l=none->ms.Perm ns->ms.Pairwise (·<=·)->Q (.ref l) (bA H l (.lst (ms.map V.int)))) t9:=by
 intro O H xs ds rv Q n hp e q;unfold t9 at e;split at e
 ·rename_i es
  cases qs:kA es with
  |none=>rw[qs] at e;cases e
  |some ns=>
   rw[qs] at e;dsimp only at e;split at e
   ·rename_i hl
    cases e;cases hp with
    |cons h1 h2=>cases h2;obtain⟨a,ys,rfl,h1,h2⟩:=xk h1;have:=mW h2 qs;subst this;refine⟨a,ns,rfl,h1.sq,hl,fun l ms hl hp hs=> ?_⟩;have em:ms=iZ ns:=k8 (hp.trans (fL ns).symm) hs (eU ns);subst em;exact Fin.new (qQ _) q l hl
   ·cases e
 ·cases e
end
def LC (K:Bn) (H:Hp) (x:V) (t:String):Prop:=match x with
 | .OT=>t= "NoneType"
 | .bl _=>t= "bool"
 | .int _=>t= "int"
 | .str _=>t= "str"
 | .ref a=>(t= "list"/\∃xs,PU K H a xs)\/(t= "tuple"/\∃xs,P4 K H a xs)
 |_=>False
def GF (K:Bn):List V->Hp->VK->Prop:=fun xs H Q=>∃x n t b,xs=[x,.ty n]/\LC K H x t/\Uq K (.type t) (.type n)=some b/\Q (.bl b) H
theorem AG {X:Cx}:Oq X (.builtin "isinstance") (GF X.K):=by
 intro pins s σ H xs us Q I r h;obtain⟨x,n,t,b,rfl,ty,e,q⟩:=h;obtain⟨u,w',rfl,rx,rn⟩:=Dv r;obtain rfl:w'=L5.type n:=rn;have fin:∀tk,EP X pins σ Q (.bool b) {s with toks:=tk}:=fun tk=>⟨.bl b,H,I.tok tk,rfl,q⟩;cases x with
 |OT=>cases(show t= "NoneType" from ty);cases(show u=L5.none from rx);exact OD PySem.W.kitx_none I.RO True.intro e (fun z=>nomatch z) fin
 |bl y=>cases(show t= "bool" from ty);cases(show u=L5.bool y from rx);exact OD PySem.W.kitx_bool I.RO True.intro e (fun z=>nomatch z) fin
 |int i=>cases(show t= "int" from ty);obtain⟨t,q⟩:=(show∃t,u=L5.int i t from rx);cases q;exact OD PySem.W.kitx_int I.RO True.intro e (fun z=>nomatch z) fin
 |str y=>cases(show t= "str" from ty);obtain⟨t,q⟩:=(show∃t,u=L5.str y t from rx);cases q;exact OD PySem.W.kitx_str I.RO True.intro e (fun z=>nomatch z) fin
 |ref a=>
  cases(show u=L5.ref a from rx);rcases ty with⟨rfl,xs,h⟩|⟨rfl,xs,h⟩
  ·obtain⟨MY,r,⟨o,k,h1,h2,_⟩,_⟩:=I.list h;exact OD PySem.W.kitx_list I.RO ⟨_,h1,h2⟩ e (fun z=>nomatch z) fin
  ·obtain⟨MY,r,⟨o,h1,h2,_⟩,_⟩:=I.tuple h;exact OD PySem.W.kitx_tuple I.RO ⟨o,h1,h2⟩ e (fun z=>nomatch z) fin
 |_=>exact(show False from ty).elim
section
variable {K:Bn} {E:XK} {B O O':ci} {H0 H H':Hp} {σ:L2.St} {ρ ρ':aK} {v:V}
noncomputable def AD:D->Option String
 | .none=>some "NoneType"
 | .bool _=>some "bool"
 | .int _=>some "int"
 | .str _=>some "str"
 | .list _=>some "list"
 | .tuple _=>some "tuple"
 | .dict _=>none
noncomputable def FB (n t:String):Bool:=n==t||(n== "int"&&t== "bool")
theorem Gs {n t:String} (hn:n= "int"\/n= "bool"\/n= "str"\/n= "list"\/n= "tuple") {d:D} (ht:AD d=some t):Uq K (.type t) (.type n)=some (FB n t):=by cases d<;>(cases ht;try (rcases hn with rfl|rfl|rfl|rfl|rfl<;>rfl))
theorem Km {x:V} {d:D} {t:String} (h:DX O K H x d) (e:AD d=some t):LC K H x t:=by
 cases d with
 |none=>cases e;cases h;rfl
 |bool b=>cases e;cases h;rfl
 |int b=>cases e;cases h;rfl
 |str b=>cases e;cases h;rfl
 |dict b=>cases e
 |list ds=>cases e;obtain⟨a,xs,rfl,h1,_⟩:=xk h;exact .inl ⟨rfl,xs,h1.sq⟩
 |tuple ds=>cases e;obtain⟨a,xs,rfl,h1,_⟩:=Cl h;exact .inr ⟨rfl,xs,h1.1⟩
end
section
variable {K:Bn}
noncomputable def Gm:List D->Option RV
 |[.int i]=>some (.fz (.int i))
 |[.bool k]=>some (.fz (.int (if k then 1 else 0)))
 |_=>none
theorem Ho:yK K (fun xs H Q=>(∃i,xs=[.int i]/\Q (.int i) H)\/∃k,xs=[.bl k]/\Q (.int (if k then 1 else 0)) H) Gm:=by
 intro O H xs ds rv Q n hp e q;unfold Gm at e;split at e
 ·cases e
  cases hp with
  |cons h1 h2=>cases h2;cases h1;exact .inl ⟨_,rfl,q.at (.int _)⟩
 ·cases e
  cases hp with
  |cons h1 h2=>cases h2;cases h1;exact .inr ⟨_,rfl,q.at (.int _)⟩
 ·cases e
end
theorem Aj {P:My} {w:MS} {K:Bn} {mg mb:Str->Option L5} {k:Nat} {fa a:L8} {fd:Nk} {x:Str} {F:FN} {s₁:Ma} {vs:List L5} {ns:List Int}
  (KX:K.In s₁.heap) (SU:s₁.heap.Ns Mv mg) (hb:s₁.heap.Ns builtinsNs mb) (Z8:∀x:Str,x≠ "__name__"->mb x=M6 x) (WI:s₁.heap.NoLimit) (hg:s₁.gens= #[])
  (ha:s₁.heap.get? a=some {cls:= .type "list",data:= .seq vs.toArray}) (hi:IntsAre vs ns) (hl:ns.length<=Mq) (hr:Og k callerA)
  (FF:∀base:Heap,K.In base->base.Ns Mv mg->FnOk P w K mg base dr k fa fd [x] (ou K 1 F)) (UR:∀(s:Ma) (u:L5),Rh s fd ⟨[u],[]⟩ [(x,u)])
  (hF:F [.list (ns.map .int)]= .ok (.fz (.bool true))):
  codeAny (model P w) callerA (.call (.ref fa) ⟨[.ref a],[]⟩) (fun r s'=>r= .ok (.ret (.bool true))/\OldK s₁.heap s'.heap/\s'.os=s₁.os/\AllBare s'.gens) s₁:=by
 refine BK (sp:=fun vs H Q E=>ou K 1 F vs H Q E\/(vs.length=1/\False)) KX SU hb Z8 WI hg ha hi hl hr (fun base k1 k2=>(FF base k1 k2).imp fun vs H Q E h=> ?_) UR (fun H hO hS=> ?_) fun _ _ _ h=>h
 ·rcases h with h|h
  ·exact h
  ·exact h.2.elim
 ·refine .inl ⟨rfl,Sa,[.list (ns.map .int)],fun a z=>z.elim,.cons (.lst ⟨?_,fun z=>z.elim⟩ (qQ ns)) .nil,?_⟩
  ·rcases hS with h|⟨o,MY,n,h1,h2,h3,h4,h5,h6⟩
   ·exact .inl h
   ·have e:=KX a o h1;rw[ha] at e;cases e;cases h4;exact .inr ⟨vs,0,h1,by rw[L7];exact hl,by simpa using h6⟩
  ·rw[hF];exact fun v H' s dv=>by cases dv;rfl
theorem JR {l:T8} {n k:Nat} {q:My} {loose:List Str} {XP:(Str->Option L5)->Heap->Prop} {YP:MS->Heap->Prop} {d:DefRec} {K:Params->Bn} {F:FN} {x:Str}
  (hn:l.most=some n) (Ys:n<=Mq) (hdf:d.params.defaults=[]) (hr:Og k callerA)
  (hY:∀(w:MS) (h:Heap),YP w h->(K w.params).In h)
  (FF:∀(w:MS) (mg:Str->Option L5) (fa:L8) (h:Heap),(K w.params).In h->h.Ns Mv mg->mg d.name=some (.ref fa)->
   ∃fd:Nk,(∀(s:Ma) (u:L5),Rh s fd ⟨[u],[]⟩ [(x,u)])/\∀base:Heap,(K w.params).In base->base.Ns Mv mg->FnOk l.prog w (K w.params) mg base dr k fa fd [x] (ou (K w.params) 1 F))
  (hF:∀ns:List Int,ns.length<=n->F [.list (ns.map .int)]= .ok (.fz (.bool true))):
  PySem.W.WalkO q loose XP YP l.row.toRowW d [] (fun f vs=>Xk f vs):=by
 refine Att.attach_call hn hdf fun w s₀ s₁ mg mb fa o pm cd doc a vs ns G Y ho hd Ui Xv WC hints hlen hg=> ?_;have KX:=hY w _ Y;obtain⟨fd,hb,hFF⟩:=FF w mg fa _ KX G.T.g Xv;exact Aj KX G.T.g G.T.b G.T.builtins G.T.nolimit hg WC hints (MQ hlen Ys) hr hFF hb (hF ns hlen)
theorem LR {P:My} {w:MS} {K:Bn} {mg:Str->Option L5} {base:Heap} {x qual:Str} {st:Oj} {f:L8} {fd:Nk} {N ps:List Str} {k n m:Nat} {g:FS} {FF:FN} (F:O9 K x qual st f fd) (S:PK N ps (bi st)) (hn:ps.length=n) (hm:N.length=m) (hF:FF=gb m g)
  (P2:∀(N5:L5) (A:MO) (outer:List Env) (s:Ma) (H:Hp) (E:XK),Og k (A.deeper (M4 qual (bi st) s.heap.objs.size f N5))->
   ∃t,RZ (pS dr P w K mg base N qual (bi st) f N5 A outer s H E).Vi (gi st) t/\SO K E t g):FnOk P w K mg base dr (k+1) f fd ps (ou K n FF):=by
 subst hF hm;exact LP F S hn P2
noncomputable abbrev ir (P:My) (w:MS) (K:Bn) (mg:Str->Option L5) (base:Heap) (k:Nat) (x:Str) (ps:List Str) (n:Nat) (F:FN):Prop:=zC P w K mg base k x ps (ou K n F)
end L3
namespace L3
open PySem L2
noncomputable abbrev nd (n:Nat):D:= .int (n:Int)
noncomputable def aD (ns:List Nat):List D:=ns.map nd
theorem cJ (ns:List Nat):(aD ns).length=ns.length:=by unfold aD;rw[L7]
theorem zw (xs ys:List Nat):aD (xs++ys)=aD xs++aD ys:=by unfold aD;rw[MZ]
theorem iX {ns:List Nat} {i:Nat} {d:D} (h:(aD ns)[i]? =some d):∃n,ns[i]? =some n/\d=nd n:=by
 unfold aD at h;rw[Ml] at h;cases e:ns[i]? with
 |none=>rw[e] at h;cases h
 |some n=>rw[e] at h;exact⟨n,rfl,(Mw h).symm⟩
theorem aU {α:Type} (a:α):Res.M3 (some a)= .ok a:=rfl
theorem wJ {α:Type} (a:α):jq (Res.ok a)= .ok a:=rfl
theorem xV (i:Nat) (ρ:aK):aa i ρ=yJ ρ i ρ[i]? :=rfl
theorem BM (ρ:aK) (i:Nat) (d:D):yJ ρ i (some (some (.fz d)))= .ok (.fz d,ρ):=rfl
theorem BF (ρ:aK) (i:Nat) (ds:List D):yJ ρ i (some (some (.ow ds)))= .ok (.pl i,ρ):=rfl
theorem nW (ds:List D):Ct (some (some (.ow ds)))=some ds:=rfl
theorem BW (i:Nat) (d:D) (ρ:aK):gN i (.fz d) ρ= .ok (ρ.set i (some (.fz d))):=rfl
theorem zL (i:Int):Ld (.int i)=some i:=rfl
theorem vP (b:Bool):Lz (.bool b)=some b:=rfl
theorem gj (ds:List D):dN [.tuple ds]=some (.fz (nd ds.length)):=rfl
theorem kF (ds:List D):dN [.list ds]=some (.fz (nd ds.length)):=rfl
theorem uZ (i j:Int):F7 (.int i) (.int j)=some (.fz (.bool (decide (i<j)))):=rfl
theorem GP (i j:Int):J4 (.int i) (.int j)=some (.fz (.bool (decide (i<=j)))):=rfl
theorem oH (i j:Int):rU (.int i) (.int j)=some (.fz (.bool (decide (j<i)))):=rfl
theorem DH (i j:Int):K4 (.int i) (.int j)=some (.fz (.bool (decide (j<=i)))):=rfl
theorem gZ (i j:Int):cS (.int i) (.int j)=some (.fz (.int (i+j))):=rfl
theorem xS (i j:Int):oU (.int i) (.int j)=some (.fz (.int (i - j))):=rfl
theorem fM {i j:Int} (h:0<j):ef (.int i) (.int j)=some (.fz (.int (i % j))):=by show(if Hm i j=true then _ else _)=_;rw[if_pos (show Hm i j=true from decide_eq_true h)]
theorem fY {i j:Int} (h:0<j/\j<2^128):eY (.int i) (.int j)=some (.fz (.int (i/j))):=by show(if Ht i j=true then _ else _)=_;rw[if_pos (show Ht i j=true from decide_eq_true h)]
theorem F1 {i j:Int} (h: -(2^64)<i/\i<2^64):Ab (.int i) (.int j)=some (.fz (.int (i*j))):=by show(if(hZ i||hZ j)=true then _ else _)=_;rw[if_pos (by rw[show hZ i=true from decide_eq_true h,Qk])]
theorem F4 {i j:Int} (h: -(2^64)<j/\j<2^64):Ab (.int i) (.int j)=some (.fz (.int (i*j))):=by show(if(hZ i||hZ j)=true then _ else _)=_;rw[if_pos (by rw[show hZ j=true from decide_eq_true h,Bool.or_true])]
theorem yD {j:Int} (h:jx j):gS [.int j]=some (gM 0 j.toNat):=by show(if jx j then _ else _)=_;rw[if_pos h]
theorem wj (n:Nat):gM 0 n=aD (Mz n):=by unfold gM aD;apply Pq;intro k _;rw[Int.zero_add]
theorem kN {n:Nat} (h:n<=1000000):gS [nd n]=some (aD (Mz n)):=by rw[yD (by unfold jx;omega),wj,ND]
theorem yi {f g:FS} {ρ ρ1:aK} (h:f ρ= .ok (.nx ρ1)):bz f g ρ=g ρ1:=by unfold bz;rw[h];rfl
theorem Dp {f g:FS} {ρ:aK} {rv:RV} (h:f ρ= .ok (.rt rv)):bz f g ρ= .ok (.rt rv):=by unfold bz;rw[h];rfl
theorem Lo {c:FT} {f g:FS} {ρ ρ1:aK} (h:c ρ= .ok (true,ρ1)):jW c f g ρ=f ρ1:=by unfold jW;rw[h];rfl
theorem K9 {c:FT} {f g:FS} {ρ ρ1:aK} (h:c ρ= .ok (false,ρ1)):jW c f g ρ=g ρ1:=by unfold jW;rw[h];rfl
theorem xY {fi:FI} {gt:FG} {b:FS} {ρ ρ1:aK} {ds:List D} (h:fi ρ= .ok (ds,ρ1)):md fi gt b ρ=pf gt b ds ρ1:=by unfold md;rw[h];rfl
theorem Jw {i:Int} {j:Nat} (h:j<=1000000/\i.natAbs<2^64):z6 (.int i) (nd j)=some (.fz (.int (i^j))):=by show(if D7 i (j:Int)=true then some (RV.fz (.int (i^((j:Nat):Int).toNat))) else none)=_;rw[if_pos (by unfold D7;exact decide_eq_true ⟨by omega,by omega,h.2⟩),ND]
theorem JV:z6 (.int 10) (.int 18)=some (.fz (.int (10^18))):=Jw (j:=18) ⟨by decide,by decide⟩
noncomputable def j9 (gt:FG) (ft:FT) (fe:FE) (d:D) (ρ:aK):Res (Option D×aK):=(gt (.fz d) ρ).bind fun ρ1=>(ft ρ1).bind fun b=>if b.1=true then(fe b.2).bind fun a=>(Res.M3 (vJ a.2 a.1)).bind fun x=> .ok (some x.1,df x.2) else .ok (none,df b.2)
theorem qG {gt:FG} {ft:FT} {fe:FE} {d:D} {r:List D} {ρ ρ':aK} {acc:List D} {o:Option D} (h:j9 gt ft fe d ρ= .ok (o,ρ')) (hl:acc.length<1000000):dm gt ft fe (d::r) ρ acc=dm gt ft fe r ρ' (acc++o.toList):=by
 unfold j9 at h;show(gt (.fz d) ρ).bind _=_;cases q1:gt (.fz d) ρ with
 |er x=>rw[q1] at h;cases h
 |bad=>rw[q1] at h;cases h
 |ok ρ1=>
  rw[q1,Res.bind_ok] at h;rw[Res.bind_ok];cases q2:ft ρ1 with
  |er x=>rw[q2] at h;cases h
  |bad=>rw[q2] at h;cases h
  |ok b=>
   obtain⟨b,ρ2⟩:=b;rw[q2,Res.bind_ok] at h;rw[Res.bind_ok];cases b with
   |false=>rw[if_neg Mx] at h⊢;cases h;rw[Tx,ME]
   |true=>
    rw[if_pos rfl] at h⊢;cases q3:fe ρ2 with
    |er x=>rw[q3] at h;cases h
    |bad=>rw[q3] at h;cases h
    |ok a=>
     rw[q3,Res.bind_ok] at h;rw[Res.bind_ok];cases q4:vJ a.2 a.1 with
     |none=>rw[q4] at h;cases h
     |some x=>rw[q4] at h;cases h;show(if acc.length<1000000 then _ else _)=_;rw[if_pos hl];rfl
theorem Bz (a b:Nat):decide ((a:Int)=(b:Int))=decide (a=b):=by
 by_cases h:a=b
 ·rw[decide_eq_true h,decide_eq_true (by rw[h])]
 ·rw[decide_eq_false h,decide_eq_false (by omega)]
theorem CZ (a b:Nat):Mb.eqv (nd a) (nd b)=decide (a=b):=Bz a b
theorem jG (a b:Int):bQ (.int a) (.int b)=some (.fz (.bool (decide (a=b)))):=by rfl
theorem nh (a b:Int):oN (.int a) (.int b)=some (.fz (.bool (!decide (a=b)))):=by rfl
theorem DI (a b:Nat):bQ (nd a) (nd b)=some (.fz (.bool (decide (a=b)))):=by rw[jG,Bz]
theorem gL:∀ns:List Nat,Mb.canLayAll0 (aD ns)=true
 |[]=>rfl
 |n::r=>by show(Mb.canLay0 (nd n)&&Mb.canLayAll0 (aD r))=true;rw[gL r];rfl
theorem jQ:∀ns:List Nat,Mb.depthAll (aD ns)=0
 |[]=>rfl
 |n::r=>by show max (Mb.depth (nd n)) (Mb.depthAll (aD r))=0;rw[jQ r];rfl
theorem uX:∀xs ys:List Nat,Mb.eqvAll (aD xs) (aD ys)=decide (xs=ys)
 |[],[]=>rfl
 |[],_::_=>rfl
 |_::_,[]=>rfl
 |n::r,m::t=>by show(Mb.eqv (nd n) (nd m)&&Mb.eqvAll (aD r) (aD t))=_;rw[uX r t,CZ];rw[Qs];simp
theorem Im (ns:List Nat):ju (.tuple (aD ns))=true:=by show(Mb.canLayAll0 (aD ns)&&decide (Mb.depthAll (aD ns)+1<=64))=true;rw[gL,jQ];rfl
theorem Hi (ns:List Nat):ju (.list (aD ns))=true:=by show(Mb.canLayAll0 (aD ns)&&decide (Mb.depthAll (aD ns)+1<=64))=true;rw[gL,jQ];rfl
theorem ma (xs ys:List Nat):bQ (.list (aD xs)) (.list (aD ys))=some (.fz (.bool (decide (xs=ys)))):=by unfold bQ;rw[Hi,show Mb.canLay0 (.list (aD ys))=true from gL ys,NX,if_pos rfl,show Mb.eqv (.list (aD xs)) (.list (aD ys))=_ from uX xs ys]
theorem zp (x:Nat) (xs:List Nat):((aD xs).any fun e=>Mb.eqv e (nd x))=decide (x∈xs):=by
 induction xs with
 |nil=>rfl
 |cons y r ih=>
  show(Mb.eqv (nd y) (nd x)||(aD r).any fun e=>Mb.eqv e (nd x))=_;rw[ih,CZ];by_cases h:y=x
  ·rw[decide_eq_true h,decide_eq_true (show x∈y::r by rw[h];exact Mp),Qk]
  ·rw[decide_eq_false h,Pk]
   by_cases g:x∈r
   ·rw[decide_eq_true g,decide_eq_true (Mj _ g)]
   ·rw[decide_eq_false g,decide_eq_false (fun z=>(MH.mp z).elim (fun e=>h e.symm) g)]
theorem zj (x:Nat) (xs:List Nat):pY (nd x) (.list (aD xs))=some (.fz (.bool (decide (x∈xs)))):=by show(if(ju (nd x)&&Mb.canLayAll0 (aD xs))=true then _ else _)=_;rw[gL,show ju (nd x)=true from rfl,NX,if_pos rfl,zp]
theorem nk (x:Nat) (xs:List Nat):pY (nd x) (.tuple (aD xs))=some (.fz (.bool (decide (x∈xs)))):=by show(if(ju (nd x)&&Mb.canLayAll0 (aD xs))=true then _ else _)=_;rw[gL,show ju (nd x)=true from rfl,NX,if_pos rfl,zp]
theorem Bt {α:Type} {xs:List α} {i:Nat} {v:α} (h:xs[i]? =some v):l7 xs (i:Int)=some v:=yL h
theorem Gj {ds:List D} {i:Nat} {d:D} (h:ds[i]? =some d):aG (.tuple ds) (nd i)=some (.fz d):=by show(l7 ds (i:Int)).map RV.fz=_;rw[Bt h];rfl
theorem Ln {ds:List D} {i:Nat} {d:D} (h:ds[i]? =some d):aG (.list ds) (nd i)=some (.fz d):=by show(l7 ds (i:Int)).map RV.fz=_;rw[Bt h];rfl
section
variable {ρ ρ1 ρ2 ρ3:aK} {fa fb fc fe:FE} {pa pb pv:PV} {dx dy d:D} {rv:RV} {ps:List PV} {ds:List D}
theorem ah {i:Nat} (h:ρ[i]? =some (some (.fz d))):aa i ρ= .ok (.fz d,ρ):=by rw[xV,h,BM]
theorem gW {i:Nat} (h:ρ[i]? =some (some (.ow ds))):aa i ρ= .ok (.pl i,ρ):=by rw[xV,h,BF]
theorem az:pC d ρ= .ok (.fz d,ρ):=rfl
theorem aw {f:D->D->Option RV} (ha:fa ρ= .ok (pa,ρ1)) (hb:fb ρ1= .ok (pb,ρ2)) (hx:rX ρ2 (bU pa)=some dx) (hy:rX ρ2 pb=some dy) (hf:f dx dy=some rv):au f fa fb ρ= .ok (rv.pv,ρ2):=by unfold au;rw[ha,Res.bind_ok,hb,Res.bind_ok,hx,aU,Res.bind_ok,hy,aU,Res.bind_ok,hf,aU,Res.bind_ok]
theorem aZ {b:Bool} (ha:fa ρ= .ok (pa,ρ1)) (hx:rX ρ1 pa=some (.bool b)):ar fa ρ= .ok (b,ρ1):=by unfold ar;rw[ha,Res.bind_ok,hx,aU,Res.bind_ok,vP,aU,Res.bind_ok]
theorem jR {f g:FT} {a b:Bool} (ha:f ρ= .ok (a,ρ1)) (hb:a=true->g ρ1= .ok (b,ρ1)):ig f g ρ= .ok (a&&b,ρ1):=by
 unfold ig;rw[ha,Res.bind_ok];cases a with
 |true=>rw[if_pos rfl,hb rfl,Q0]
 |false=>rw[if_neg Mx,QC]
theorem E8 {f:FT} {a:Bool} (ha:f ρ= .ok (a,ρ1)):yh f ρ= .ok (!a,ρ1):=by unfold yh;rw[ha,Res.bind_ok]
theorem aA:ao ρ= .ok ([],ρ):=rfl
theorem aj {fr:FA} (ha:fa ρ= .ok (pa,ρ1)) (hr:fr ρ1= .ok (ps,ρ2)):ae fa fr ρ= .ok (bU pa::ps,ρ2):=by unfold ae;rw[ha,Res.bind_ok,hr,Res.bind_ok]
theorem cG {f:List D->Option RV} {fr:FA} (ha:fr ρ= .ok (ps,ρ1)) (hd:vL ρ1 ps=some ds) (hf:f ds=some rv):eN f fr ρ= .ok (rv.pv,ρ1):=by unfold eN;rw[ha,Res.bind_ok,hd,aU,Res.bind_ok,hf,aU,Res.bind_ok]
theorem fJ {F:FN} {n:Nat} {fr:FA} (ha:fr ρ= .ok (ps,ρ1)) (hd:pe ρ1 ps=some (ds,ρ2)) (hn:ds.length=n) (hF:F ds= .ok rv):eh F n fr ρ= .ok (rv.pv,ρ2):=by unfold eh;rw[ha,Res.bind_ok,hd,aU,Res.bind_ok];dsimp only;rw[if_pos hn,hF,wJ,Res.bind_ok]
theorem eX {fr:FA} (ha:fr ρ= .ok (ps,ρ1)) (hd:pe ρ1 ps=some (ds,ρ2)) (hn:ds.length<=1000):aW fr ρ= .ok (.fz (.tuple ds),ρ2):=by unfold aW;rw[ha,Res.bind_ok,hd,aU,Res.bind_ok];dsimp only;rw[if_pos hn]
theorem i9 {fr:FA} (ha:fr ρ= .ok (ps,ρ1)) (hd:pe ρ1 ps=some (ds,ρ2)) (hn:ds.length<=1000):cY fr ρ= .ok (.ow ds,ρ2):=by unfold cY;rw[ha,Res.bind_ok,hd,aU,Res.bind_ok];dsimp only;rw[if_pos hn]
theorem wb {i:Int} (ha:fa ρ= .ok (pa,ρ1)) (hx:rX ρ1 pa=some (.int i)):sN fa ρ= .ok (some i,ρ1):=by unfold sN;rw[ha,Res.bind_ok,hx,aU,Res.bind_ok,zL,aU,Res.bind_ok]
theorem G3 {f:D->Option Int->Option Int->Option RV} {fl fh:FO} {lo hi:Option Int} (ha:fa ρ= .ok (pa,ρ1)) (hl:fl ρ1= .ok (lo,ρ2)) (hh:fh ρ2= .ok (hi,ρ3)) (hx:rX ρ3 (bU pa)=some dx) (hf:f dx lo hi=some rv):JX f fa fl fh ρ= .ok (rv.pv,ρ3):=by unfold JX;rw[ha,Res.bind_ok,hl,Res.bind_ok,hh,Res.bind_ok,hx,aU,Res.bind_ok,hf,aU,Res.bind_ok]
theorem kd {i:Nat} {es:List D} {x:aK} (h0:ρ[i]? =some (some (.ow es))) (ha:fe ρ= .ok (pa,ρ1)) (ht:vJ ρ1 pa=some (d,ρ2)) (h1:ρ2[i]? =some (some (.ow ds))) (hl:ds.length<1000000) (hx:ρ2.set i (some (.ow (ds++[d])))=x):lL i fe ρ= .ok (.fz .none,x):=by unfold lL;rw[h0,nW,aU,Res.bind_ok,ha,Res.bind_ok,ht,aU,Res.bind_ok];dsimp only;rw[h1,nW,aU,Res.bind_ok,if_pos hl,hx]
theorem cX {n:Nat} {fv:List Nat} {fi:FI} {gt:FG} {ft:FT} {cs xs:List D} (hi:fi ρ= .ok (ds,ρ1)) (hc:ti ρ1 fv=some (cs,ρ2)) (hp:jq (dm gt ft fe ds (Me n none++cs.map fun d=>some (.fz d)) [])= .ok xs):dk n fv fi gt ft fe ρ= .ok (.ow xs,ρ2):=by unfold dk;rw[hi,Res.bind_ok];dsimp only;rw[hc,aU,Res.bind_ok];dsimp only;rw[hp,Res.bind_ok]
theorem Hj {c:FT} (hc:c ρ= .ok (true,ρ1)) (h:fa ρ1= .ok (pv,ρ2)):Ii c fa fb ρ= .ok (pv,ρ2):=by unfold Ii;rw[hc,Res.bind_ok,if_pos rfl,h]
theorem Il {c:FT} (hc:c ρ= .ok (false,ρ1)) (h:fb ρ1= .ok (pv,ρ2)):Ii c fa fb ρ= .ok (pv,ρ2):=by unfold Ii;rw[hc,Res.bind_ok,if_neg Mx,h]
theorem ij {a:D} {r:List D}:aG (.tuple (a::r)) (.int 0)=some (.fz a):=Gj (i:=0) rfl
theorem iE {a b:D} {r:List D}:aG (.tuple (a::b::r)) (.int 1)=some (.fz b):=Gj (i:=1) rfl
theorem ld {a b c:D} {r:List D}:aG (.tuple (a::b::c::r)) (.int 2)=some (.fz c):=Gj (i:=2) rfl
theorem HQ {a:D} {r:List D}:aG (.list (a::r)) (.int 0)=some (.fz a):=Ln (i:=0) rfl
theorem Kh {a b:D} {r:List D}:aG (.list (a::b::r)) (.int 1)=some (.fz b):=Ln (i:=1) rfl
theorem IX {xs:List D} {k:Nat} (h1:k<=1000) (h2:xs.length<=1000):Ab (.list xs) (nd k)=some (.ow (Me k xs).flatten):=by show(if xs.length*((k:Nat):Int).toNat<=1000000/\ -(2^63)<=(k:Int)/\(k:Int)<2^63 then some (RV.ow (Me ((k:Nat):Int).toNat xs).flatten) else none)=_;rw[ND,if_pos ⟨MQ (So h2 h1) (by decide),by omega,by omega⟩]
theorem fZ {es:List D} (ha:fe ρ= .ok (pa,ρ1)) (ht:vJ ρ1 pa=some (d,ρ2)) (hs:fQ d=some es):gX fe ρ= .ok (es,ρ2):=by unfold gX;rw[ha,Res.bind_ok,ht,aU,Res.bind_ok];dsimp only;rw[hs,aU,Res.bind_ok]
theorem my {f:List D->Option (List D)} {fr:FA} {es:List D} (ha:fr ρ= .ok (ps,ρ1)) (hd:vL ρ1 ps=some ds) (hf:f ds=some es):lJ f fr ρ= .ok (es,ρ1):=by unfold lJ;rw[ha,Res.bind_ok,hd,aU,Res.bind_ok,hf,aU,Res.bind_ok]
theorem ra {g:FG} (he:fe ρ= .ok (pv,ρ1)) (hg:g pv ρ1= .ok ρ2) (hn:ρ2=ρ3):de fe g ρ= .ok (.nx ρ3):=by unfold de;rw[he,Res.bind_ok];dsimp only;rw[hg,Res.bind_ok,hn]
theorem tH (he:fe ρ= .ok (pv,ρ1)):gO fe ρ= .ok (.nx ρ1):=by unfold gO;rw[he,Res.bind_ok]
theorem uh (he:fe ρ= .ok (pv,ρ1)) (hr:AQ ρ1 pv=some rv):dG fe ρ= .ok (.rt rv):=by unfold dG;rw[he,Res.bind_ok];dsimp only;rw[hr,aU,Res.bind_ok]
theorem E2 {gt:FG} {ft:FT} {x:D} (hg:gt (.fz d) ρ= .ok ρ1) (ht:ft ρ1= .ok (true,ρ2)) (he:fe ρ2= .ok (pv,ρ3)) {ρ4 ρ5:aK} (hx:vJ ρ3 pv=some (x,ρ4)) (hf:df ρ4=ρ5):j9 gt ft fe d ρ= .ok (some x,ρ5):=by unfold j9;rw[hg,Res.bind_ok,ht,Res.bind_ok,if_pos rfl,he,Res.bind_ok,hx,aU,Res.bind_ok,hf]
theorem J8 {gt:FG} {ft:FT} (hg:gt (.fz d) ρ= .ok ρ1) (ht:ft ρ1= .ok (false,ρ2)) {ρ5:aK} (hf:df ρ2=ρ5):j9 gt ft fe d ρ= .ok (none,ρ5):=by unfold j9;rw[hg,Res.bind_ok,ht,Res.bind_ok,if_neg Mx,hf]
end
end L3
namespace PySem
open Sem (wp)
open Builtin
open AutoSeq1 (wpAny_loadPart')
theorem nS:fillsNumberSlot (.type "tuple") "mul"=pure false:=
 fillsNumberSlot_seq (id:= "tuple.__mul__") (r:=some (.builtin "tuple.__rmul__")) F.slot_tuple_mul.lookup (by decide+kernel) F.slot_tuple_rmul.lookup (by decide+kernel)
theorem uw:seqRepeat? (.type "tuple")=pure (some (.builtin "tuple.__mul__")):=by unfold seqRepeat?;rw[seqSlot_of (T:= "tuple") (name:= "__mul__") (id:= "tuple.__mul__") F.slot_tuple_mul.lookup (by decide+kernel),seqSlot_of (T:= "tuple") (name:= "__rmul__") (id:= "tuple.__rmul__") F.slot_tuple_rmul.lookup (by decide+kernel)];rfl
theorem pQ (a:Int) (t:Tok) (l:L8) (items:Array L5) (n:Nat) (Oe:Option L8) (sl:Array (Option L5)):
  Meets (MU.«int.__rmul__» ⟨[.int a t,.ref l],[]⟩) (fun _ R s=>s.heap.get? l=some {cls:= .type "tuple",dict:=Oe,data:= .seq items n,slots:=sl}/\R (.ok (.ret L5.notImplemented)) s):=
 .of_wp fun prog w A R s h=>by obtain⟨hp,g,d,tk,os⟩:=s;obtain⟨hl,h⟩:=h;wp_walk;exact⟨_,rfl,h⟩
theorem wx (l:L8) (items:Array L5) (n:Nat) (Oe:Option L8) (sl:Array (Option L5)) (u:Tok):
  Meets (MU.«tuple.__mul__» ⟨[.ref l,.int 1 u],[]⟩) (fun _ R s=>s.heap.get? l=some {cls:= .type "tuple",dict:=Oe,data:= .seq items n,slots:=sl}/\R (.ok (.ret (L5.ref l))) s):=
 .of_wp fun prog w A R s h=>by
  obtain⟨hp,g,d,tk,os⟩:=s;obtain⟨hl,h⟩:=h
  wp_walk
  exact⟨_,rfl,h⟩
theorem wT (l:L8) (items:Array L5) (n:Nat) (Oe:Option L8) (sl:Array (Option L5)) (x:Int) (u:Tok) (h1:2<=x) (h2:x<=1000) (QR:items.isEmpty=false) (hz:items.size<=1000):
  Meets (MU.«tuple.__mul__» ⟨[.ref l,.int x u],[]⟩) (fun _ R s=>s.heap.get? l=some {cls:= .type "tuple",dict:=Oe,data:= .seq items n,slots:=sl}/\R (.ok (.ret (L5.ref s.heap.objs.size))) {s with heap:=s.heap.push {cls:=L5.type "tuple",data:=Um.seq (PH (fun x1 x2=>x1++x2) #[] (Me x.toNat items))},toks:=s.toks}):=
 .of_wp fun prog w A R s h=>by
  obtain⟨hp,g,d,tk,os⟩:=s;obtain⟨hl,h⟩:=h;have c1:¬(decide (x< -(2^63))||decide (x≥2^63))=true:=by simp;omega
  have c2:(x==1)=false:=by simp;omega
  have c3:decide (x<=0)=false:=by simp;omega
  have c0:(items.isEmpty||x==1)=false:=by rw[QR,c2];rfl
  have c4:(decide (x<=0)||items.isEmpty)=false:=by rw[QR,c3];rfl
  have hmul:(items.size:Int)*x<=1000000:=by have:(items.size:Int)*x<=1000*1000:=Int.mul_le_mul (by omega) h2 (by omega) (by omega);omega
  have c5:¬(items.size:Int)*x>(2^63 - 1)/8:=by omega
  have c6:¬Tuple.tupleTooMany ((items.size:Int)*x)=true:=by
   unfold Tuple.tupleTooMany;simp;have:(Mq:Nat)=16777216:=by decide
   omega
  wp_walk
  rw[if_neg c1]
  wp_walk using wpAny_loadPart' hl
  rw[if_neg c5];dsimp only;rw[if_neg c6];have hz2:(PH (fun x1 x2=>x1++x2) #[] (Me x.toNat items)).size<=Mq:=by
   have f0:∀(m:Nat) (b:Array L5),(PH (fun x1 x2=>x1++x2) b (Me m items)).size=b.size+m*items.size:=by
    intro m
    induction m with
    |zero=>intro b;simp
    |succ m ih=>intro b;rw[Na,Qp,ih,Array.size_append,Xj];omega
   rw[f0];have h3:x.toNat*items.size<=1000*1000:=So (by omega) hz;have:(Mq:Nat)=16777216:=by decide
   simp;omega
  wp_walk
  exact⟨_,rfl,h⟩
end PySem
namespace L3
open PySem PySem.Spec PyProof.Rows L2
def GX (K:Bn):R2:=fun x y H Q=>∃(a:L8) (k:Nat) (xs:List V),x= .ref a/\y= .int (k:Int)/\P4 K H a xs/\xs≠[]/\1<=k/\k<=1000/\xs.length<=1000/\
 (k=1->Q (.ref a) H)/\(2<=k->∀p,H p=none->Q (.ref p) (bA H p (.tup (Me k xs).flatten)))
theorem Es {X:Cx}:OpR X (NU .Mult) (GX X.K):=by
 intro pins s σ H x y v u Q I rx ry h;obtain⟨a,k,xs,rfl,rfl,hx,QR,h1,h2,hl,q1,q2⟩:=h;cases rx;obtain⟨t,rfl⟩:=ry;obtain⟨MY,r,ht,hz⟩:=I.tuple hx;obtain⟨⟨cls,dd,data,sl⟩,ho,hc,n,hd⟩:=id ht;simp only at hc hd;subst hc hd;have hlen:=r.length;refine Tv (T:= "tuple") (U:= "int") (by decide) ⟨_,ho,rfl⟩ (fun s'=>RD s' k t) nS F.fills_int_mul F.slot_int_rmul uw F.slot_int_index.lookup
  (QP F.slot_int_rmul (RD s k t) F.entry_int_rmul (F.args_int_rmul_2 _ _) (pQ k t a MY.toArray n dd sl) ⟨ho,rfl,⟨_,ho,rfl⟩,?_⟩)
 by_cases hk:k=1
 ·subst hk;exact QP F.slot_tuple_mul ⟨_,ho,rfl⟩ F.entry_tuple_mul (F.args_tuple_mul_2 _ _) (wx a MY.toArray n dd sl t) ⟨ho,⟨.ref a,H,I,rfl,q1 rfl⟩⟩
 ·refine QP F.slot_tuple_mul ⟨_,ho,rfl⟩ F.entry_tuple_mul (F.args_tuple_mul_2 _ _) (wT a MY.toArray n dd sl k t (by omega) (by omega) ?_ (by rw[Mo];omega)) ⟨ho,?_⟩
  ·cases MY with
   |nil=>cases r;exact absurd rfl QR
   |cons y ys=>rfl
  ·have f0:PH (fun x1 x2=>x1++x2) #[] (Me ((k:Nat):Int).toNat MY.toArray)=(Me k MY).flatten.toArray:=by
    have:=nw MY k [];rw[Od] at this;rw[ND];exact this
   rw[f0];refine⟨.ref s.heap.objs.size,_,I.laid (t':=s.toks) (o:= .tup (Me k xs).flatten) (fun b ob q=>Heap.get?_push_of_some _ q) (Mh _) ?_,rfl,q2 (by omega) _ (I.Nw.fresh (Mh _))⟩;refine⟨?_,_,r.rep k,Rt.new _ _⟩;rw[za];exact MQ (So h2 hl) (by decide)
def GK (K:Bn):R2:=fun x y H Q=>Bl K x y H Q\/GX K x y H Q
theorem uD {X:Cx}:OpR X (NU .Mult) (GK X.K):=OpR.or EU Es
noncomputable def eI:D->D->Option RV
 | .tuple xs,.int k=>if xs≠[]/\1<=k/\k<=1000/\xs.length<=1000 then some (.fz (.tuple (Me k.toNat xs).flatten)) else none
 |d,e=>Ab d e
theorem pZ {K:Bn}:l8 K (GK K) eI:=by
 intro O H x y dx dy rv Q n hx hy e q;unfold eI at e;split at e
 ·rename_i ds k
  split at e
  ·rename_i hc
   cases e;cases hy;obtain⟨a,xs,rfl,h1,h2⟩:=Cl hx;obtain⟨m,rfl⟩:∃m:Nat,k=(m:Int):=⟨k.toNat,by omega⟩;rw[ND] at q;refine .inr ⟨a,m,xs,rfl,rfl,h1.1,fun z=>hc.1 (h2.ne.mp z),by omega,by omega,by rw[h2.length];exact hc.2.2.2,fun e=> ?_,fun _=>Fin.Uy (h2.flat m) n q⟩;subst e;have e1:(Me 1 ds).flatten=ds:=by simp
   rw[e1] at q;exact q.at (.tup h1 h2)
  ·cases e
 ·exact .inl (Fd O H x y dx dy rv Q n hx hy e q)
end L3
namespace PySem
open Sem (wp)
open Builtin Builtin.Str
def itAt:Bool->Heap->L8->L8->Nat->Prop
 |true,h,it,a,i=>h.IsTupleIter it a i
 |false,h,it,a,i=>h.IsListIter it a i
def sqAt:Bool->Heap->L8->Array L5->Prop
 |true,h,a,xs=>h.IsTuple a xs
 |false,h,a,xs=>h.IsList a xs
noncomputable def wy:Bool->String
 |true=> "tuple_iterator"
 |false=> "list_iterator"
theorem itAt.ext {b:Bool} {h h':Heap} {it a c:L8} {i:Nat} (x:itAt b h it a i) (e:Heap.ExtBut c h h') (n:it≠c):itAt b h' it a i:=by
 cases b with
 |true=>exact Heap.IsTupleIter.extBut x e n
 |false=>exact Heap.IsListIter.extBut x e n
theorem itAt.to {b:Bool} {h h':Heap} {it a:L8} {i:Nat} (x:itAt b h it a i) (e:∀o,h.get? it=some o->h'.get? it=some o):itAt b h' it a i:=by
 cases b with
 |true=>exact Heap.IsTupleIter.at x e
 |false=>exact Heap.IsListIter.at x e
theorem itAt.live {b:Bool} {h:Heap} {it a:L8} {i:Nat} (x:itAt b h it a i):∃o,h.get? it=some o/\∀v,o.data≠ .cell v:=by
 cases b with
 |true=>obtain⟨o,ho,_,d⟩:=(show h.IsTupleIter it a i from x);exact⟨o,ho,fun v z=>by rw[d] at z;cases z⟩
 |false=>obtain⟨o,ho,_,d⟩:=(show h.IsListIter it a i from x);exact⟨o,ho,fun v z=>by rw[d] at z;cases z⟩
theorem sqAt.ext {b:Bool} {h h':Heap} {a c:L8} {xs:Array L5} (x:sqAt b h a xs) (e:Heap.ExtBut c h h') (n:a≠c):sqAt b h' a xs:=by
 cases b with
 |true=>exact Heap.IsTuple.extBut x e n
 |false=>exact Heap.IsList.extBut x e n
theorem sqAt.psh {b:Bool} {h:Heap} {a:L8} {xs:Array L5} (x:sqAt b h a xs) (o:Obj):sqAt b (h.push o) a xs:=by
 cases b with
 |true=>exact Heap.IsTuple.push x o
 |false=>exact Heap.IsList.push x o
theorem sqAt.lt {b:Bool} {h:Heap} {a:L8} {xs:Array L5} (x:sqAt b h a xs):a<h.objs.size:=by
 cases b with
 |true=>obtain⟨o,e,_⟩:=(show h.IsTuple a xs from x);exact Heap.lt_size e
 |false=>obtain⟨o,e,_⟩:=(show h.IsList a xs from x);exact Heap.lt_size e
section
variable {prog:My} {w:MS} {A:MO} {E:L5->Ma->Prop} {s:Ma}
theorem uV {b:Bool} {it l:L8} {i:Nat} {xs:Array L5} {x:L5} {Q:L5->Ma->Prop} (hi:itAt b s.heap it l i) (hl:sqAt b s.heap l xs) (hx:xs[i]? =some x)
  (q:∀h',itAt b h' it l (i+1)->Heap.SameBut it s.heap h'->Q x {s with heap:=h'}):wpAny (model prog w) A (SmallTypes.nextOf (.ref it)) Q E s:=by
 cases b with
 |true=>exact mq hi hl hx q
 |false=>exact wpAny_nextOf_list_item hi hl hx q
theorem zO {b:Bool} {it l:L8} {i:Nat} {xs:Array L5} {Q:L5->Ma->Prop} (hh:A.handled=none) (hi:itAt b s.heap it l i) (hl:sqAt b s.heap l xs) (hx:xs[i]? =none)
  (q:∀h' e,Heap.ExtBut it s.heap h'->(∃o,h'.get? e=some o/\o.cls= .type "StopIteration")->E (.ref e) {s with heap:=h'}):wpAny (model prog w) A (SmallTypes.nextOf (.ref it)) Q E s:=by
 cases b with
 |true=>exact nO hh hi hl hx q
 |false=>exact wpAny_nextOf_list_end hh hi hl hx q
theorem yA {b:Bool} {l:L8} {xs:Array L5} {Q:L5->Ma->Prop} (hl:sqAt b s.heap l xs)
  (q:Q (.ref s.heap.objs.size) {s with heap:=s.heap.push {cls:= .type (wy b),data:= .fields #[.ref l,.int 0 0]}}):wpAny (model prog w) A (pyIter (.ref l)) Q E s:=by
 cases b with
 |true=>exact QZ hl q
 |false=>exact OV hl q
theorem z9 {z TI TO i1 i2 l1 l2:L8} {b1 b2:Bool} {n:Nat} {xs ys:Array L5} {x y a b:L5} {Q:L5->Ma->Prop} (D:RU z TI TO i1 i2 l1 l2) (hz:Ql s.heap z TI TO .none)
  (Wr:IsPair s.heap TI (.ref i1) (.ref i2)) (V7:IsPair s.heap TO a b) (h1:itAt b1 s.heap i1 l1 n) (h2:itAt b2 s.heap i2 l2 n) (S1:sqAt b1 s.heap l1 xs) (Si:sqAt b2 s.heap l2 ys) (hx:xs[n]? =some x) (hy:ys[n]? =some y)
  (q:∀h',Ql h' z TI TO (rawInt s.heap.objs.size)->IsPair h' TO x y->itAt b1 h' i1 l1 (n+1)->itAt b2 h' i2 l2 (n+1)->IsPair h' s.heap.objs.size x y->h'.objs.size=s.heap.objs.size+1->
   (∀c o,c≠z->c≠TO->c≠i1->c≠i2->s.heap.get? c=some o->h'.get? c=some o)->Q (.ref s.heap.objs.size) {s with heap:=h'}):
  wpAny (model prog w) A (MU.«zip.__next__» ⟨[.ref z],[]⟩) (fun fin s'=>∃v,fin= .done (.ret v)/\Q v s') E s:=by
 show wpAny _ _ (field (.ref z) 2>>=_) _ _ _;refine L6 (Np hz rfl (x:= .bool false) rfl ?_);show wpAny _ _ (field (.ref z) 3>>=_) _ _ _;refine L6 (Np hz rfl (x:= .ref TI) rfl ?_);refine L6 (NK Wr rfl ?_);show wpAny _ _ (SmallTypes.ownedTupleIsFree (.ref z)>>=_) _ _ _;refine L6 ?_;unfold SmallTypes.ownedTupleIsFree;refine L6 (Np hz rfl (x:= .none) rfl (Mi ?_));simp only[if_true];refine L6 (RF ?_);refine L6 (Np hz rfl (x:= .ref TO) rfl ?_);refine L6 (Om hz (by simp) fun k₁ YO e₁=> ?_);have Vc:Ql k₁ z TI TO .ellipsis:=YO;clear YO;refine L6 ?_;simp only[UZ,U8,RM,Sd];refine L6 (L6 (Rx ?_));show wpAny _ _ (SmallTypes.nextOf (.ref i1)>>=_) _ _ _;refine L6 (uV (h1.ext e₁.extBut D.i1z) (S1.ext e₁.extBut D.l1z) hx fun k₂ g₂ e₂=>Mi ?_);have o₂:IsPair k₂ TO a b:=e₂.extBut _ _ D.TOi1 (e₁.extBut _ _ D.TOz V7);refine L6 (NK o₂ rfl ?_);refine L6 (Q9 o₂ fun k₃ o₃ e₃=> ?_);have o₃':IsPair k₃ TO x b:=o₃;clear o₃;refine L6 (Py (Mi ?_));refine L6 (L6 (Rx ?_));show wpAny _ _ (SmallTypes.nextOf (.ref i2)>>=_) _ _ _;refine L6 (uV (((h2.ext e₁.extBut D.i2z).ext e₂.extBut D.i12.symm).ext e₃.extBut D.TOi2.symm) (((Si.ext e₁.extBut D.l2z).ext e₂.extBut D.l2i1).ext e₃.extBut D.l2TO) hy fun k₄ g₄ e₄=>Mi ?_);have o₄:IsPair k₄ TO x b:=e₄.extBut _ _ D.TOi2 o₃';refine L6 (NK o₄ rfl ?_);refine L6 (Q9 o₄ fun k₅ o₅ e₅=> ?_);have o₅':IsPair k₅ TO x y:=o₅;clear o₅;refine L6 (Py (Mi (Mi ?_)));refine L6 (NK o₅' rfl ?_);refine L6 (wpAny_newTuple ?_);have hsz:k₅.objs.size=s.heap.objs.size:=by rw[e₅.1,e₄.1,e₃.1,e₂.1,e₁.1]
 have z₅:Ql k₅ z TI TO .ellipsis:=e₅.extBut _ _ D.TOz.symm (e₄.extBut _ _ D.i2z.symm (e₃.extBut _ _ D.TOz.symm (e₂.extBut _ _ D.i1z.symm Vc)));have kp:∀c o,c≠z->c≠TO->c≠i1->c≠i2->s.heap.get? c=some o->k₅.get? c=some o:=fun c o c1 c2 c3 c4 e=>
  e₅.extBut _ _ c2 (e₄.extBut _ _ c4 (e₃.extBut _ _ c2 (e₂.extBut _ _ c3 (e₁.extBut _ _ c1 e))))
 have u₁:itAt b1 k₅ i1 l1 (n+1):=((g₂.ext e₃.extBut D.TOi1.symm).ext e₄.extBut D.i12).ext e₅.extBut D.TOi1.symm;have u₂:itAt b2 k₅ i2 l2 (n+1):=g₄.ext e₅.extBut D.TOi2.symm;have Pw:z<k₅.objs.size:=Heap.lt_size z₅;show wpAny _ _ (SmallTypes.ownedTupleHandOut (.ref z) (.ref k₅.objs.size)>>=_) _ _ _;refine L6 ?_;unfold SmallTypes.ownedTupleHandOut;have z₆:Ql (k₅.push {cls:= .type "tuple",data:= .seq #[x,y]}) z TI TO .ellipsis:=Heap.get?_push_of_some _ z₅;refine L6 (Om z₆ (by simp) fun k₇ z₇ e₇=> ?_);have z₇':Ql k₇ z TI TO (rawInt k₅.objs.size):=z₇;refine Om z₇' (by simp) fun k₈ z₈ e₈=> ?_;have z₈':Ql k₈ z TI TO (rawInt k₅.objs.size):=z₈;have up:∀c o,c≠z->k₅.get? c=some o->k₈.get? c=some o:=fun c o c1 e=>e₈.extBut _ _ c1 (e₇.extBut _ _ c1 (Heap.get?_push_of_some _ e));have t₈:IsPair k₈ k₅.objs.size x y:=e₈.extBut _ _ (Ny Pw) (e₇.extBut _ _ (Ny Pw) (Heap.get?_push_size _ rfl));have n₈:k₈.objs.size=k₅.objs.size+1:=by rw[e₈.1,e₇.1,Heap.size_push]
 rw[hsz] at z₈' t₈ n₈;refine Mi ⟨_,rfl,?_⟩;show Q (.ref k₅.objs.size) _;rw[hsz];exact q k₈ z₈' (up _ _ D.TOz o₅') (u₁.to fun o e=>up _ o D.i1z e) (u₂.to fun o e=>up _ o D.i2z e) t₈ n₈ fun c o c1 c2 c3 c4 e=>up c o c1 (kp c o c1 c2 c3 c4 e)
theorem BB {z TI TO i1 i2 l1 l2:L8} {b1 b2:Bool} {n:Nat} {xs ys:Array L5} {a b:L5} {Q:Fin->Ma->Prop} (hh:A.handled=none) (D:RU z TI TO i1 i2 l1 l2) (hz:Ql s.heap z TI TO .none)
  (Wr:IsPair s.heap TI (.ref i1) (.ref i2)) (V7:IsPair s.heap TO a b) (h1:itAt b1 s.heap i1 l1 n) (h2:itAt b2 s.heap i2 l2 n) (S1:sqAt b1 s.heap l1 xs) (Si:sqAt b2 s.heap l2 ys) (Wk:xs[n]? =none\/ys[n]? =none)
  (q:∀h' e,(∀c o,c≠z->c≠TO->c≠i1->c≠i2->s.heap.get? c=some o->h'.get? c=some o)->(∃o,h'.get? e=some o/\o.cls= .type "StopIteration")->E (.ref e) {s with heap:=h'}):
  wpAny (model prog w) A (MU.«zip.__next__» ⟨[.ref z],[]⟩) Q E s:=by
 show wpAny _ _ (field (.ref z) 2>>=_) _ _ _;refine L6 (Np hz rfl (x:= .bool false) rfl ?_);show wpAny _ _ (field (.ref z) 3>>=_) _ _ _;refine L6 (Np hz rfl (x:= .ref TI) rfl ?_);refine L6 (NK Wr rfl ?_);show wpAny _ _ (SmallTypes.ownedTupleIsFree (.ref z)>>=_) _ _ _;refine L6 ?_;unfold SmallTypes.ownedTupleIsFree;refine L6 (Np hz rfl (x:= .none) rfl (Mi ?_));simp only[if_true];refine L6 (RF ?_);refine L6 (Np hz rfl (x:= .ref TO) rfl ?_);refine L6 (Om hz (by simp) fun k₁ YO e₁=> ?_);have Vc:Ql k₁ z TI TO .ellipsis:=YO;refine L6 ?_;simp only[UZ,U8,RM,Sd];refine L6 (L6 (Rx ?_));show wpAny _ _ (SmallTypes.nextOf (.ref i1)>>=_) _ _ _;cases hx:xs[n]? with
 |none=>
  refine L6 (zO hh (h1.ext e₁.extBut D.i1z) (S1.ext e₁.extBut D.l1z) hx fun k₂ e e₂ he=> ?_);obtain⟨oe,Wf,Yg⟩:=he;have z₂:Ql k₂ z TI TO .ellipsis:=e₂ _ _ D.i1z.symm Vc;have ne:e≠z:=fun t=>by subst t;rw[z₂] at Wf;cases Wf;simp at Yg
  exact Om z₂ (by simp) fun k₃ _ e₃=>q k₃ e (fun c o c1 _ c3 _ t=>e₃.extBut _ _ c1 (e₂ _ _ c3 (e₁.extBut _ _ c1 t))) ⟨oe,e₃.extBut _ _ ne Wf,Yg⟩
 |some x=>
  have hy:ys[n]? =none:=by
   rcases Wk with t|t
   ·rw[hx] at t;cases t
   ·exact t
  refine L6 (uV (h1.ext e₁.extBut D.i1z) (S1.ext e₁.extBut D.l1z) hx fun k₂ g₂ e₂=>Mi ?_);have o₂:IsPair k₂ TO a b:=e₂.extBut _ _ D.TOi1 (e₁.extBut _ _ D.TOz V7);refine L6 (NK o₂ rfl ?_);refine L6 (Q9 o₂ fun k₃ o₃ e₃=> ?_);refine L6 (Py (Mi ?_));refine L6 (L6 (Rx ?_));show wpAny _ _ (SmallTypes.nextOf (.ref i2)>>=_) _ _ _;refine L6 (zO hh (((h2.ext e₁.extBut D.i2z).ext e₂.extBut D.i12.symm).ext e₃.extBut D.TOi2.symm) (((Si.ext e₁.extBut D.l2z).ext e₂.extBut D.l2i1).ext e₃.extBut D.l2TO) hy fun k₄ e e₄ he=> ?_);obtain⟨oe,Wf,Yg⟩:=he;have z₄:Ql k₄ z TI TO .ellipsis:=e₄ _ _ D.i2z.symm (e₃.extBut _ _ D.TOz.symm (e₂.extBut _ _ D.i1z.symm Vc));have ne:e≠z:=fun t=>by subst t;rw[z₄] at Wf;cases Wf;simp at Yg
  exact Om z₄ (by simp) fun k₅ _ e₅=>q k₅ e (fun c o c1 c2 c3 c4 t=>e₅.extBut _ _ c1 (e₄ _ _ c4 (e₃.extBut _ _ c2 (e₂.extBut _ _ c3 (e₁.extBut _ _ c1 t))))) ⟨oe,e₅.extBut _ _ ne Wf,Yg⟩
end
section
variable {prog:My} {w:MS} {A:MO} {E:L5->Ma->Prop} {s:Ma}
theorem vO {z TI TO i1 i2 l1 l2:L8} {b1 b2:Bool} {n:Nat} {xs ys:Array L5} {x y a b:L5} {Q:Option L5->Ma->Prop} (D:RU z TI TO i1 i2 l1 l2) (hz:Ql s.heap z TI TO .none)
  (Wr:IsPair s.heap TI (.ref i1) (.ref i2)) (V7:IsPair s.heap TO a b) (h1:itAt b1 s.heap i1 l1 n) (h2:itAt b2 s.heap i2 l2 n) (S1:sqAt b1 s.heap l1 xs) (Si:sqAt b2 s.heap l2 ys) (hx:xs[n]? =some x) (hy:ys[n]? =some y)
  (q:∀h',Ql h' z TI TO (rawInt s.heap.objs.size)->IsPair h' TO x y->itAt b1 h' i1 l1 (n+1)->itAt b2 h' i2 l2 (n+1)->IsPair h' s.heap.objs.size x y->h'.objs.size=s.heap.objs.size+1->
   (∀c o,c≠z->c≠TO->c≠i1->c≠i2->s.heap.get? c=some o->h'.get? c=some o)->Q (some (.ref s.heap.objs.size)) {s with heap:=h'}):
  wpAny (model prog w) A (pyNext (.ref z)) Q E s:=by
 have hT:s.TypeIs (.ref z) "zip":=⟨_,hz,rfl⟩;unfold pyNext;refine L6 (aaY (Ob (name:=Str.ofString "__next__") hT F.slot_zip_next ?_));exact Oc F.slot_zip_next hT F.entry_zip_next (z9 D hz Wr V7 h1 h2 S1 Si hx hy fun h' a1 a2 a3 a4 a5 a6 a7=>Mi (q h' a1 a2 a3 a4 a5 a6 a7)) (F.args_zip_next_1 _)
theorem vK {z TI TO i1 i2 l1 l2:L8} {b1 b2:Bool} {n:Nat} {xs ys:Array L5} {a b:L5} {Q:Option L5->Ma->Prop} (hh:A.handled=none) (D:RU z TI TO i1 i2 l1 l2) (hz:Ql s.heap z TI TO .none)
  (Wr:IsPair s.heap TI (.ref i1) (.ref i2)) (V7:IsPair s.heap TO a b) (h1:itAt b1 s.heap i1 l1 n) (h2:itAt b2 s.heap i2 l2 n) (S1:sqAt b1 s.heap l1 xs) (Si:sqAt b2 s.heap l2 ys) (Wk:xs[n]? =none\/ys[n]? =none)
  (q:∀h',(∀c o,c≠z->c≠TO->c≠i1->c≠i2->s.heap.get? c=some o->h'.get? c=some o)->Q none {s with heap:=h'}):wpAny (model prog w) A (pyNext (.ref z)) Q E s:=by
 have hT:s.TypeIs (.ref z) "zip":=⟨_,hz,rfl⟩;unfold pyNext;refine L6 (aaY (Ob (name:=Str.ofString "__next__") hT F.slot_zip_next ?_));refine Oc F.slot_zip_next hT F.entry_zip_next (BB hh D hz Wr V7 h1 h2 S1 Si Wk fun h' e hk he=> ?_) (F.args_zip_next_1 _);obtain⟨o,ho,hc⟩:=he;exact L6 (Xl (T:= "StopIteration") (b:=true) ⟨o,ho,hc⟩ isSubtype_stop (Mi (q _ hk)))
end
noncomputable abbrev JC (h:Heap) (b1:Bool) (l1:L8):Heap:=h.push {cls:= .type (wy b1),data:= .fields #[.ref l1,.int 0 0]}
noncomputable abbrev JD (h:Heap) (b1 b2:Bool) (l1 l2:L8):Heap:=(JC h b1 l1).push {cls:= .type (wy b2),data:= .fields #[.ref l2,.int 0 0]}
noncomputable abbrev JF (h:Heap) (b1 b2:Bool) (l1 l2:L8):Heap:=(JD h b1 b2 l1 l2).push {cls:= .type "tuple",data:= .seq #[.ref h.objs.size,.ref (JC h b1 l1).objs.size]}
noncomputable abbrev JB (h:Heap) (b1 b2:Bool) (l1 l2:L8):Heap:=(JF h b1 b2 l1 l2).push {cls:= .type "tuple",data:= .seq #[.none,.none]}
noncomputable abbrev Hv (h:Heap) (b1 b2:Bool) (l1 l2:L8):Heap:=(JB h b1 b2 l1 l2).push {cls:= .type "zip",data:= .fields #[.none,.bool false,.bool false,.ref (JD h b1 b2 l1 l2).objs.size,.ref (JF h b1 b2 l1 l2).objs.size]}
theorem ri (b1 b2:Bool) (l1 l2:L8) (xs ys:Array L5):
  Meets (MU.«zip.__new__» ⟨[.type "zip",.ref l1,.ref l2],[]⟩) (fun _ R s=>sqAt b1 s.heap l1 xs/\sqAt b2 s.heap l2 ys/\R (.ok (.ret (.ref (JB s.heap b1 b2 l1 l2).objs.size))) {s with heap:=Hv s.heap b1 b2 l1 l2}):=
 .of_wp fun prog w A R s h=>by
  obtain⟨hp,g,d,tk,os⟩:=s;obtain⟨S1,Si,h⟩:=h;have acF:=sub_zip;have hL1:sqAt b1 (Ma.heap ⟨hp,g,d,tk,os⟩) l1 xs:=S1;have hL2:sqAt b2 (Ma.heap ⟨hp.push {cls:= .type (wy b1),data:= .fields #[.ref l1,.int 0 0]},g,d,tk,os⟩) l2 ys:=sqAt.psh Si _
  wp_walk using yA hL1,yA hL2
  exact⟨_,rfl,h⟩
section
variable {prog:My} {w:MS} {A:MO} {E:L5->Ma->Prop} {s:Ma}
theorem A3 {b:Bool} {h:Heap} {it l:L8} (e:h.get? it=some {cls:= .type (wy b),data:= .fields #[.ref l,.int 0 0]}):itAt b h it l 0:=by
 cases b with
 |true=>exact⟨_,e,rfl,rfl⟩
 |false=>exact⟨_,e,rfl,rfl⟩
theorem Au {b1 b2:Bool} {l1 l2:L8} {xs ys:Array L5} {Q:L5->Ma->Prop} (S1:sqAt b1 s.heap l1 xs) (Si:sqAt b2 s.heap l2 ys)
  (q:∀h',Ql h' (s.heap.objs.size+4) (s.heap.objs.size+2) (s.heap.objs.size+3) .none->IsPair h' (s.heap.objs.size+2) (.ref s.heap.objs.size) (.ref (s.heap.objs.size+1))->
   IsPair h' (s.heap.objs.size+3) .none .none->itAt b1 h' s.heap.objs.size l1 0->itAt b2 h' (s.heap.objs.size+1) l2 0->(∀c o,s.heap.get? c=some o->h'.get? c=some o)->Q (.ref (s.heap.objs.size+4)) {s with heap:=h'}):
  wpAny (model prog w) A (call (.type "zip") [.ref l1,.ref l2]) Q E s:=by
 refine callType_new F.called_zip (by decide) (F.typeCall_zip_2 _ _) (F.newCall_zip_2 _ _) (fun obj=>F.args_object_init_3 obj _ _) F.entry_zip_new (ri b1 b2 l1 l2 xs ys) ⟨S1,Si,?_⟩;have n1:(JC s.heap b1 l1).objs.size=s.heap.objs.size+1:=Heap.size_push ..;have n2:(JD s.heap b1 b2 l1 l2).objs.size=s.heap.objs.size+2:=by rw[Heap.size_push,n1]
 have n3:(JF s.heap b1 b2 l1 l2).objs.size=s.heap.objs.size+3:=by rw[Heap.size_push,n2]
 have n4:(JB s.heap b1 b2 l1 l2).objs.size=s.heap.objs.size+4:=by rw[Heap.size_push,n3]
 have u1:∀c o,s.heap.get? c=some o->(JC s.heap b1 l1).get? c=some o:=fun c o e=>Heap.get?_push_of_some _ e;have u2:∀c o,(JC s.heap b1 l1).get? c=some o->(JD s.heap b1 b2 l1 l2).get? c=some o:=fun c o e=>Heap.get?_push_of_some _ e;have u3:∀c o,(JD s.heap b1 b2 l1 l2).get? c=some o->(JF s.heap b1 b2 l1 l2).get? c=some o:=fun c o e=>Heap.get?_push_of_some _ e;have u4:∀c o,(JF s.heap b1 b2 l1 l2).get? c=some o->(JB s.heap b1 b2 l1 l2).get? c=some o:=fun c o e=>Heap.get?_push_of_some _ e;have u5:∀c o,(JB s.heap b1 b2 l1 l2).get? c=some o->(Hv s.heap b1 b2 l1 l2).get? c=some o:=fun c o e=>Heap.get?_push_of_some _ e;have g5:(Hv s.heap b1 b2 l1 l2).get? (JB s.heap b1 b2 l1 l2).objs.size=some _:=Heap.get?_push_size _ rfl;have g4:(Hv s.heap b1 b2 l1 l2).get? (JF s.heap b1 b2 l1 l2).objs.size=some _:=u5 _ _ (Heap.get?_push_size _ rfl);have g3:(Hv s.heap b1 b2 l1 l2).get? (JD s.heap b1 b2 l1 l2).objs.size=some _:=u5 _ _ (u4 _ _ (Heap.get?_push_size _ rfl));have g2:(Hv s.heap b1 b2 l1 l2).get? (JC s.heap b1 l1).objs.size=some _:=u5 _ _ (u4 _ _ (u3 _ _ (Heap.get?_push_size _ rfl)));have g1:(Hv s.heap b1 b2 l1 l2).get? s.heap.objs.size=some _:=u5 _ _ (u4 _ _ (u3 _ _ (u2 _ _ (Heap.get?_push_size _ rfl))));show _/\_;rw[n2,n3,n4] at g5;rw[n1,n2] at g3;rw[n3] at g4;rw[n1] at g2;rw[n4];exact⟨⟨_,g5,rfl⟩,q _ g5 g3 g4 (A3 g1) (A3 g2) fun c o e=>u5 _ _ (u4 _ _ (u3 _ _ (u2 _ _ (u1 _ _ e))))⟩
end
end PySem
namespace L3
open PySem PySem.Spec PyProof.Rows L2
def AW (b:Bool) (K:Bn) (H:Hp) (a:L8) (xs:List V):Prop:=match b with
 |true=>P4 K H a xs
 |false=>PU K H a xs
noncomputable def Lx (K:Bn) (b1 b2:Bool) (a c:L8):It:=
 ⟨fun i H=>∃xs ys x y,AW b1 K H a xs/\AW b2 K H c ys/\xs[i]? =some x/\ys[i]? =some y,
  fun i H v H'=>∃p x y,H p=none/\v= .ref p/\(∀xs,AW b1 K H a xs->xs[i]? =some x)/\(∀ys,AW b2 K H c ys->ys[i]? =some y)/\H'=bA H p (.tup [x,y]),
  fun i H=>∃xs ys,AW b1 K H a xs/\AW b2 K H c ys/\(xs.length<=i\/ys.length<=i)⟩
theorem Gk {X:Cx} {pins:List (L8×Obj)} {σ:L2.St} {H:Hp} {s:Ma} {a:L8} {xs ys:List V} (I:Inv X pins σ H s) (h1:PU X.K H a xs) (h2:PU X.K H a ys):xs=ys:=by
 obtain⟨MY,r1,⟨o,k,e1,_,n,d1⟩,_⟩:=I.list h1;obtain⟨Sv,r2,⟨o2,k2,e2,_,n2,d2⟩,_⟩:=I.list h2;rw[e1] at e2;cases e2;have:MY=Sv:=by
  have q:MY.toArray=Sv.toArray:=by injection d1.symm.trans d2
  simpa using q
 subst this;exact r1.inj r2
theorem nz {X:Cx} {pins:List (L8×Obj)} {σ:L2.St} {H:Hp} {s:Ma} {b:Bool} {a:L8} {xs:List V} (I:Inv X pins σ H s) (h:AW b X.K H a xs):∃MY,Vals xs MY/\sqAt b s.heap a MY.toArray:=by
 cases b with
 |true=>obtain⟨MY,rv,p,hz⟩:=I.tuple h;exact⟨MY,rv,p⟩
 |false=>obtain⟨MY,rv,p,hz⟩:=I.list h;exact⟨MY,rv,p.isList⟩
theorem zg {X:Cx} {pins:List (L8×Obj)} {σ:L2.St} {H:Hp} {s:Ma} {b:Bool} {a:L8} {xs ys:List V} (I:Inv X pins σ H s) (h1:AW b X.K H a xs) (h2:AW b X.K H a ys):xs=ys:=by
 cases b with
 |true=>exact Gd I h1 h2
 |false=>exact Gk I h1 h2
theorem AL {X:Cx} {pins:List (L8×Obj)} {σ:L2.St} {H:Hp} {s:Ma} {h':Heap} {t':Nat} {ch:List L8} (I:Inv X pins σ H s) (hf:∀b∈ch,nV X pins H b)
  (k:∀b u,b∉ch->s.heap.get? b=some u->h'.get? b=some u):Inv X pins σ H {s with heap:=h',toks:=t'}:=by
 have Uw:∀b u,H b=some u->b∉ch:=fun b u e z=>by rw[(hf b z).1] at e;cases e
 refine I.step (g':=s.gens) (d':=s.drawn) (ch:=ch) (fun b hb=> ?_) (fun b u _ _ hc e _=>k b u hc e) (fun b u _ _ hc e _=>⟨u.slots,k b u hc e⟩) (fun _ _ _ _ n=>n)
  (fun b u hc e=>⟨u,k b u hc e⟩) (fun _ _ e=>e) (fun _ _ _ e=>e) (fun b ps e=>⟨#[],by rw[e];simp⟩) (fun m hm=> ?_) (fun b u e=> ?_) I.bare
 ·obtain⟨_,h2,_,h4,h5,h6⟩:=hf b hb;exact⟨h4,h2,h5,h6⟩
 ·obtain⟨ob,es,ep,ho,r⟩:=hm;exact⟨ob,es,ep,k _ ob (fun z=>(hf _ z).2.1 rfl) ho,r⟩
 ·refine(I.Nw b u e).To (fun c v hc q=>k c v ?_ q) (fun _ q=>q) fun _ _ q=>q
  rcases hc with z|z
  ·rw[z];exact Uw b u e
  ·exact Uw c _ z
theorem Br {P:My} {w:MS} {K:Bn} {elts:List MR} {kk} {tp:Pos} (b1 b2:Bool) (z TI TO i1 i2 l1 l2:L8) (D:RU z TI TO i1 i2 l1 l2):
  Turn P w K (.Tuple elts kk tp) (Lx K b1 b2 l1 l2) [z,TI,TO,i1,i2] z (fun i h=>Ql h z TI TO .none/\IsPair h TI (.ref i1) (.ref i2)/\(∃a b,IsPair h TO a b)/\itAt b1 h i1 l1 i/\itAt b2 h i2 l2 i) where
 mem:=by simp
 obj:=fun i h st b hb=>by
  obtain⟨hz,hI,⟨a,c,hO⟩,h1,h2⟩:=st;simp only[MH,Nu,or_false] at hb;rcases hb with rfl|rfl|rfl|rfl|rfl
  ·exact⟨_,hz,fun v q=>by cases(show Um.fields _=Um.cell v from q)⟩
  ·exact⟨_,hI,fun v q=>by cases(show Um.seq _ _=Um.cell v from q)⟩
  ·exact⟨_,hO,fun v q=>by cases(show Um.seq _ _=Um.cell v from q)⟩
  ·exact h1.live
  ·exact h2.live
 keep:=fun i h h' st k=>by obtain⟨hz,hI,⟨a,c,hO⟩,h1,h2⟩:=st;exact⟨k z (by simp) _ hz,k TI (by simp) _ hI,⟨a,c,k TO (by simp) _ hO⟩,h1.to fun o q=>k i1 (by simp) o q,h2.to fun o q=>k i2 (by simp) o q⟩
 item:=by
  intro X hP hw hK hc i pins s σ H E I hf st hg;subst hP hw hK;obtain⟨hz,hI,⟨a,c,hO⟩,h1,h2⟩:=st;obtain⟨xs,ys,x,y,sx,sy,hx,hy⟩:=hg;obtain⟨MY,rx,px⟩:=nz I sx;obtain⟨jts,ry,py⟩:=nz I sy;obtain⟨u,hu,ru⟩:=rx.get hx;obtain⟨t,ht,rt⟩:=ry.get hy;refine vO (x:=u) (y:=t) D hz hI hO h1 h2 px py (by simpa using hu) (by simpa using ht) fun k z1 o1 g1 g2 pr sz kp=>⟨_,rfl,?_⟩;refine wpAny_letOwnedTupleGo_zip (s:={s with heap:=k}) z1 fun Vh z2 e2=> ?_;have hzl:z<s.heap.objs.size:=Heap.lt_size hz;have hIl:TI<s.heap.objs.size:=Heap.lt_size hI;have hOl:TO<s.heap.objs.size:=Heap.lt_size hO;have h1l:i1<s.heap.objs.size:=by obtain⟨_,q,_⟩:=h1.live;exact Heap.lt_size q
  have h2l:i2<s.heap.objs.size:=by obtain⟨_,q,_⟩:=h2.live;exact Heap.lt_size q
  have hn:H s.heap.objs.size=none:=I.Nw.fresh (Mh _);have kk:∀b o,b∉[z,TI,TO,i1,i2]->s.heap.get? b=some o->Vh.get? b=some o:=fun b o hb q=>by simp only[MH,Nu,or_false,not_or] at hb;exact(e2.2 b hb.1).trans (kp b o hb.1 hb.2.2.1 hb.2.2.2.1 hb.2.2.2.2 q)
  have hT2:Vh.get? s.heap.objs.size=some {cls:= .type "tuple",data:= .seq #[u,t]}:=(e2.2 _ (Ny hzl)).trans pr
  have I2:Inv X pins σ (bA H s.heap.objs.size (.tup [x,y])) {s with heap:=Vh}:=
   I.Te (t':=s.toks) (ch:=[z,TI,TO,i1,i2]) hf kk (Mh _) ⟨by show 2<=Mq;decide,[u,t],.cons ru (.cons rt .nil),⟨_,hT2,⟨rfl,_,rfl⟩,rfl⟩⟩
  have YE:∀b o,b≠z->k.get? b=some o->Vh.get? b=some o:=fun b o n q=>(e2.2 b n).trans q;refine⟨.ref s.heap.objs.size,_,I2,rfl,⟨_,x,y,hn,rfl,fun zs hs=>by rw[zg I hs sx];exact hx,fun zs hs=>by rw[zg I hs sy];exact hy,rfl⟩,
   ⟨z2,YE _ _ D.TIz (kp _ _ D.TIz D.TITO D.TIi1 D.TIi2 hI),⟨_,_,YE _ _ D.TOz o1⟩,g1.to fun o q=>YE _ _ D.i1z q,g2.to fun o q=>YE _ _ D.i2z q⟩,fun b hb=> ?_⟩
  have YI:b<s.heap.objs.size:=by simp only[MH,Nu,or_false] at hb;rcases hb with rfl|rfl|rfl|rfl|rfl<;>assumption
  rw[aO (MD YI)];exact(hf b hb).1
 done:=by
  intro X hP hw hK hc i pins s σ H E I hf st hg;subst hP hw hK;obtain⟨hz,hI,⟨a,c,hO⟩,h1,h2⟩:=st;obtain⟨xs,ys,sx,sy,YG⟩:=hg;obtain⟨MY,rx,px⟩:=nz I sx;obtain⟨jts,ry,py⟩:=nz I sy;have S1:=rx.length;have Si:=ry.length;have hd:MY.toArray[i]? =none\/jts.toArray[i]? =none:=by
   rcases YG with q|q
   ·exact .inl (by simp;omega)
   ·exact .inr (by simp;omega)
  refine vK (I.ok.hd hc) D hz hI hO h1 h2 px py hd fun k kp=>⟨rfl,?_⟩;exact AL I (t':=s.toks) (ch:=[z,TI,TO,i1,i2]) hf fun b o hb q=>by simp only[MH,Nu,or_false,not_or] at hb;exact kp b o hb.1 hb.2.2.1 hb.2.2.2.1 hb.2.2.2.2 q
 self:=fun _ _ _ _ _ st h=>Xm st.1 h
theorem Al (n l1 l2:Nat) (h1:l1<n) (h2:l2<n):RU (n+4) (n+2) (n+3) n (n+1) l1 l2:=by constructor<;>(show(_:Nat)≠_;omega)
def GR (K:Bn) (ta:TA):TI:=fun σ H R=>ta σ H fun vs H1=>∃a c b1 b2,vs=[.ref a,.ref c]/\(∃xs,AW b1 K H1 a xs)/\(∃ys,AW b2 K H1 c ys)/\R (Lx K b1 b2 a c) H1
theorem CA:M6 "zip"=some (.type "zip"):=by decide+kernel
theorem HR {X:Cx} {l m:MR} {ta:TA} {p pos tp:Pos} {elts:List MR} {kk} (hg:Gl X "zip") (hm:X.mg "zip"=none) (ha:PA X [l,m] ta) (hs:ML [l,m] X.env=(false,eval l X.env)::ML [m] X.env:=by rfl) (hp:(backTo pos (ML [m] X.env)).any (·.1)=false:=by rfl):
  PI X (.Tuple elts kk tp) (.Call (.Name "zip" p) [l,m] [] pos) (GR X.K ta):=by
 intro pins s σ H R I h;refine Call_ (on I hg hm CA (Pa (c8 (ha pos pins s σ H _ I h) fun us s1 ⟨vs,H1,I1,r1,q1⟩=> ?_) hs hp));obtain⟨a,c,b1,b2,e,⟨xs,sx⟩,⟨ys,sy⟩,q⟩:=q1;subst e;obtain⟨u,t,rfl,ru,rt⟩:=Dv r1;cases ru;cases rt;obtain⟨MY,rx,px⟩:=nz I1 sx;obtain⟨jts,ry,py⟩:=nz I1 sy;have fp:∀b∈[s1.heap.objs.size+4,s1.heap.objs.size+2,s1.heap.objs.size+3,s1.heap.objs.size,s1.heap.objs.size+1],nV X pins H1 b:=fun b hb=>by
  have YI:s1.heap.objs.size<=b:=by simp only[MH,Nu,or_false] at hb;have hb':(b:Nat)=s1.heap.objs.size+4\/(b:Nat)=s1.heap.objs.size+2\/(b:Nat)=s1.heap.objs.size+3\/(b:Nat)=s1.heap.objs.size\/(b:Nat)=s1.heap.objs.size+1:=hb;show(s1.heap.objs.size:Nat)<=b;omega
  exact I1.Tf YI (I1.Nw.fresh YI)
 refine Au px py fun h1 z1 p1 p2 t1 t2 hk=> ?_;refine Xm (s:={s1 with heap:=h1}) z1 ?_;exact⟨s1.heap.objs.size+4,_,_,_,H1,rfl,I1.kept (t':=s1.toks) hk,Br b1 b2 _ _ _ _ _ a c (Al _ _ _ px.lt py.lt),⟨z1,p1,⟨_,_,p2⟩,t1,t2⟩,fp,q⟩
noncomputable def KL:MR->Bool
 | .Starred _ _=>true
 |_=>false
theorem sM (e:MR) (es:List MR) (env:Env) (h:KL e=false):ML (e::es) env=(false,eval e env)::ML es env:=by cases e<;>first|rfl|cases h
noncomputable def l4:List D->List D->List D
 |x::r,y::q=> .tuple [x,y]::l4 r q
 |_,_=>[]
theorem vq:∀(xs ys:List D),(l4 xs ys).length=min xs.length ys.length
 |[],_=>by simp[l4]
 |_::_,[]=>by simp[l4]
 |_::r,_::q=>by simp only[l4,Mm,vq r q];omega
theorem v7:∀(xs ys:List D) (i:Nat),(l4 xs ys)[i]? =(xs[i]?).bind fun x=>(ys[i]?).map fun y=> .tuple [x,y]
 |[],_,_=>by simp[l4]
 |x::r,[],i=>by cases i<;>simp[l4]
 |x::r,y::q,0=>by simp[l4]
 |x::r,y::q,i+1=>by simp only[l4,Qe];exact v7 r q i
section
variable {K:Bn} {E:XK} {B O O':ci} {H0 H H':Hp} {σ:L2.St} {ρ ρ':aK} {v:V}
def S3 (b:Bool) (O:ci) (K:Bn) (H:Hp) (a:L8) (xs:List V):Prop:=match b with
 |true=>Qj O K H a xs
 |false=>Ru O K H a xs
theorem S3.ev {b:Bool} {a:L8} {xs:List V} (h:S3 b O K H a xs) (e:Ev O H O' H'):S3 b O' K H' a xs:=by
 cases b with
 |true=>exact Qj.ev h e
 |false=>exact Ru.ev h e
theorem S3.at {b:Bool} {a:L8} {xs:List V} (h:S3 b O K H a xs):AW b K H a xs:=by
 cases b with
 |true=>exact(show Qj O K H a xs from h).1
 |false=>exact(show Ru O K H a xs from h).1.sq
theorem Jg {b1 b2:Bool} {a c:L8} {xs ys:List V} {ds es:List D} (h:S3 b1 O K H a xs) (hd:Nz O K H xs ds) (g:S3 b2 O K H c ys) (gd:Nz O K H ys es):wC K (Lx K b1 b2 a c) O H (l4 ds es):=by
 intro O' H' e n;have h':=h.ev e;have T5:=hd.ev e;have g':=g.ev e;have gd':=gd.ev e;rw[vq];refine⟨fun i hi=> ?_,⟨xs,ys,h'.at,g'.at,?_⟩⟩
 ·have i1:i<ds.length:=by omega
  have i2:i<es.length:=by omega
  obtain⟨x,hx,dx⟩:=T5.get (Mf i1);obtain⟨y,hy,dy⟩:=gd'.get (Mf i2);refine⟨⟨xs,ys,x,y,h'.at,g'.at,hx,hy⟩,?_⟩;rintro t TY ⟨p,x',y',hp,rfl,Tq,hy',rfl⟩;have q1:=Tq xs h'.at;have q2:=hy' ys g'.at;rw[hx] at q1;rw[hy] at q2;cases q1;cases q2;refine⟨b8 hp _,.tuple [ds[i],es[i]],?_,.tup ⟨P4.of aH,fun q=>absurd q (n p hp)⟩ (.cons (dx.ev (Ev.grow (b8 hp _))) (.cons (dy.ev (Ev.grow (b8 hp _))) .nil))⟩;rw[v7,Mf i1,Mf i2];rfl
 ·rw[hd.length,gd.length];omega
theorem He {d:D} {ds:List D} (h:DV O K H v d) (q:fQ d=some ds):∃b a xs,v= .ref a/\S3 b O K H a xs/\Nz O K H xs ds:=by
 cases h with
 |tup h hs=>cases q;exact⟨true,_,_,rfl,h,hs⟩
 |lst h hs=>cases q;exact⟨false,_,_,rfl,h,hs⟩
 |_=>cases q
noncomputable def A8 (fa:FA):FI:=fun ρ=>(fa ρ).bind fun a=>(Res.M3 (pe a.2 a.1)).bind fun b=>match b.1 with
 |[d,e]=>(Res.M3 (fQ d)).bind fun ds=>(Res.M3 (fQ e)).bind fun es=> .ok (l4 ds es,b.2)
 |_=> .bad
theorem HD {ta:TA} {fa:FA} (h:AO K E ta fa):IO K E (GR K ta) (A8 fa):=by
 intro B H0 O σ H ρ R' R w;refine h B H0 O σ H ρ _ R (w.bind.imp fun a w1 O1 vs H1 e1 R1 p1=> ?_);obtain⟨⟨ds,ρ2⟩,q,w1⟩:=w1.M3;obtain⟨O2,e2,R2,dv⟩:=qN R1 p1 q;dsimp only at w1;cases dv with
 |nil=>exact w1.elim
 |cons h1 h2=>
  cases h2 with
  |nil=>exact w1.elim
  |cons h2 h3=>
   cases h3 with
   |cons _ _=>exact w1.elim
   |nil=>obtain⟨es,qs,w1⟩:=WR.M3 w1;obtain⟨fs,qt,w1⟩:=WR.M3 w1;obtain⟨b1,a1,xs,rfl,s1,d1⟩:=He h1 qs;obtain⟨b2,a2,ys,rfl,s2,d2⟩:=He h2 qt;exact⟨a1,a2,b1,b2,rfl,⟨_,s1.at⟩,⟨_,s2.at⟩,w1 O2 _ H1 (e1.trans e2) R2 (Jg s1 d1 s2 d2)⟩
noncomputable def jk (d e:D):Option RV:=match d,e with
 | .str z,.int i=>if z.length<=1000000 then(l7 z.cps.toList i).map fun c=> .fz (.str ⟨#[c]⟩) else none
 |_,_=>none
theorem El:l8 K (K6 K) jk:=by
 intro O H x y dx dy rv Q n hx hy e q;unfold jk at e;split at e
 ·split at e
  ·rename_i z i hl
   cases qa:l7 z.cps.toList i with
   |none=>rw[qa] at e;cases e
   |some c=>rw[qa] at e;cases e;cases hx;cases hy;exact .inr (.inr ⟨z,i,c,rfl,rfl,zx hl,qa,q.at (.str _)⟩)
  ·cases e
 ·cases e
end
end L3
namespace L3
open PySem L2
def LI (N C:aK->Prop) (T:RV->Prop):Res Fl->Prop
 | .ok (.nx ρ)=>N ρ
 | .ok (.ct ρ)=>C ρ
 | .ok (.rt v)=>T v
 |_=>False
structure Go (r:Res Fl) (N C:aK->Prop) (T:RV->Prop):Prop where
 out:LI N C T r
section
variable {ρ ρ1 ρ2 ρ3:aK} {f g:FS} {fe:FE} {pv:PV} {d:D} {rv:RV} {ds:List D} {N C:aK->Prop} {T:RV->Prop}
theorem Go.eq {r r':Res Fl} (e:r=r') (h:Go r' N C T):Go r N C T:=by rw[e];exact h
theorem Go.imp {r:Res Fl} {N' C':aK->Prop} {T':RV->Prop} (h:Go r N C T) (hN:∀ρ,N ρ->N' ρ) (hC:∀ρ,C ρ->C' ρ) (hT:∀v,T v->T' v):Go r N' C' T':=by
 refine⟨?_⟩;have h:=h.out;cases r with
 |bad=>exact h
 |er x=>exact h
 |ok fl=>
  cases fl with
  |nx r=>exact hN _ h
  |ct r=>exact hC _ h
  |rt v=>exact hT _ h
  |bk r=>exact h
theorem xG (h:Go (f ρ) (fun r=>Go (g r) N C T) C T):Go (bz f g ρ) N C T:=by
 refine⟨?_⟩;have h:=h.out;unfold bz;cases q:f ρ with
 |bad=>rw[q] at h;exact h.elim
 |er x=>rw[q] at h;exact h.elim
 |ok fl=>
  rw[q] at h;cases fl with
  |nx r=>exact(show Go (g r) N C T from h).out
  |ct r=>exact h
  |rt v=>exact h
  |bk r=>exact h.elim
theorem wH {c:FT} {b:Bool} (hc:c ρ= .ok (b,ρ1)) (ht:b=true->Go (f ρ1) N C T) (hf:b=false->Go (g ρ1) N C T):Go (jW c f g ρ) N C T:=by
 unfold jW;rw[hc,Res.bind_ok];cases b with
 |true=>exact ht rfl
 |false=>exact hf rfl
theorem DK {gt:FG} (he:fe ρ= .ok (pv,ρ1)) (hg:gt pv ρ1= .ok ρ2) (h:N ρ2):Go (de fe gt ρ) N C T:= .eq (ra he hg rfl) ⟨h⟩
theorem k6 (he:fe ρ= .ok (pv,ρ1)) (h:N ρ1):Go (gO fe ρ) N C T:= .eq (tH he) ⟨h⟩
theorem eZ (he:fe ρ= .ok (pv,ρ1)) (hr:AQ ρ1 pv=some rv) (h:T rv):Go (dG fe ρ) N C T:= .eq (uh he hr) ⟨h⟩
theorem yF (h:N ρ):Go (dH ρ) N C T:=⟨h⟩
theorem zh {gt:FG} {b:FS} (I:Nat->aK->Prop):∀(ds:List D) (k:Nat) (ρ:aK),I k ρ->(∀i d ρ,ds[i]? =some d->I (k+i) ρ->∃ρ1,gt (.fz d) ρ= .ok ρ1/\Go (b ρ1) (I (k+i+1)) (I (k+i+1)) T)->Go (pf gt b ds ρ) (I (k+ds.length)) C T
 |[],k,ρ,h0,_=>⟨h0⟩
 |d::r,k,ρ,h0,hs=>by
  obtain⟨ρ1,h1,h2⟩:=hs 0 d ρ rfl h0;have h2:=h2.out;have rest:∀ρ',I (k+1) ρ'->Go (pf gt b r ρ') (I (k+(r.length+1))) C T:=fun ρ' h=>by
   have e:k+(r.length+1)=k+1+r.length:=by omega
   rw[e];refine zh I r (k+1) ρ' h fun i d' Xx hi hI=> ?_;have e:k+1+i=k+(i+1):=by omega
   rw[e] at hI⊢;exact hs (i+1) d' Xx (by simpa using hi) hI
  refine⟨?_⟩;show LI _ _ _ ((gt (.fz d) ρ).bind _);rw[h1,Res.bind_ok];cases q:b ρ1 with
  |bad=>rw[q] at h2;exact h2.elim
  |er x=>rw[q] at h2;exact h2.elim
  |ok fl=>
   rw[q] at h2;cases fl with
   |nx r=>exact(rest _ h2).out
   |ct r=>exact(rest _ h2).out
   |rt v=>exact h2
   |bk r=>exact h2.elim
theorem Hn {fi:FI} {gt:FG} {b:FS} (I:Nat->aK->Prop) (hi:fi ρ= .ok (ds,ρ1)) (h0:I 0 ρ1) (hs:∀i d ρ,ds[i]? =some d->I i ρ->∃ρ1,gt (.fz d) ρ= .ok ρ1/\Go (b ρ1) (I (i+1)) (I (i+1)) T) (hN:∀ρ',I ds.length ρ'->N ρ'):Go (md fi gt b ρ) N C T:=by have:=zh (C:=C) (T:=T) I ds 0 ρ1 h0 (by simpa using hs);rw[Tb] at this;exact .eq (xY hi) (this.imp hN (fun _ h=>h) fun _ h=>h)
theorem jP {n:Nat} {g:FS} {T:RV->Prop} (hρ:ds.map (fun d=>some (.fz d))++Me (n - ds.length) none=ρ) (h:Go (g ρ) (fun _=>T (.fz .none)) (fun _=>False) T):∃rv,gb n g ds= .ok rv/\T rv:=by
 have h:=h.out;unfold gb;rw[hρ];cases q:g ρ with
 |bad=>rw[q] at h;exact h.elim
 |er x=>rw[q] at h;exact h.elim
 |ok fl=>
  rw[q] at h;cases fl with
  |nx r=>exact⟨_,rfl,h⟩
  |ct r=>exact h.elim
  |rt v=>exact⟨_,rfl,h⟩
  |bk r=>exact h.elim
theorem lH {n:Nat} {g:FS} {v:RV} (hρ:ds.map (fun d=>some (.fz d))++Me (n - ds.length) none=ρ) (h:Go (g ρ) (fun _=>RV.fz .none=v) (fun _=>False) (fun r=>r=v)):gb n g ds= .ok v:=by obtain⟨rv,h1,h2⟩:=jP (T:=fun r=>r=v) hρ h;rw[h1,h2]
theorem bT {gt:FG} (he:fe ρ= .ok (pv,ρ1)) (hg:gt pv ρ1= .ok ρ2) (hn:ρ2=ρ3) (h:Go (g ρ3) N C T):Go (bz (de fe gt) g ρ) N C T:= .eq (yi (ra he hg hn)) h
theorem t6 (he:fe ρ= .ok (pv,ρ1)) (h:Go (g ρ1) N C T):Go (bz (gO fe) g ρ) N C T:= .eq (yi (tH he)) h
theorem fT (he:fe ρ= .ok (pv,ρ1)) (hr:AQ ρ1 pv=some rv) (h:T rv):Go (bz (dG fe) g ρ) N C T:= .eq (Dp (uh he hr)) ⟨h⟩
theorem dC (h:Go (g ρ) N C T):Go (bz dH g ρ) N C T:= .eq rfl h
theorem iO {c:FT} {f1 f2:FS} {b:Bool} (hc:c ρ= .ok (b,ρ1)) (ht:b=true->Go (bz f1 g ρ1) N C T) (hf:b=false->Go (bz f2 g ρ1) N C T):Go (bz (jW c f1 f2) g ρ) N C T:=by
 have e:bz (jW c f1 f2) g ρ=if b=true then bz f1 g ρ1 else bz f2 g ρ1:=by unfold bz jW;rw[hc,Res.bind_ok];cases b<;>rfl
 refine .eq e ?_;cases b with
 |true=>exact ht rfl
 |false=>exact hf rfl
theorem lO {fi:FI} {gt:FG} {b:FS} (I:Nat->aK->Prop) (hi:fi ρ= .ok (ds,ρ1)) (h0:I 0 ρ1) (hs:∀i d ρ,ds[i]? =some d->I i ρ->∃ρ1,gt (.fz d) ρ= .ok ρ1/\Go (b ρ1) (I (i+1)) (I (i+1)) T) (hN:∀ρ',I ds.length ρ'->Go (g ρ') N C T):Go (bz (md fi gt b) g ρ) N C T:=
 xG (Hn I hi h0 hs hN)
theorem sL {gt:FG} {ft:FT} {fe:FE} (I:aK->Prop) (P:Nat->D->Prop):∀(ds:List D) (k:Nat) (ρ:aK) (acc:List D),I ρ->acc.length+ds.length<=1000000->(∀i d,ds[i]? =some d->∀ρ,I ρ->∃x ρ',j9 gt ft fe d ρ= .ok (some x,ρ')/\I ρ'/\P (k+i) x)->
  ∃xs,dm gt ft fe ds ρ acc= .ok (acc++xs)/\xs.length=ds.length/\∀i x,xs[i]? =some x->P (k+i) x
 |[],k,ρ,acc,_,_,_=>⟨[],by show Res.ok acc=_;simp,rfl,fun i x h=>by simp at h⟩
 |d::r,k,ρ,acc,h0,hl,hs=>by
  obtain⟨x,ρ',h1,h2,h3⟩:=hs 0 d rfl ρ h0;rw[Mm] at hl;obtain⟨xs,g1,g2,g3⟩:=sL I P r (k+1) ρ' (acc++[x]) h2 (by rw[Mg];simp;omega) fun i d' hi Xx hI=>by
   have e:k+1+i=k+(i+1):=by omega
   rw[e];exact hs (i+1) d' (by simpa using hi) Xx hI
  refine⟨x::xs,?_,by rw[Mm,g2,Mm],fun i y hy=> ?_⟩
  ·rw[qG h1 (by omega)];show dm gt ft fe r ρ' (acc++[x])=_;rw[g1,Ni];rfl
  ·cases i with
   |zero=>cases(show some x=some y from hy);exact h3
   |succ i=>
    have e:k+(i+1)=k+1+i:=by omega
    rw[e];exact g3 i y (by simpa using hy)
theorem vF {gt:FG} {ft:FT} {fe:FE} (I:aK->Prop) (P:Nat->D->Prop) (h0:I ρ) (hl:ds.length<=1000000) (hs:∀i d,ds[i]? =some d->∀ρ,I ρ->∃x ρ',j9 gt ft fe d ρ= .ok (some x,ρ')/\I ρ'/\P i x):
  ∃xs,jq (dm gt ft fe ds ρ [])= .ok xs/\xs.length=ds.length/\∀i x,xs[i]? =some x->P i x:=by
 obtain⟨xs,g1,g2,g3⟩:=sL I P ds 0 ρ [] h0 (by simpa using hl) (by simpa using hs);exact⟨xs,by rw[g1];rfl,g2,by simpa using g3⟩
theorem tL {α:Type} {f:α->D} {Q:Nat->α->Prop}:∀(xs:List D) (k:Nat),(∀i x,xs[i]? =some x->∃a,x=f a/\Q (k+i) a)->∃as:List α,xs=as.map f/\∀i a,as[i]? =some a->Q (k+i) a
 |[],_,_=>⟨[],rfl,fun i a h=>by simp at h⟩
 |x::r,k,h=>by
  obtain⟨a,e,q⟩:=h 0 x rfl;obtain⟨as,e2,q2⟩:=tL (f:=f) (Q:=Q) r (k+1) fun i y hy=>by
   have e:k+1+i=k+(i+1):=by omega
   rw[e];exact h (i+1) y (by simpa using hy)
  refine⟨a::as,by rw[e,e2];rfl,fun i b hb=> ?_⟩;cases i with
  |zero=>cases(show some a=some b from hb);exact q
  |succ i=>
   have e:k+(i+1)=k+1+i:=by omega
   rw[e];exact q2 i b (by simpa using hb)
theorem K7 {a b:Str} (ha:Mb.strOk a=true) (hb:Mb.strOk b=true):bQ (.str a) (.str b)=some (.fz (.bool (a==b))):=by unfold bQ;rw[show ju (.str a)=true by unfold ju;rw[show Mb.canLay0 (.str a)=true from ha];rfl,show Mb.canLay0 (.str b)=true from hb,NX,if_pos rfl];rfl
theorem v9 {a:Str} (ha:Mb.strOk a=true):bQ (.str a) (.str a)=some (.fz (.bool true)):=by rw[K7 ha ha,beq_self_eq_true]
theorem lC {a b:Str} (ha:Mb.strOk a=true) (hb:Mb.strOk b=true) (h:(a==b)=false):bQ (.str a) (.str b)=some (.fz (.bool false)):=by rw[K7 ha hb,h]
theorem zi {α:Type} {xs:List α} {i:Int} {v:α} (h0:0<=i) (h:xs[i.toNat]? =some v):l7 xs i=some v:=HP h0 h
theorem J0 {i:Int} (h0:0<=i) (h:ds[i.toNat]? =some d):aG (.list ds) (.int i)=some (.fz d):=by show(l7 ds i).map RV.fz=_;rw[zi h0 h];rfl
theorem xM {n:Int} (h0:0<=n) (h:n<=1000000):gS [.int n]=some (aD (Mz n.toNat)):=by rw[yD (by unfold jx;omega),wj]
theorem F5 {s:List Nat} {n:Nat} (hp:s.Pairwise (·<·)) (h:∀k∈s,k<n):s.length<=n:=by
 have:∀(s:List Nat) (a:Nat),s.Pairwise (·<·)->(∀k∈s,a<=k/\k<n)->s.length<=n - a:=by
  intro s
  induction s with
  |nil=>intro a _ _;exact MN _
  |cons x r ih=>intro a hp h;obtain⟨h1,h2⟩:=PJ.mp hp;have hx:=h x Mp;have:=ih (x+1) h2 fun k hk=>⟨h1 k hk,(h k (Mj _ hk)).2⟩;rw[Mm];omega
 exact this s 0 hp fun k hk=>⟨MN _,h k hk⟩
theorem zI {fr:FA} {ps:List PV} {e:D} {es fs:List D} (ha:fr ρ= .ok (ps,ρ1)) (hd:pe ρ1 ps=some ([d,e],ρ2)) (hs:fQ d=some es) (ht:fQ e=some fs):A8 fr ρ= .ok (l4 es fs,ρ2):=by unfold A8;rw[ha,Res.bind_ok,hd,aU,Res.bind_ok];dsimp only;rw[hs,aU,Res.bind_ok,ht,aU,Res.bind_ok]
theorem CJ {f g:D->D->Option RV} {fa fb fc:FE} {pa pb pc:PV} {dx dy dz:D} {b1 b2:Bool} (ha:fa ρ= .ok (pa,ρ)) (hb:fb ρ= .ok (pb,ρ)) (hc:fc ρ= .ok (pc,ρ)) (hx:rX ρ (bU pa)=some dx) (hy:rX ρ (bU pb)=some dy) (hz:rX ρ pc=some dz) (hf:f dx dy=some (.fz (.bool b1))) (hg:b1=true->g dy dz=some (.fz (.bool b2))):n9 f g fa fb fc ρ= .ok (.fz (.bool (b1&&b2)),ρ):=by
 unfold n9;rw[ha,Res.bind_ok,hb,Res.bind_ok];dsimp only;rw[hx,aU,Res.bind_ok,hy,aU,Res.bind_ok,hf,aU,Res.bind_ok];cases b1 with
 |false=>rfl
 |true=>dsimp only;rw[hc,Res.bind_ok];dsimp only;rw[hy,aU,Res.bind_ok,hz,aU,Res.bind_ok,hg rfl,aU,Res.bind_ok];rfl
end
end L3
namespace L3
open PySem PySem.Spec PyProof.Rows L2 PySem.Builtin PySem.Builtin.Str
end L3
namespace PySem
open Sem (wp)
open AutoSeq1 (wpAny_loadPart')
open Builtin Builtin.Str
end PySem
namespace PySem
open Sem (wp)
open Builtin Builtin.Str
end PySem
namespace L3
open PySem PySem.Spec PyProof.Rows L2 PySem.Builtin
end L3
namespace L3
open PySem L2
end L3
namespace L2
open PySem PySem.Spec PyProof.Rows
end L2
namespace L3
open PySem PySem.Spec L2
end L3
namespace L2
open PySem PySem.Spec PyProof.Rows
section
variable {κ:Type} [DecidableEq κ]
noncomputable def j3 (kvs:List (κ×V)) (k:κ):Option V:=(kvs.find? fun kv=>decide (kv.1=k)).map (·.2)
noncomputable def jr (kvs:List (κ×V)) (k:κ) (v:V):List (κ×V):=
 if(kvs.any fun kv=>decide (kv.1=k))=true then kvs.map (fun kv=>if kv.1=k then(kv.1,v) else kv) else kvs++[(k,v)]
noncomputable def nj (kvs:List (κ×V)) (k:κ):List (κ×V):=kvs.filter fun kv=>decide (kv.1≠k)
theorem qR {p:κ×V} {r:List (κ×V)} {k:κ} (e:p.1=k):j3 (p::r) k=some p.2:=by simp[j3,NG,e]
theorem qU {p:κ×V} {r:List (κ×V)} {k:κ} (e:¬p.1=k):j3 (p::r) k=j3 r k:=by simp[j3,NG,e]
theorem wr (k:κ):∀kvs:List (κ×V),(kvs.any fun kv=>decide (kv.1=k))=(j3 kvs k).isSome
 |[]=>rfl
 |p::r=>by
  rw[OL];by_cases e:p.1=k
  ·simp only[qR e,decide_eq_true e,Qk,Tu]
  ·rw[qU e,decide_eq_false e,Pk];exact wr k r
theorem j4 (kvs:List (κ×V)) (k:κ) (v:V):(jr kvs k v).length<=kvs.length+1:=by
 unfold jr;split
 ·rw[L7];omega
 ·rw[Mg,Mm,NH];omega
theorem QA.Rf {o:Option V} {u:Option L5} (r:QA o u):o.isSome=u.isSome:=by
 cases o with
 |none=>cases u with
  |none=>rfl
  |some _=>exact(show False from r).elim
 |some _=>cases u with
  |none=>exact(show False from r).elim
  |some _=>rfl
theorem KV.val {kvs:List (κ×V)} {vs:List (κ×L5)} (r:KV kvs vs) (k:κ):QA (j3 kvs k) (valueAt vs k):=by
 unfold KV at r
 induction r with
 |nil=>exact True.intro
 | @cons p q ps qs h t ih=>
  obtain⟨h1,h2⟩:=h;by_cases e:p.1=k
  ·have e':q.1=k:=h1.symm.trans e
   have b:valueAt (q::qs) k=some q.2:=by simp[valueAt,NG,e']
   rw[qR e,b];exact h2
  ·have e':¬q.1=k:=fun z=>e (h1.trans z)
   have b:valueAt (q::qs) k=valueAt qs k:=by simp[valueAt,NG,e']
   rw[qU e,b];exact ih
theorem KV.any {kvs:List (κ×V)} {vs:List (κ×L5)} (r:KV kvs vs) (k:κ):(kvs.any fun kv=>decide (kv.1=k))=vs.any fun kv=>decide (kv.1=k):=by
 unfold KV at r
 induction r with
 |nil=>rfl
 |cons h t ih=>rw[OL,OL,ih,h.1]
theorem KV.V2 {kvs:List (κ×V)} {vs:List (κ×L5)} (r:KV kvs vs) (k:κ) {y:V} {u:L5} (ry:RelV y u):
  KV (kvs.map fun kv=>if kv.1=k then(kv.1,y) else kv) (vs.map fun kv=>if kv.1=k then(kv.1,u) else kv):=by
 unfold KV at r⊢
 induction r with
 |nil=>exact .nil
 | @cons p q ps qs h t ih=>
  rw[Ms,Ms];refine .cons ?_ ih;obtain⟨h1,h2⟩:=h;by_cases e:p.1=k
  ·rw[if_pos e,if_pos (h1.symm.trans e)];exact⟨h1,ry⟩
  ·rw[if_neg e,if_neg (fun z=>e (h1.trans z))];exact⟨h1,h2⟩
theorem KV.put {kvs:List (κ×V)} {vs:List (κ×L5)} (r:KV kvs vs) (k:κ) {y:V} {u:L5} (ry:RelV y u):KV (jr kvs k y) (stored vs k u):=by
 unfold jr stored;rw[r.any k];by_cases e:(vs.any fun kv=>decide (kv.1=k))=true
 ·rw[if_pos e,if_pos e];exact r.V2 k ry
 ·rw[if_neg e,if_neg e];exact Paired.snoc r ⟨rfl,ry⟩
theorem KV.drop {kvs:List (κ×V)} {vs:List (κ×L5)} (r:KV kvs vs) (k:κ):KV (nj kvs k) (without vs k):=by
 unfold KV at r⊢;unfold nj without
 induction r with
 |nil=>exact .nil
 | @cons p q ps qs h t ih=>
  obtain⟨h1,h2⟩:=h;rw[Pj,Pj];by_cases e:p.1=k
  ·have a:¬decide (p.1≠k)=true:=by simp[e]
   have b:¬decide (q.1≠k)=true:=by simp[h1.symm.trans e]
   rw[if_neg a,if_neg b];exact ih
  ·have e':¬q.1=k:=fun z=>e (h1.trans z)
   have a:decide (p.1≠k)=true:=by simp[e]
   have b:decide (q.1≠k)=true:=by simp[e']
   rw[if_pos a,if_pos b];exact .cons ⟨h1,h2⟩ ih
theorem KV.keys {kvs:List (κ×V)} {vs:List (κ×L5)} (r:KV kvs vs):kvs.map (·.1)=vs.map (·.1):=by
 unfold KV at r
 induction r with
 |nil=>rfl
 |cons h t ih=>rw[Ms,Ms,ih,h.1]
theorem KV.length {kvs:List (κ×V)} {vs:List (κ×L5)} (r:KV kvs vs):kvs.length=vs.length:=Paired.length r
theorem BR (kvs:List (κ×V)) (k:κ):(nj kvs k).length<=kvs.length:=Pe _ _
end
theorem pX {P:My} {w:MS} {k:bt} {u:L5} (r:RelV (kV k) u):(bZ P w).is k u=true:=by
 cases k with
 |inl i=>obtain⟨t,e⟩:=(show∃t,u=L5.int i t from r);subst e;exact v5 P w i t
 |inr x=>obtain⟨t,e⟩:=(show∃t,u=L5.str x t from r);subst e;exact wk P w x t
theorem sk {P:My} {w:MS}:∀{ks:List bt} {us:List L5},Vals (ks.map kV) us->ItemsAre (bZ P w) ks us
 |[],_,r=>by rw[N9] at r;cases r;exact .nil
 |k::ks,_,r=>by
  rw[Ms] at r;cases r with
  |cons h t=>exact .cons (pX h) (sk t)
noncomputable abbrev KT (H:Hp):List (List bt×V)->List (List bt×L8×L5)->Prop:=Paired fun p q=>p.1=q.1/\H q.2.1=some (.tup (p.1.map kV))/\RelV p.2 q.2.2
theorem KT.val {H:Hp} {kvs:List (List bt×V)} {xs:List (List bt×L8×L5)} (r:KT H kvs xs) (k:List bt):QA (j3 kvs k) ((atKey xs k).map (·.2)):=by
 induction r with
 |nil=>exact True.intro
 | @cons p q ps qs h t ih=>
  obtain⟨h1,_,h2⟩:=h;by_cases e:p.1=k
  ·have e':q.1=k:=h1.symm.trans e
   have b:atKey (q::qs) k=some q.2:=by simp[atKey,NG,e']
   rw[qR e,b];exact h2
  ·have e':¬q.1=k:=fun z=>e (h1.trans z)
   have b:atKey (q::qs) k=atKey qs k:=by simp[atKey,NG,e']
   rw[qU e,b];exact ih
theorem KT.V2 {H:Hp} {kvs:List (List bt×V)} {xs:List (List bt×L8×L5)} (r:KT H kvs xs) (k:List bt) {y:V} {u:L5} (ry:RelV y u):
  KT H (kvs.map fun kv=>if kv.1=k then(kv.1,y) else kv) (xs.map (putAt k u)):=by
 induction r with
 |nil=>exact .nil
 | @cons p q ps qs h t ih=>
  rw[Ms,Ms];refine .cons ?_ ih;obtain⟨h1,h2,h3⟩:=h;unfold putAt;by_cases e:p.1=k
  ·rw[if_pos e,if_pos (h1.symm.trans e)];exact⟨h1,h2,ry⟩
  ·rw[if_neg e,if_neg (fun z=>e (h1.trans z))];exact⟨h1,h2,h3⟩
theorem KT.put {H:Hp} {kvs:List (List bt×V)} {xs:List (List bt×L8×L5)} (r:KT H kvs xs) (k:List bt) {b:L8} {y:V} {u:L5} (hb:H b=some (.tup (k.map kV))) (ry:RelV y u):
  KT H (jr kvs k y) (storedH xs k b u):=by
 have e:(kvs.any fun kv=>decide (kv.1=k))=(atKey xs k).isSome:=by rw[wr,(r.val k).Rf,TR]
 unfold jr storedH;rw[e];by_cases q:(atKey xs k).isSome=true
 ·rw[if_pos q,if_pos q];exact r.V2 k ry
 ·rw[if_neg q,if_neg q];exact Paired.snoc r ⟨rfl,hb,ry⟩
theorem KT.keeps {H H':Hp} {kvs:List (List bt×V)} {xs:List (List bt×L8×L5)} (r:KT H kvs xs) (ht:∀b ys,H b=some (.tup ys)->H' b=some (.tup ys)):KT H' kvs xs:=
 Paired.Ph r fun _ _ z=>⟨z.1,ht _ _ z.2.1,z.2.2⟩
section
variable {P:My} {w:MS} {H:Hp} {h:Heap} {a:L8}
theorem G8 {u:HO} (ok:QU P w H h) (e:Rd H a u):ObjOk P w H h a u:=e.ok ok
theorem wM {kvs:List (bt×V)} (ok:QU P w H h) (e:Rd H a (.dK kvs)):kvs.length<=Mq/\(a==Oi)=false/\∃vs,KV kvs vs/\h.DictOf (bZ P w) a vs:=
 show ObjOk P w H h a (.dK kvs) from G8 ok e
theorem sW {kvs:List (bt×V)} (ok:QU P w H h) (e:H a=some (.dK kvs)):kvs.length<=Mq/\(a==Oi)=false/\∃vs,KV kvs vs/\h.DictOf (bZ P w) a vs:=wM ok (.inl e)
theorem ug {ks:List bt} (ok:QU P w H h) (e:H a=some (.tup (ks.map kV))):(tupleKind (bZ P w)).is h ks a:=by obtain⟨_,MY,r,o,h1,⟨h2,n,h3⟩,_⟩:=(show ObjOk P w H h a (.tup (ks.map kV)) from ok a _ e);exact⟨o,MY.toArray,n,h1,h2,h3,by simpa using sk r⟩
theorem v8 {kvs:List (List bt×V)} (ok:QU P w H h) (e:Rd H a (.dT kvs)):kvs.length<=Mq/\(a==Oi)=false/\
  ∃xs,KT H kvs xs/\h.DictOfH (tupleKind (bZ P w)) a xs:=by
 obtain⟨z,y,xs,r,o,es,ep,h1,h2,h3,h4,h5⟩:=(show ObjOk P w H h a (.dT kvs) from G8 ok e);refine⟨z,y,xs,r,o,es,ep,h1,h2,h3,h4,fun x hx=> ?_,h5⟩;have all:∀{l:List (List bt×V)} {m:List (List bt×L8×L5)},KT H l m->∀x∈m,(tupleKind (bZ P w)).is h x.1 x.2.1:=by
  intro l m q
  induction q with
  |nil=>intro x hx;exact nomatch hx
  | @cons p q ps qs hq t ih=>
   intro x hx;rcases MH.mp hx with e|hx
   ·subst e;exact ug ok (by rw[<-hq.1];exact hq.2.1)
   ·exact ih x hx
 exact all r x hx
theorem Kg {kvs:List (List bt×V)} (ok:QU P w H h) (e:H a=some (.dT kvs)):kvs.length<=Mq/\(a==Oi)=false/\
  ∃xs,KT H kvs xs/\h.DictOfH (tupleKind (bZ P w)) a xs:=v8 ok (.inl e)
end
def Su (H:Hp) (a:L8) (y:V) (r:Option V):Prop:=
 (∃kvs k,Rd H a (.dK kvs)/\y=kV k/\r=j3 kvs k)\/∃kvs k b,Rd H a (.dT kvs)/\y= .ref b/\H b=some (.tup (k.map kV))/\r=j3 kvs k
def UB (H:Hp) (a:L8) (y v:V) (H':Hp):Prop:=
 (∃kvs k,H a=some (.dK kvs)/\y=kV k/\kvs.length<Mq/\H'=bA H a (.dK (jr kvs k v)))\/
 ∃kvs k b,H a=some (.dT kvs)/\y= .ref b/\H b=some (.tup (k.map kV))/\kvs.length<Mq/\H'=bA H a (.dT (jr kvs k v))
theorem Su.k {H:Hp} {a:L8} {kvs:List (bt×V)} {k:bt} (e:H a=some (.dK kvs)):Su H a (kV k) (j3 kvs k):= .inl ⟨kvs,k,.inl e,rfl,rfl⟩
theorem UB.k {H:Hp} {a:L8} {kvs:List (bt×V)} {k:bt} {v:V} (e:H a=some (.dK kvs)) (hl:kvs.length<Mq):UB H a (kV k) v (bA H a (.dK (jr kvs k v))):= .inl ⟨kvs,k,e,rfl,hl,rfl⟩
section
variable {X:Cx} {pins:List (L8×Obj)} {σ:St} {H:Hp} {s:Ma} {a:L8} {y v:V} {u r:L5} {o:Option V} {A:MO} {E:L5->Ma->Prop}
theorem Inv.big (I:Inv X pins σ H s):Oi<s.heap.objs.size:=by have h:Mv<s.heap.objs.size:=(I.mod.glob.keeps I.bk).lt;exact O0 (by decide) h
theorem An {Q:L5->Ma->Prop} (hu:A.units+1<cLine) (I:Inv X pins σ H s) (g:Su H a y (some v)) (ry:RelV y u) (h:∀w' s',Inv X pins σ H s'->RelV v w'->Q w' s'):
  wpAny (model X.prog X.w) A (getItem (.ref a) u) Q E s:=by
 rcases g with⟨kvs,k,e,ey,l⟩|⟨kvs,k,b,e,ey,eb,l⟩
 ·subst ey;obtain⟨z,hd,vs,rel,dd⟩:=wM I.Nw e;obtain⟨w',hw,TU⟩:=QA.some_of (v:=v) (o:=valueAt vs k) (by rw[l];exact rel.val k);exact wpAny_getItem_of (pX ry) dd.mapOf hw (h w' _ (I.tok _) TU)
 ·subst ey;cases(show u=L5.ref b from ry);obtain⟨z,hd,xs,rel,dd⟩:=v8 I.Nw e;obtain⟨w',hw,TU⟩:=QA.some_of (v:=v) (o:=(atKey xs k).map (·.2)) (by rw[l];exact rel.val k);obtain⟨p,hp,Vs⟩:=Option.map_eq_some_iff.mp hw;refine wpAny_getItem_heap (RG hu) (ug I.Nw eb) dd hp ?_;rw[Vs];exact h w' _ (I.tok _) TU
theorem Lf {Q:L5->Ma->Prop} (hu:A.units+1<cLine) (I:Inv X pins σ H s) (g:Su H a y o) (ry:RelV y u) (h:∀s',Inv X pins σ H s'->Q (.bool o.isSome) s'):
  wpAny (model X.prog X.w) A (NM .In u (.ref a)) Q E s:=by
 rcases g with⟨kvs,k,e,ey,l⟩|⟨kvs,k,b,e,ey,eb,l⟩
 ·subst ey;obtain⟨z,hd,vs,rel,dd⟩:=wM I.Nw e;refine wpAny_in_of (pX ry) hd dd.mapOf ?_;rw[<-(rel.val k).Rf,<-l];exact h _ (I.tok _)
 ·subst ey;cases(show u=L5.ref b from ry);obtain⟨z,hd,xs,rel,dd⟩:=v8 I.Nw e;refine wpAny_in_heap (RG hu) (ug I.Nw eb) hd dd ?_;have q:=(rel.val k).Rf;rw[TR] at q;rw[<-q,<-l];exact h _ (I.tok _)
theorem ph {h':Heap} {t':Nat} {ob:HO} (I:Inv X pins σ H s) (mu:KC (H a)) (hs:Heap.SameBut a s.heap h') (he:∃q,h'.get? a=some q) (new:ObjOk X.prog X.w (bA H a ob) h' a ob):
  Inv X pins σ (bA H a ob) {s with heap:=h',toks:=t'}:=
 I.write (x:=a) (e:=a) mu (.inl rfl) (fun b q hb z=>(hs.2 b hb).trans z) he new
theorem ue {P:My} {w:MS} {H':Hp} {h':Heap} {kvs:List (bt×V)} {vs:List (bt×L5)} (z:kvs.length<=Mq) (hd:(a==Oi)=false) (rel:KV kvs vs) (dd:h'.DictOf (bZ P w) a vs):
  ObjOk P w H' h' a (.dK kvs):=⟨z,hd,vs,rel,dd⟩
theorem Av {H':Hp} {Q:Unit->Ma->Prop} (hu:A.units+1<cLine) (I:Inv X pins σ H s) (g:UB H a y v H') (ry:RelV y u) (rv:RelV v r) (h:∀s',Inv X pins σ H' s'->Q () s'):
  wpAny (model X.prog X.w) A (setItem (.ref a) u r) Q E s:=by
 rcases g with⟨kvs,k,e,ey,l,eH⟩|⟨kvs,k,b,e,ey,eb,l,eH⟩
 ·subst ey eH
  obtain⟨z,hd,vs,rel,dd⟩:=sW I.Nw e;have hz:vs.length<=Mq:=by rw[<-rel.length];exact z
  have hl:(jr kvs k v).length<=Mq:=by have:=j4 kvs k v;omega
  refine wpAny_setItem_pairs (hsz:=hz) (pX ry) dd fun h' U6 hs=>h _ ?_;have he:∃q,h'.get? a=some q:=let⟨q,_,_,hq,_⟩:=U6;⟨q,hq⟩
  exact ph I (by rw[e];exact True.intro) hs he (ue hl hd (rel.put k rv) U6)
 ·subst ey eH
  cases(show u=L5.ref b from ry);obtain⟨z,hd,xs,rel,dd⟩:=Kg I.Nw e;have hz:xs.length<=Mq:=by rw[<-Paired.length rel];exact z
  have hl:(jr kvs k v).length<=Mq:=by have:=j4 kvs k v;omega
  refine wpAny_setItem_heap (hsz:=hz) (RG hu) (ug I.Nw eb) dd fun h' U6 hs=>h _ ?_;obtain⟨q,es,ep,hq,h2,h3,h4,_,h5⟩:=U6;refine ph I (by rw[e];exact True.intro) hs ⟨q,hq⟩ ⟨hl,hd,_,(rel.put k eb rv).keeps fun c ys ec=> ?_,q,es,ep,hq,h2,h3,h4,h5⟩;rw[aO (Kj ec e (fun z=>nomatch z))];exact ec
end
section
variable {X:Cx} {pins:List (L8×Obj)} {σ:St} {H:Hp} {s:Ma} {a:L8} {kvs:List (bt×V)} {k:bt} {u:L5} {A:MO} {E:L5->Ma->Prop}
theorem KF {v:V} {more:List L5} {Q:L5->Ma->Prop} (I:Inv X pins σ H s) (e:H a=some (.dK kvs)) (ry:RelV (kV k) u) (l:j3 kvs k=some v) (hm:more=[]\/∃x,more=[x])
  (h:∀w' s',Inv X pins σ (bA H a (.dK (nj kvs k))) s'->RelV v w'->Q w' s'):wpAny (model X.prog X.w) A (call (.builtin "dict.pop") (.ref a::u::more)) Q E s:=by
 obtain⟨z,hd,vs,rel,dd⟩:=sW I.Nw e;obtain⟨w',hw,TU⟩:=QA.some_of (v:=v) (o:=valueAt vs k) (by rw[<-l];exact rel.val k);have hp:(keyPart u).isSome=true:=by
  cases k with
  |inl i=>obtain⟨t,q⟩:=(show∃t,u=L5.int i t from ry);subst q;rfl
  |inr x=>obtain⟨t,q⟩:=(show∃t,u=L5.str x t from ry);subst q;rfl
 have ha:argsOk "dict.pop" ⟨.ref a::u::more,[]⟩:=by
  rcases hm with q|⟨x,q⟩
  ·subst q;exact PySem.F.args_dict_pop_2 _ _
  ·subst q;exact PySem.F.args_dict_pop_3 _ _ _
 refine call_meetsIn SF dd.typeIs PySem.F.entry_dict_pop ha (meets_dict_pop_there (bZ X.prog X.w) a (pX ry) more hm hp)
  ⟨vs,w',dd,by rw[<-rel.length];exact z,hw,fun h' U6 hs=>h w' _ ?_ TU⟩
 have he:∃q,h'.get? a=some q:=let⟨q,_,_,hq,_⟩:=U6;⟨q,hq⟩
 exact ph I (by rw[e];exact True.intro) hs he (ue (MQ (BR kvs k) z) hd (rel.drop k) U6)
end
def KI (i:MR):Prop:=∀ov iv,subscripted i false ov iv=operate [ov,iv] (getItem ov iv)
theorem FQ {prog:My} {w:MS} {A:MO} {E:L5->Ma->Prop} {s:Ma} {env:Env} {value slice:MR} {pos:Pos} {T id:String} {Q:L5->Ma->Prop}
  (hl:typeLookup (.type T) "__getitem__"=pure (some (.builtin id))) (hs:KI slice)
  (h:wpAny (model prog w) A (eval value env) (fun o s₁=>wpAny (model prog w) A (eval slice env) (fun i s₂=>s₂.TypeIs o T/\wpAny (model prog w) A (getItem o i) Q E s₂) E s₁) E s):
  wpAny (model prog w) A (eval (.Subscript value slice pos) env) Q E s:=by
 refine Subscript_ (wpAny_mono h (fun o s₁ h₁=>wpAny_mono h₁ (fun i s₂ h₂=> ?_) fun _ _ x=>x) fun _ _ x=>x);obtain⟨hT,h₂⟩:=h₂;unfold subscriptTail;refine L6 ?_;rw[getitemInPython_of_ne hT.not_modules];refine L6 (wpAny_specialOf hT hl ?_);have fin:wpAny (model prog w) A (subscripted slice false o i) (fun r s₃=>wpAny (model prog w) A (letTemporaryGo value o r>>=fun _=>pure r) Q E s₃) E s₂:=by rw[hs o i];exact wpAny_operating (wpAny_mono h₂ (fun r s₃ h₃=>L6 (wpAny_letTemporaryGo (Mi h₃))) fun _ _ x=>x)
 first
  |exact Mi (L6 fin)
  |exact L6 (Mi (L6 fin))
  |exact L6 fin
theorem wB {X:Cx} {pins:List (L8×Obj)} {σ:St} {H:Hp} {s:Ma} {a:L8} {y:V} {o:Option V} (I:Inv X pins σ H s) (g:Su H a y o):s.TypeIs (.ref a) "dict":=by
 rcases g with⟨kvs,k,e,_,_⟩|⟨kvs,k,b,e,_,_,_⟩
 ·obtain⟨_,_,vs,_,dd⟩:=wM I.Nw e;exact dd.typeIs
 ·obtain⟨_,_,xs,_,dd⟩:=v8 I.Nw e;exact dd.typeIs
def GG (td ty:TE):TE:=fun σ H Q=>td σ H fun x H1=>ty σ H1 fun y H2=>∃a v,x= .ref a/\Su H2 a y (some v)/\Q v H2
def Kt (ty td:TE):TE:=fun σ H Q=>ty σ H fun y H1=>td σ H1 fun x H2=>∃a o,x= .ref a/\Su H2 a y o/\Q (.bl o.isSome) H2
def GI (td ty tv:TE):TS:=fun D σ H=>tv σ H fun v H1=>td σ H1 fun x H2=>ty σ H2 fun y H3=>∃a H4,x= .ref a/\UB H3 a y v H4/\D.nx σ H4
section
variable {X:Cx} {o i e value:MR} {pos pos' aak:Pos} {td ty tv:TE}
theorem ib (hu:X.A.units+1<cLine) (ho:PE X o td) (hi:PE X i ty) (hs:KI i):PE X (.Subscript o i pos) (GG td ty):=by intro pins s σ H Q I h;refine FQ PySem.F.slot_dict_getitem.lookup hs (c8 (ho pins s σ H _ I h) fun u s1 ⟨x,H1,I1,rx,q1⟩=>c8 (hi pins s1 σ H1 _ I1 q1) fun iv s2 ⟨y,H2,I2,ry,a,v,ex,g,q2⟩=> ?_);subst ex;obtain rfl:u=L5.ref a:=rx;exact⟨wB I2 g,An hu I2 g ry fun w' s3 I3 TU=>⟨v,H2,I3,TU,q2⟩⟩
theorem BP (hu:X.A.units+1<cLine) (hi:PE X i ty) (ho:PE X o td):PC X .In i o (Kt ty td):=by intro pins s σ H Q I h;refine c8 (hi pins s σ H _ I h) fun iv s1 ⟨y,H1,I1,ry,q1⟩=>c8 (ho pins s1 σ H1 _ I1 q1) fun u s2 ⟨x,H2,I2,rx,a,ov,ex,g,q2⟩=> ?_;subst ex;obtain rfl:u=L5.ref a:=rx;exact Lf hu I2 g ry fun s3 I3=>⟨.bl ov.isSome,H2,I3,rfl,q2⟩
theorem zn (hu:X.A.units+1<cLine) (ho:PE X o td) (hi:PE X i ty) (hv:PE X value tv) (hs:NN value (some (.Subscript o i pos')) pos.line X.env=pure false):
  PS X (.Assign [.Subscript o i pos'] value pos) (GI td ty tv):=by
 intro pins s σ H D I h;refine wpAny_Assign_Subscript (c8 (hv pins s σ H _ I h) fun r s1 ⟨v,H1,I1,rv,q1⟩=>c8 (ho pins s1 σ H1 _ I1 q1) fun u s2 ⟨x,H2,I2,rx,q2⟩=>c8 (hi pins s2 σ H2 _ I2 q2) fun iv s3 ⟨y,H3,I3,ry,a,H4,ex,g,q3⟩=> ?_) hs;subst ex;obtain rfl:u=L5.ref a:=rx;exact Av hu I3 g ry rv fun s4 I4=>⟨σ,H4,I4,q3⟩
end
theorem wc {P:My} {w:MS} {H:Hp} (h:Heap) (hb:Oi<h.objs.size):ObjOk P w H (h.push {cls:= .type "dict",data:= .dict #[]}) h.objs.size (.dK []):=
 ⟨MN _,beq_eq_false_iff_ne.mpr (Ne.symm (MD hb)),[],.nil,Heap.DictOf.new h⟩
def A2:TE:=fun _ H Q=>∀p,H p=none->Q (.ref p) (bA H p (.dK []))
section
variable {X:Cx} {pos:Pos}
theorem wa:PE X (.Dict [] [] pos) A2:=fun pins s σ H Q I h=>
 wpAny_Dict_empty ⟨.ref s.heap.objs.size,_,I.laid (a:=s.heap.objs.size) (o:= .dK []) (t':=s.toks) (fun _ _ q=>Heap.get?_push_of_some _ q) (Mh _) (wc s.heap I.big),rfl,h _ (I.Nw.fresh (Mh _))⟩
end
def vh:List (TE×TE)->St->Hp->(List (V×V)->Hp->Prop)->Prop
 |[],_,H,Q=>Q [] H
 |(tk,tv)::r,σ,H,Q=>tk σ H fun x H1=>tv σ H1 fun y H2=>vh r σ H2 fun ps H3=>Q ((x,y)::ps) H3
noncomputable abbrev VV:List (V×V)->List (L5×L5)->Prop:=Paired fun p q=>RelV p.1 q.1/\RelV p.2 q.2
def KN (X:Cx) (pos:Pos) (keys:List (Option MR)) (values:List MR) (SS:List (TE×TE)):Prop:=
 ∀(pins:List (L8×Obj)) (s:Ma) (σ:St) (H:Hp) (Q:List (V×V)->Hp->Prop),Inv X pins σ H s->vh SS σ H Q->
  wpAny (model X.prog X.w) X.A (evalPairs (pairTrees keys values X.env pos)) (fun vs s'=>∃ps H',Inv X pins σ H' s'/\VV ps vs/\Q ps H') X.xe s
theorem FH {X:Cx} {pos:Pos}:KN X pos [] [] []:=fun pins s σ H Q I h=>pairTrees_nil_walk ⟨[],H,I,.nil,h⟩
theorem mY {X:Cx} {pos:Pos} {k v:MR} {ks:List (Option MR)} {vs:List MR} {tk tv:TE} {SS:List (TE×TE)} (hk:PE X k tk) (hv:PE X v tv) (hr:KN X pos ks vs SS):
  KN X pos (some k::ks) (v::vs) ((tk,tv)::SS):=fun pins s σ H Q I h=>
 pairTrees_cons_walk (c8 (hk pins s σ H _ I h) fun u s1 ⟨x,H1,I1,rx,q1⟩=>c8 (hv pins s1 σ H1 _ I1 q1) fun w2 s2 ⟨y,H2,I2,ry,q2⟩=>
  c8 (hr pins s2 σ H2 _ I2 q2) fun ws s3 ⟨ps,H3,I3,rel,q3⟩=>⟨(x,y)::ps,H3,I3,.cons ⟨rx,ry⟩ rel,q3⟩)
noncomputable def gk (kvs more:List (bt×V)):List (bt×V):=more.foldl (fun acc kv=>jr acc kv.1 kv.2) kvs
theorem KV.merge:∀{more:List (bt×V)} {rs:List (bt×L5)} {kvs:List (bt×V)} {vs:List (bt×L5)},KV more rs->KV kvs vs->KV (gk kvs more) (merged vs rs):=by
 intro more rs kvs vs r;unfold KV at r
 induction r generalizing kvs vs with
 |nil=>intro q;exact q
 | @cons p q ps qs h t ih=>
  intro r0;have e:KV (jr kvs p.1 p.2) (stored vs q.1 q.2):=by have:=r0.put p.1 h.2;rw[<-h.1];exact this
  exact ih e
theorem jb:∀(more kvs:List (bt×V)),(gk kvs more).length<=kvs.length+more.length
 |[],kvs=>by show kvs.length<=kvs.length+0;omega
 |p::r,kvs=>by have h1:=jb r (jr kvs p.1 p.2);have h2:=j4 kvs p.1 p.2;show(gk (jr kvs p.1 p.2) r).length<=_;rw[Mm];omega
theorem pO {P:My} {w:MS}:∀{kvs:List (bt×V)} {ws:List (L5×L5)},VV (kvs.map fun kv=>(kV kv.1,kv.2)) ws->∃rs,Carries (bZ P w) ws rs/\KV kvs rs
 |[],_,r=>by rw[N9] at r;cases r;exact⟨[],True.intro,.nil⟩
 |p::kvs,_,r=>by
  rw[Ms] at r;cases r with
  | @cons a b as bs h t=>obtain⟨rs,c,q⟩:=pO (P:=P) (w:=w) t;obtain⟨b1,b2⟩:=b;exact⟨(p.1,b2)::rs,⟨pX h.1,rfl,c⟩,.cons ⟨rfl,h.2⟩ q⟩
def GQ (SS:List (TE×TE)):TE:=fun σ H Q=>∀p,H p=none->vh SS σ (bA H p (.dK [])) fun ps H2=>H2 p=some (.dK [])/\∃kvs:List (bt×V),ps=kvs.map (fun kv=>(kV kv.1,kv.2))/\kvs.length<=15/\Q (.ref p) (bA H2 p (.dK (gk [] kvs)))
theorem F3 {X:Cx} {pos:Pos} {keys:List (Option MR)} {values:List MR} {SS:List (TE×TE)} (h:KN X pos keys values SS) (Wb:keys.all (·.isSome)=true) (hl:keys.length=values.length) (h0:keys≠[])
  (h15:keys.length<=15):PE X (.Dict keys values pos) (GQ SS):=by
 intro pins s σ H Q I q;have hn:=I.Nw.fresh (Mh s.heap.objs.size);have I1:=I.laid (a:=s.heap.objs.size) (o:= .dK []) (h':=s.heap.push {cls:= .type "dict",data:= .dict #[]}) (t':=s.toks) (fun _ _ q=>Heap.get?_push_of_some _ q) (Mh _) (wc s.heap I.big);refine wpAny_Dict_walk (knd:=bZ X.prog X.w) Wb hl h0 h15 (c8 (h pins _ σ _ _ I1 (q _ hn)) fun ws s2 ⟨ps,H2,I2,rel,e,kvs,ep,lk,q2⟩=> ?_);subst ep;obtain⟨rs,c,rk⟩:=pO (P:=X.prog) (w:=X.w) rel;obtain⟨z,hd,vs0,r0,dd⟩:=sW I2.Nw e;cases r0;refine⟨rs,c,dd,fun h' U6 hs=>⟨.ref s.heap.objs.size,_,?_,rfl,q2⟩⟩;have hz:(gk [] kvs).length<=Mq:=by have h1:=jb kvs [];rw[NH] at h1;rw[Px];omega
 have he:∃q,h'.get? s.heap.objs.size=some q:=let⟨q,_,_,hq,_⟩:=U6;⟨q,hq⟩
 exact ph I2 (by rw[e];exact True.intro) hs he (ue hz hd (rk.merge .nil) U6)
structure M1 (X:Cx) (o:MR) (m:Str) (apos:Pos) (e:MR) (PD:Pos):Prop where
 base:attributeBase o m X.env (eval o X.env)=eval o X.env
 few:((backTo PD (ML [e] X.env)).all (fun x=> !x.1)&&(backToKw PD (keywordEach [] X.env)).all (fun x=>x.1.isSome)
  &&decide (([e]:List MR).length+([]:List RQ).length+(if([]:List RQ).isEmpty then 0 else 1)<30))=true
 line:(apos.endLine==PD.line)=true
 trees:backTo PD (ML [e] X.env)=[(false,eval e X.env)]
structure M2 (X:Cx) (o:MR) (m:Str) (apos:Pos) (e f:MR) (PD:Pos):Prop where
 base:attributeBase o m X.env (eval o X.env)=eval o X.env
 few:((backTo PD (ML [e,f] X.env)).all (fun x=> !x.1)&&(backToKw PD (keywordEach [] X.env)).all (fun x=>x.1.isSome)
  &&decide (([e,f]:List MR).length+([]:List RQ).length+(if([]:List RQ).isEmpty then 0 else 1)<30))=true
 line:(apos.endLine==PD.line)=true
 trees:backTo PD (ML [e,f] X.env)=[(false,eval e X.env),(false,eval f X.env)]
def LG (H:Hp) (a:L8):Prop:=(∃kvs,Rd H a (.dK kvs))\/∃kvs,Rd H a (.dT kvs)
theorem Jb {X:Cx} {pins:List (L8×Obj)} {σ:St} {H:Hp} {s:Ma} {a:L8} (I:Inv X pins σ H s) (d:LG H a):
  s.TypeIs (.ref a) "dict"/\(∀b,L5.ref a= .ref b->∃ob,s.heap.get? b=some ob/\ob.dict=none)/\(a==Oi)=false:=by
 rcases d with⟨kvs,e⟩|⟨kvs,e⟩
 ·obtain⟨_,hd,vs,_,dd⟩:=wM I.Nw e;refine⟨dd.typeIs,fun b q=> ?_,hd⟩;cases q;obtain⟨ob,_,_,h1,h2,_⟩:=dd;exact⟨ob,h1,h2.2.1⟩
 ·obtain⟨_,hd,xs,_,dd⟩:=v8 I.Nw e;refine⟨dd.typeIs,fun b q=> ?_,hd⟩;cases q;obtain⟨ob,_,_,h1,h2,_⟩:=dd;exact⟨ob,h1,h2.2.1⟩
def DD (td ty:TE):TE:=fun σ H Q=>td σ H fun x H1=>∃a,x= .ref a/\LG H1 a/\ty σ H1 fun y H2=>∃kvs k v,H2 a=some (.dK kvs)/\y=kV k/\j3 kvs k=some v/\Q v (bA H2 a (.dK (nj kvs k)))
section
variable {X:Cx} {o e f:MR} {apos PD:Pos} {td ty tx:TE}
theorem CB (ho:PE X o td) (he:PE X e ty) (m:M1 X o "pop" apos e PD):PE X (.Call (.Attribute o "pop" apos) [e] [] PD) (DD td ty):=by intro pins s σ H Q I h;refine wpAny_Call_method m.base m.few m.line OM SF PySem.F.type_dict_pop (c8 (ho pins s σ H _ I h) fun u s1 ⟨x,H1,I1,rx,a,ex,d,q1⟩=> ?_);subst ex;obtain rfl:u=L5.ref a:=rx;obtain⟨t1,t2,_⟩:=Jb I1 d;refine⟨t1,t2,?_⟩;rw[m.trees];refine Calls.callWith_builtin rfl (Calls.evalArgs_plain (Calls.spliced_cons (c8 (he pins s1 σ H1 _ I1 q1) fun iv s2 ⟨y,H2,I2,ry,kvs,k,v,ea,ey,l,q2⟩=>Calls.spliced_nil ?_)));subst ey;exact KF I2 ea ry l (.inl rfl) fun w' s3 I3 TU=>⟨v,_,I3,TU,q2⟩
end
end L2
namespace HT
open PySem PySem.Spec PyProof.Rows PySem.Calls
end HT
namespace L2
open PySem PySem.Spec PyProof.Rows
end L2
namespace PySem
open Sem (wp)
open Builtin
open AutoSeq1 (wpAny_loadPart')
end PySem
namespace L3
open PySem PySem.Spec PyProof.Rows L2
end L3
namespace L4
open PySem PySem.Spec PyProof.Rows L2 L3
structure Lft (l:List Env) (e:L8) (hd:Option L8) (h h':Heap):Prop where
 keep:∀b o,h.get? b=some o->b≠e->hd≠some b->b∉A0 l->h'.get? b=some o
 slot:∀b o,h.get? b=some o->b≠e->hd≠some b->∃sl,h'.get? b=some {o with slots:=sl}
 here:∀b o,h.get? b=some o->∃o',h'.get? b=some o'
section
variable {P:My} {w:MS} {K:Bn} {mg:Str->Option L5} {base:Heap} {N:List Str} {qual:Str} {scope:OH} {f:L8} {cd:L5} {A:MO} {outer:List Env} {s0:Ma} {H0:Hp} {E:XK} {CX:xp}
  {σ:L2.St} {H:Hp} {s:Ma} {h':Heap} {X:Cx}
end
def JZ (K:Bn) (C:L8) (m:List L5):Prop:=∃nm q N bs hd sn sub ab col dd k0 k1 k2 k3 k5 id,K.lookup C=some (excClassObj nm q C N bs m hd sn sub ab col dd k0 k1 k2 k3 k5 id)
structure Apart (X:Cx) (a:L8):Prop where
 n0:X.s₀.heap.get? a=none
 nL:a≠X.env.locals
 nC:∀y c,X.env.cells.lookup y=some c->c≠a
 nP:∀p∈X.pn,p.1≠a
end L4
namespace L4
open PySem PySem.Spec L2 L3
end L4
namespace L4
open PySem PySem.Spec PySem.W PyProof.Rows L2 L3
section
variable {prog:My} {w:MS} {A:MO} {E:L5->Ma->Prop} {h:Heap} {g:Array S8} {d:YW} {t:Nat} {os:OsState} {a C:L8} {o:Obj} {K:Bn}
  {n1 q1:Str} {N1:L8} {b1 m1:List L5} {d1:Bool} {s1:List Str} {u1:List L5} {a1:Bool} {c1:Option Bool} {x1:Option L8} {i0 i1 i2 i3 i5:Option L5} {id1:String}
structure Zb (K:Bn) (C:L8) (m:List L5):Prop where
 cl:JZ K C m
 be:m.contains (.type "BaseException")=true
 ga:findIn K (.ref C) "__getattribute__"=some (some (.builtin "BaseException.__getattribute__"))
 gt:findIn K (.ref C) "__getattr__"=some none
 cs:findIn K (.ref C) "__class__"=some (some (.builtin "object.__class__"))
 ob:mroIn K C (.type "object")=some true
end
end L4
namespace L4
open PySem PySem.SeqAt PySem.Spec PySem.W PyProof.Rows L2 L3
end L4
namespace L4
open PySem PySem.Spec PySem.W PyProof.Rows L2 L3
end L4
namespace PySem
open Sem (wp)
open PyProof.Rows
end PySem
namespace L3
open PySem PySem.Spec PyProof.Rows L2
noncomputable def wY:List Int->Int
 |[]=>0
 |[a]=>a
 |a::r=>if wY r<=a then a else wY r
theorem xb:∀{ns:List Int},0<ns.length->wY ns∈ns/\∀i,i∈ns->i<=wY ns
 |[a],_=>⟨Mp,fun i h=>by rw[MC.mp h];exact P8 _⟩
 |a::b::r,_=>by
  obtain⟨h1,h2⟩:=xb (ns:=b::r) (by rw[Mm];omega);show(if wY (b::r)<=a then a else wY (b::r))∈a::b::r/\∀i,i∈a::b::r->i<=(if wY (b::r)<=a then a else wY (b::r));by_cases q:wY (b::r)<=a
  ·rw[if_pos q]
   refine⟨Mp,fun i h=> ?_⟩;rcases MH.mp h with z|z
   ·omega
   ·have:=h2 i z;omega
  ·rw[if_neg q]
   refine⟨Mj _ h1,fun i h=> ?_⟩;rcases MH.mp h with z|z
   ·omega
   ·exact h2 i z
end L3
namespace HT
open PySem PySem.Spec PyProof.Rows
end HT
namespace L3
open PySem PySem.Spec PyProof.Rows L2
section
variable {K:Bn} {E:XK}
open Classical in
end
end L3
namespace L9
open PySem PySem.Spec PyProof.Rows
end L9
namespace L9
open PySem PySem.W PyProof.Rows Builtin Builtin.ObjectAttr
noncomputable abbrev LM:List L5:=[.type "ValueError",.type "Exception",.type "BaseException",.type "object"]
end L9
namespace L9
open PySem PySem.Spec PyProof.Rows L2
structure XC (K:Bn) (C B fI:L8):Prop where
 obj:∃nm q N bs sn sub ab col dd k0 k1 k2 k3 k5,K.lookup C=some (excClassObj nm q C N bs (.ref B::LM) true sn sub ab col dd k0 k1 k2 k3 k5 "ValueError.__new__")/\PySem.W.nsOkIn K N=true/\MG K N "__init__"=some (some (.ref fI))
 base:PySem.W.excIn K B LM "ValueError.__new__"=true
 sa:M9 K (.ref C) "__setattr__"=some (some (.builtin "object.__setattr__"))
end L9
namespace L9
open PySem PySem.Spec PyProof.Rows L2 L4
end L9
namespace L9
open PySem PySem.Spec PySem.W PyProof.Rows L2 L3 L4
section
variable {prog:My} {w:MS} {A:MO} {E:L5->Ma->Prop} {h:Heap} {g:Array S8} {d:YW} {t:Nat} {os:OsState} {a C:L8} {o:Obj} {K:Bn} {od:Option Obj} {name:Str} {v:L5}
  {n1 q1:Str} {N1:L8} {b1 m1:List L5} {d1:Bool} {s1:List Str} {u1:List L5} {a1:Bool} {c1:Option Bool} {x1:Option L8} {i0 i1 i2 i3 i5:Option L5} {id1:String}
end
end L9
namespace L3
open PySem PySem.Spec PyProof.Rows L2
mutual
noncomputable def LN:Mb->Bool
 | .tuple ds=>Io ds
 | .int _=>true
 | .str _=>true
 | .bool _=>true
 | .none=>true
 |_=>false
noncomputable def Io:List Mb->Bool
 |[]=>true
 |d::r=>LN d&&Io r
end
section
variable {K:Bn} {E:XK} {B:ci} {H0:Hp} {O B':ci} {σ:L2.St} {H H':Hp} {ρ:aK}
theorem ED {a:L8} {xs ys:List V} (h:P4 K H a xs) (l:H a=some (.lst ys)):P4 K (fun _=>none) a xs:=by
 rcases h with(h|⟨o,h⟩)|h
 ·rw[l] at h;cases h
 ·rw[l] at h;cases h
 ·exact .inr h
mutual
theorem E6 (hO:∀b,O b->¬B' b->∃ys,H b=some (.lst ys)):∀{v:V} {d:D},DV B' K H v d->LN d=true->DV O K H v d
 |_,_,.OT,_=> .OT
 |_,_,.bl b,_=> .bl b
 |_,_,.int i,_=> .int i
 |_,_,.str x,_=> .str x
 |_,_,.tup (a:=a) h hs,e=> .tup ⟨h.1,fun z=>by
   by_cases y:B' a
   ·exact h.2 y
   ·obtain⟨ys,q⟩:=hO a z y;exact ED h.1 q⟩ (vY hO hs e)
 |_,_,.lst h hs,e=>by cases e
theorem vY (hO:∀b,O b->¬B' b->∃ys,H b=some (.lst ys)):∀{vs:List V} {ds:List D},Nz B' K H vs ds->Io ds=true->Nz O K H vs ds
 |_,_,.nil,_=> .nil
 |_,_,.cons h hs,e=>by have e':=Bool.and_eq_true_iff.mp e;exact .cons (E6 hO h e'.1) (vY hO hs e'.2)
end
end
end L3
namespace PySem
end PySem
namespace PyProof.Rows
open PySem
section
variable {prog:My} {w:MS} {A:MO} {E:L5->Ma->Prop} {s:Ma}
theorem qC {h:Heap} {a:L8} {vs:List L5} {out:Array L5} {n:Nat} (ho:h.get? a=some (seqObj "list" vs.toArray n)):∃e,(sortedHeap h a vs out).get? a=some (seqObj "list" out e):=by have h1:=get?_update_seq ho (fun _=> #[]);exact⟨_,get?_update_seq (Heap.get?_push_of_some _ (Heap.get?_push_of_some _ h1)) _⟩
theorem oK {h:Heap} {a b:L8} {vs:List L5} {out:Array L5} {o:Obj} (hb:b≠a) (e:h.get? b=some o):(sortedHeap h a vs out).get? b=some o:=
 (Heap.get?_update_other _ _ (Ne.symm hb)).trans (Heap.get?_push_of_some _ (Heap.get?_push_of_some _ ((Heap.get?_update_other _ _ (Ne.symm hb)).trans e)))
theorem yf {l:L8} {vs:List L5} {ns:List Int} {Q:L5->Ma->Prop} (ht:s.heap.IsTuple l vs.toArray) (hI:IntsAre vs ns) (Xa:vs.length<64)
  (h:∀(h1 h':Heap) (out:Array L5) (e:Nat) (ms:List Int),(∀b o,s.heap.get? b=some o->h1.get? b=some o)->h'.get? h1.objs.size=some (seqObj "list" out e)->(∀b o,h1.get? b=some o->h'.get? b=some o)->IntsAre out.toList ms->ms.Perm ns->ms.Pairwise (·<=·)->Q (.ref h1.objs.size) {s with heap:=h'}):
  wpAny (model prog w) A (call (.builtin "sorted") [.ref l]) Q E s:=by
 obtain⟨o,ho,hc,n,hd⟩:=ht;refine Calls.call_function_entry kind_sorted plain_sorted entry_sorted (args_sorted1 _) (L6 (m:=checkCount "sorted" 1 1 _) (Mi (L6 (wpAny_collect_seq l (.inr rfl) ho hc hd (fun h1 hk=>L6 (aaZ ?_)) (by rw[Mo,Px];omega)))));have hL:(h1.push (seqObj "list" vs.toArray 0)).get? h1.objs.size=some (seqObj "list" vs.toArray 0):=Heap.get?_push_size _ rfl;refine L6 (OU (Oc slot_list_sort ⟨_,hL,rfl⟩ entry_list_sort (list_sort_tree hL hI Xa fun out ms a1 a2 a3=>⟨_,rfl,Mi ⟨_,rfl,?_⟩⟩) (args_list_sort _)));obtain⟨e,he⟩:=qC (out:=out) hL;exact h h1 _ out e ms hk he (fun b o' z=>oK (MD (Heap.lt_size z)) (Heap.get?_push_of_some _ z)) a1 a2 a3
end
end PyProof.Rows
namespace L9
open PySem PySem.Spec PyProof.Rows L2 L3
section
variable {K:Bn} {E:XK}
theorem vk {X:Cx}:Oq X (.builtin "sorted") (fun xs H Q=>∃(p:L8) (ns:List Int),xs=[.ref p]/\P4 X.K H p (ns.map V.int)/\ns.length<64/\∀(l:L8) (ms:List Int),H l=none->ms.Perm ns->ms.Pairwise (·<=·)->Q (.ref l) (bA H l (.lst (ms.map V.int)))):=by
 intro pins s σ H xs us Q I r h;obtain⟨p,ns,rfl,hq,Xa,q⟩:=h;obtain⟨u,rfl,ru⟩:=iy r;cases ru;obtain⟨MY,rv,pl,hz⟩:=I.tuple hq;have hl:=rv.length;rw[L7] at hl;refine yf pl (jN rv) (by omega) fun h1 h' out e ms hk he SI hi hp hs=> ?_;have hlen:ms.length=ns.length:=hp.length_eq;have I1:Inv X pins σ H {s with heap:=h1}:=I.kept (t':=s.toks) hk;refine⟨.ref h1.objs.size,_,I1.laid (t':=s.toks) (o:= .lst (ms.map V.int)) SI (Mh _) ?_,rfl,q _ ms (I1.Nw.fresh (Mh _)) hp hs⟩;refine⟨?_,out.toList,e,jg hi,he⟩;rw[L7,hlen];have:(64:Nat)<=Mq:=by decide
 omega
theorem mZ {X:Cx}:Oq X (.builtin "sorted") (fun xs H Q=>(∃(p:L8) (ns:List Int),xs=[.ref p]/\PU X.K H p (ns.map V.int)/\ns.length<64/\∀(l:L8) (ms:List Int),H l=none->ms.Perm ns->ms.Pairwise (·<=·)->Q (.ref l) (bA H l (.lst (ms.map V.int))))\/
  (∃(p:L8) (ns:List Int),xs=[.ref p]/\P4 X.K H p (ns.map V.int)/\ns.length<64/\∀(l:L8) (ms:List Int),H l=none->ms.Perm ns->ms.Pairwise (·<=·)->Q (.ref l) (bA H l (.lst (ms.map V.int))))):=L2.Oq.or vI vk
noncomputable def gh:List D->Option RV
 |[.tuple ds]=>(match kA ds with
  |some ns=>if ns.length<64 then some (.ow ((iZ ns).map .int)) else none
  |none=>none)
 |ds=>t9 ds
theorem rM:yK K (fun xs H Q=>(∃(p:L8) (ns:List Int),xs=[.ref p]/\PU K H p (ns.map V.int)/\ns.length<64/\∀(l:L8) (ms:List Int),H l=none->ms.Perm ns->ms.Pairwise (·<=·)->Q (.ref l) (bA H l (.lst (ms.map V.int))))\/
  (∃(p:L8) (ns:List Int),xs=[.ref p]/\P4 K H p (ns.map V.int)/\ns.length<64/\∀(l:L8) (ms:List Int),H l=none->ms.Perm ns->ms.Pairwise (·<=·)->Q (.ref l) (bA H l (.lst (ms.map V.int))))) gh:=by
 intro O H xs ds rv Q n hp e q;unfold gh at e;split at e
 ·split at e
  ·rename_i ns hs
   split at e
   ·rename_i hn
    cases e;cases hp with
    |cons h1 h2=>cases h2;obtain⟨a,vs,rfl,g1,g2⟩:=Cl h1;rw[mW g2 hs] at g1;refine .inr ⟨a,ns,rfl,g1.1,hn,fun l ms hl hpm eC=> ?_⟩;have e2:ms=iZ ns:=k8 (hpm.trans (fL ns).symm) eC (eU ns);subst e2;exact q.new (qQ _) l hl
   ·cases e
  ·cases e
 ·exact .inl (sY O H xs ds rv Q n hp e q)
end
end L9
namespace L9
open PySem PySem.W PyProof.Rows Builtin Builtin.ObjectAttr
open PySem.Spec L2
open L3 L4
end L9
namespace L10
open PySem L2 L3
inductive AV where
 |fz (d:D)
 |rf (i:Nat)
inductive SV where
 |fz (d:D)
 |rf (i:Nat)
 |tp (l:List AV)
noncomputable def AV.sv:AV->SV
 | .fz d=> .fz d
 | .rf i=> .rf i
inductive Cell where
 |lst (xs:List SV)
 |Oe (kvs:List (bt×SV))
 |obj (C:Str) (fs:List (Str×SV))
 |dead
abbrev bv:=List Cell
abbrev bS:=List (Option SV)
inductive RS (α:Type) where
 |ok (a:α) (Z:bv)
 |er (x:Xc) (Z:bv)
 |bad
noncomputable def RS.bind {α β:Type} (r:RS α) (f:α->bv->RS β):RS β:=match r with
 | .ok a Z=>f a Z
 | .er x Z=> .er x Z
 | .bad=> .bad
noncomputable def RS.M3 {α:Type} (Z:bv):Option α->RS α
 |some a=> .ok a Z
 |none=> .bad
theorem RS.bind_ok {α β:Type} (a:α) (Z:bv) (f:α->bv->RS β):(RS.ok a Z).bind f=f a Z:=rfl
noncomputable def Lv (α:List L8) (Z:bv):ci:=fun b=>∃(i:Nat) (c:Cell),α[i]? =some b/\Z[i]? =some c/\c≠Cell.dead
noncomputable def ow (B:ci) (α:List L8) (Z:bv):ci:=fun b=>B b\/Lv α Z b
section
variable (O:ci) (K:Bn) (H:Hp) (α:List L8)
def TK (v:V):AV->Prop
 | .fz d=>DV O K H v d
 | .rf i=>∃a,α[i]? =some a/\v= .ref a
def OG (v:V):SV->Prop
 | .fz d=>DV O K H v d
 | .rf i=>∃a,α[i]? =some a/\v= .ref a
 | .tp l=>∃a xs,v= .ref a/\Qj O K H a xs/\Paired (TK O K H α) xs l
noncomputable abbrev Ov:List V->List SV->Prop:=Paired (OG O K H α)
def Uk (a:L8):Cell->Prop
 | .lst xs=>∃vs,H a=some (.lst vs)/\Ov O K H α vs xs
 | .Oe kvs=>∃ws:List (bt×V),H a=some (.dK ws)/\Paired (fun(p:bt×V) (q:bt×SV)=>p.1=q.1/\OG O K H α p.2 q.2) ws kvs
 | .obj C fs=>∃Ca dx ws,MG K Mv C=some (some (.ref Ca))/\H a=some (.ins Ca dx ws)/\Paired (fun(p:Str×V) (q:Str×SV)=>p.1=q.1/\OG O K H α p.2 q.2) ws fs
 | .dead=>True
def Oz (σ:L2.St) (ρ:bS):Prop:=σ.length=ρ.length/\∀(i:Nat) (x:SV),ρ[i]? =some (some x)->∃v,σ[i]? =some (some v)/\OG O K H α v x
end
structure MF (B:ci) (K:Bn) (H:Hp) (α:List L8) (Z:bv):Prop where
 len:α.length=Z.length
 nd:∀(i j:Nat) (a:L8),α[i]? =some a->α[j]? =some a->i=j
 bn:∀a,B a->H a≠none
 ba:∀a,B a->∀i:Nat,α[i]?≠some a
 al:∀(i:Nat) (a:L8),α[i]? =some a->H a≠none
 R8:∀(i:Nat) (a:L8) (c:Cell),α[i]? =some a->Z[i]? =some c->Uk (ow B α Z) K H α a c
structure NA (α:List L8) (Z:bv) (H:Hp) (α':List L8) (Z':bv) (H':Hp):Prop where
 pre:∀(i:Nat) (a:L8),α[i]? =some a->α'[i]? =some a
 kp:∀b o,H b=some o->¬Lv α Z b->H' b=some o
 lv:∀b,Lv α' Z' b->Lv α Z b\/H b=none
section
variable {B O O':ci} {K:Bn} {E:XK} {H H' H1 H2:Hp} {α α' α1 α2:List L8} {Z Z' Z1 Z2:bv} {σ:L2.St} {ρ:bS} {v:V}
theorem NA.refl:NA α Z H α Z H:=⟨fun _ _ h=>h,fun _ _ h _=>h,fun _ h=> .inl h⟩
theorem NA.trans (a:NA α Z H α1 Z1 H1) (b:NA α1 Z1 H1 α2 Z2 H2):NA α Z H α2 Z2 H2:=by
 have n1:∀b o,H b=some o->¬Lv α Z b->¬Lv α1 Z1 b:=fun b o h n z=>(a.lv b z).elim n fun q=>by rw[h] at q;cases q
 refine⟨fun i p h=>b.pre i p (a.pre i p h),fun p o h n=>b.kp p o (a.kp p o h n) (n1 p o h n),fun p h=> ?_⟩;rcases b.lv p h with h|h
 ·exact a.lv p h
 ·cases q:H p with
  |none=>exact .inr rfl
  |some o=>refine .inl (Classical.byContradiction fun n=> ?_);rw[a.kp p o q n] at h;cases h
theorem NA.same (s:Nt H H'):NA α Z H α Z H':=⟨fun _ _ h=>h,fun b o h _=>s b o h,fun _ h=> .inl h⟩
theorem NA.ev (e:NA α Z H α' Z' H'):Ev (ow B α Z) H (ow B α' Z') H':=fun b o h n=>
 ⟨e.kp b o h fun z=>n (.inr z),fun z=>z.elim (fun q=>n (.inl q)) fun q=>(e.lv b q).elim (fun q=>n (.inr q)) fun q=>by rw[h] at q;cases q⟩
theorem TK.ev {x:AV} (e:Ev O H O' H') (p:∀(i:Nat) (a:L8),α[i]? =some a->α'[i]? =some a) (h:TK O K H α v x):TK O' K H' α' v x:=by
 cases x with
 |fz d=>exact DV.ev e h
 |rf i=>obtain⟨a,h1,h2⟩:=h;exact⟨a,p i a h1,h2⟩
theorem OG.ev {x:SV} (e:Ev O H O' H') (p:∀(i:Nat) (a:L8),α[i]? =some a->α'[i]? =some a) (h:OG O K H α v x):OG O' K H' α' v x:=by
 cases x with
 |fz d=>exact DV.ev e h
 |rf i=>obtain⟨a,h1,h2⟩:=h;exact⟨a,p i a h1,h2⟩
 |tp l=>obtain⟨a,xs,h1,h2,h3⟩:=h;exact⟨a,xs,h1,h2.ev e,Paired.Ph h3 fun _ _ q=>q.ev e p⟩
theorem OG.Oy {x:SV} (e:NA α Z H α' Z' H') (h:OG (ow B α Z) K H α v x):OG (ow B α' Z') K H' α' v x:=h.ev e.ev e.pre
theorem Ov.Oy {vs:List V} {xs:List SV} (e:NA α Z H α' Z' H') (h:Ov (ow B α Z) K H α vs xs):Ov (ow B α' Z') K H' α' vs xs:=Paired.Ph h fun _ _ q=>q.Oy e
theorem Oz.Oy (e:NA α Z H α' Z' H') (h:Oz (ow B α Z) K H α σ ρ):Oz (ow B α' Z') K H' α' σ ρ:=⟨h.1,fun i x q=>let⟨v,h1,h2⟩:=h.2 i x q;⟨v,h1,h2.Oy e⟩⟩
theorem Uk.ev {a:L8} {c:Cell} (e:Ev O H O' H') (p:∀(i:Nat) (a:L8),α[i]? =some a->α'[i]? =some a) (ha:∀o,H a=some o->H' a=some o) (h:Uk O K H α a c):Uk O' K H' α' a c:=by
 cases c with
 |lst xs=>obtain⟨vs,h1,h2⟩:=h;exact⟨vs,ha _ h1,Paired.Ph h2 fun _ _ q=>q.ev e p⟩
 |Oe kvs=>obtain⟨ws,h1,h2⟩:=h;exact⟨ws,ha _ h1,Paired.Ph h2 fun _ _ q=>⟨q.1,q.2.ev e p⟩⟩
 |obj C fs=>obtain⟨Ca,dx,ws,h0,h1,h2⟩:=h;exact⟨Ca,dx,ws,h0,ha _ h1,Paired.Ph h2 fun _ _ q=>⟨q.1,q.2.ev e p⟩⟩
 |dead=>trivial
theorem MF.Sa (s:MF B K H α Z):mS (ow B α Z) H:=fun a h z=>z.elim (fun q=>s.bn a q h) fun⟨i,c,q,_⟩=>s.al i a q h
theorem MF.owd (s:MF B K H α Z):∀a,ow B α Z a->H a≠none:=fun a z h=>s.Sa a h z
theorem MF.grow (s:MF B K H α Z) (e:Nt H H'):MF B K H' α Z:=by have n:∀a,H a≠none->H' a≠none:=fun a h z=>h (e.free z);exact⟨s.len,s.nd,fun a h=>n a (s.bn a h),s.ba,fun i a h=>n a (s.al i a h),fun i a c h1 h2=>(s.R8 i a c h1 h2).ev (Ev.grow e) (fun _ _ h=>h) fun o h=>e _ _ h⟩
theorem MF.at (s:MF B K H α Z) {i:Nat} {c:Cell} (h:Z[i]? =some c):∃a,α[i]? =some a:=by have:i<Z.length:=(Md.mp h).1;rw[<-s.len] at this;exact⟨_,Mf this⟩
theorem MF.Vo (s:MF B K H α Z) {i:Nat} {a:L8} (h:α[i]? =some a):¬B a:=fun z=>s.ba a z i h
theorem yd {i:Nat} {c c':Cell} (h:Z[i]? =some c) (hc:c≠ .dead) (SH:c'≠ .dead) {b:L8}:Lv α (Z.set i c') b↔Lv α Z b:=by
 constructor
 ·rintro⟨j,d,h1,h2,h3⟩
  rcases cA h2 with⟨rfl,rfl⟩|⟨_,h2⟩
  ·exact⟨j,c,h1,h,hc⟩
  ·exact⟨j,d,h1,h2,h3⟩
 ·rintro⟨j,d,h1,h2,h3⟩
  by_cases e:j=i
  ·subst e;exact⟨j,c',h1,by rw[N7 (Md.mp h).1],SH⟩
  ·exact⟨j,d,h1,by rw[Ox (fun z=>e z.symm)];exact h2,h3⟩
theorem HU {i:Nat} {c c':Cell} (h:Z[i]? =some c) (hc:c≠ .dead) (SH:c'≠ .dead):ow B α (Z.set i c')=ow B α Z:=by funext b;exact propext ⟨fun z=>z.imp id (yd h hc SH).mp,fun z=>z.imp id (yd h hc SH).mpr⟩
theorem NA.put {i:Nat} {a:L8} {c c':Cell} {o:HO} (ha:α[i]? =some a) (h:Z[i]? =some c) (hc:c≠ .dead) (SH:c'≠ .dead):NA α Z H α (Z.set i c') (bA H a o):=
 ⟨fun _ _ h=>h,fun b o' q n=>by have z:b≠a:=fun e=>n ⟨i,c,by rw[e];exact ha,h,hc⟩;rw[aO z];exact q,fun b z=> .inl ((yd h hc SH).mp z)⟩
theorem MF.put (s:MF B K H α Z) {i:Nat} {a:L8} {c c':Cell} {o:HO} (ha:α[i]? =some a) (h:Z[i]? =some c) (hc:c≠ .dead) (SH:c'≠ .dead) (new:Uk (ow B α Z) K (bA H a o) α a c'):MF B K (bA H a o) α (Z.set i c'):=by
 have e:NA α Z H α (Z.set i c') (bA H a o):=NA.put ha h hc SH;have n:∀b,H b≠none->bA H a o b≠none:=fun b h=>by
  by_cases z:b=a
  ·subst z;rw[aH];simp
  ·rw[aO z];exact h
 refine⟨by rw[Nc];exact s.len,s.nd,fun b h=>n b (s.bn b h),s.ba,fun j b h=>n b (s.al j b h),fun j b d h1 h2=> ?_⟩;rcases cA h2 with⟨rfl,rfl⟩|⟨QR,h2⟩
 ·rw[ha] at h1;cases h1;rw[HU h hc SH];exact new
 ·exact(s.R8 j b d h1 h2).ev e.ev e.pre fun u q=>by rw[aO (fun z=>QR (s.nd j i a (by rw[<-z];exact h1) ha))];exact q
theorem uY {i:Nat} {a:L8} {c:Cell} {o:HO} (ha:α[i]? =some a) (h:Z[i]? =some c) (hc:c≠ .dead):Ev (ow B α Z) H (ow B α Z) (bA H a o):=Ev.mut (.inr ⟨i,c,ha,h,hc⟩) o
theorem bC {α:Type} {l:List α} {x y:α} {i:Nat} (h:(l++[x])[i]? =some y):l[i]? =some y\/(i=l.length/\y=x):=by
 by_cases hi:i<l.length
 ·rw[MM hi] at h;exact .inl h
 ·rw[MP (by omega)] at h
  cases q:i - l.length with
  |zero=>rw[q] at h;cases h;exact .inr ⟨by omega,rfl⟩
  |succ n=>rw[q] at h;cases h
theorem eK {α:Type} {l:List α} {x y:α} {i:Nat} (h:l[i]? =some y):(l++[x])[i]? =some y:=by rw[MM (Md.mp h).1];exact h
theorem aN {α:Type} {l:List α} {x:α}:(l++[x])[l.length]? =some x:=by simp
theorem oa {p:L8} {c:Cell} (hl:α.length=Z.length) {b:L8} (h:Lv (α++[p]) (Z++[c]) b):Lv α Z b\/b=p:=by
 obtain⟨i,d,h1,h2,h3⟩:=h;rcases bC h1 with h1|⟨e1,e2⟩
 ·rcases bC h2 with h2|⟨e1,e2⟩
  ·exact .inl ⟨i,d,h1,h2,h3⟩
  ·have:=(Md.mp h1).1;omega
 ·exact .inr e2
theorem NA.S0 {p:L8} {c:Cell} (hl:α.length=Z.length) (s:Nt H H') (hp:H p=none):NA α Z H (α++[p]) (Z++[c]) H':=
 ⟨fun i a h=>eK h,fun b u q _=>s b u q,fun b z=>(oa hl z).imp id fun e=>by rw[e];exact hp⟩
theorem MF.S0 (s:MF B K H α Z) {p:L8} {c:Cell} (e:Nt H H') (hp:H p=none) (hq:H' p≠none) (new:Uk (ow B (α++[p]) (Z++[c])) K H' (α++[p]) p c):MF B K H' (α++[p]) (Z++[c]):=by
 have ev:NA α Z H (α++[p]) (Z++[c]) H':=NA.S0 s.len e hp;have n:∀b,H b≠none->H' b≠none:=fun b h z=>h (e.free z);refine⟨by rw[Mg,Mg,s.len];rfl,fun i j a h1 h2=> ?_,fun a h=>n a (s.bn a h),fun a h i q=> ?_,fun i a h=> ?_,fun i a d h1 h2=> ?_⟩
 ·rcases bC h1 with g1|⟨e1,e2⟩<;>rcases bC h2 with g2|⟨e3,e4⟩
  ·exact s.nd i j a g1 g2
  ·exact absurd (by rw[e4];exact hp) (s.al i a g1)
  ·exact absurd (by rw[e2];exact hp) (s.al j a g2)
  ·omega
 ·rcases bC q with q|⟨_,e2⟩
  ·exact s.ba a h i q
  ·subst e2;exact s.bn a h hp
 ·rcases bC h with h|⟨_,e2⟩
  ·exact n a (s.al i a h)
  ·subst e2;exact hq
 ·rcases bC h2 with h2|⟨e1,e2⟩
  ·rcases bC h1 with h1|⟨e1,_⟩
   ·exact(s.R8 i a d h1 h2).ev ev.ev ev.pre fun o q=>e _ _ q
   ·have:=(Md.mp h2).1;have:=s.len;omega
  ·rcases bC h1 with h1|⟨_,e3⟩
   ·have:=(Md.mp h1).1;have:=s.len;omega
   ·subst e2 e3;exact new
def WS {A:Type} (K:Bn) (E:XK) (B:ci) (H:Hp) (α:List L8) (Z:bv) (P:A->List L8->bv->Hp->Prop):RS A->Prop
 | .ok a Z'=>∀α' H',NA α Z H α' Z' H'->MF B K H' α' Z'->P a α' Z' H'
 | .er x Z'=>∀c dx α' H',NA α Z H α' Z' H'->MF B K H' α' Z'->Wg K (ow B α' Z') H' c dx x->E c dx H'
 | .bad=>False
theorem WS.from {A:Type} {P:A->List L8->bv->Hp->Prop} {r:RS A} (e:NA α Z H α1 Z1 H1) (h:WS K E B H α Z P r):WS K E B H1 α1 Z1 P r:=by
 cases r with
 |ok a Z2=>exact fun α2 H2 e2 s2=>h α2 H2 (e.trans e2) s2
 |er x Z2=>exact fun c dx α2 H2 e2 s2=>h c dx α2 H2 (e.trans e2) s2
 |bad=>exact h
theorem WS.bind {A C:Type} {P:C->List L8->bv->Hp->Prop} {r:RS A} {k:A->bv->RS C} (h:WS K E B H α Z P (r.bind k)):WS K E B H α Z (fun a α1 Z1 H1=>WS K E B H1 α1 Z1 P (k a Z1)) r:=by
 cases r with
 |ok a Z1=>exact fun α1 H1 e1 _=>WS.from e1 h
 |er x Z1=>exact h
 |bad=>exact h
theorem WS.M3 {A C:Type} {P:C->List L8->bv->Hp->Prop} {o:Option A} {k:A->bv->RS C} (h:WS K E B H α Z P ((RS.M3 Z o).bind k)):∃a,o=some a/\WS K E B H α Z P (k a Z):=by
 cases o with
 |none=>exact h.elim
 |some a=>exact⟨a,rfl,h⟩
theorem WS.imp {A:Type} {P P':A->List L8->bv->Hp->Prop} {r:RS A} (h:WS K E B H α Z P r) (g:∀a α' Z' H',NA α Z H α' Z' H'->MF B K H' α' Z'->P a α' Z' H'->P' a α' Z' H'):WS K E B H α Z P' r:=by
 cases r with
 |ok a Z1=>exact fun α1 H1 e1 s1=>g a α1 Z1 H1 e1 s1 (h α1 H1 e1 s1)
 |er x Z1=>exact h
 |bad=>exact h
theorem WS.now {A:Type} {P:A->List L8->bv->Hp->Prop} {a:A} (s:MF B K H α Z) (h:WS K E B H α Z P (.ok a Z)):P a α Z H:=h α H .refl s
end
abbrev bK:=bS->bv->RS SV
abbrev jf:=bS->bv->RS Bool
abbrev lB:=bS->bv->RS (List SV)
def eA (K:Bn) (E:XK) (t:TE) (f:bK):Prop:=
 ∀(B:ci) (σ:L2.St) (H:Hp) (α:List L8) (Z:bv) (ρ:bS) (Q:VK),MF B K H α Z->Oz (ow B α Z) K H α σ ρ->WS K E B H α Z (fun x α' Z' H'=>∀v,OG (ow B α' Z') K H' α' v x->Q v H') (f ρ Z)->t σ H Q
def wL (K:Bn) (E:XK) (t:TT) (f:jf):Prop:=
 ∀(B:ci) (σ:L2.St) (H:Hp) (α:List L8) (Z:bv) (ρ:bS) (Q:Bool->Hp->Prop),MF B K H α Z->Oz (ow B α Z) K H α σ ρ->WS K E B H α Z (fun b _ _ H'=>Q b H') (f ρ Z)->t σ H Q
def AX (K:Bn) (E:XK) (t:TA) (f:lB):Prop:=
 ∀(B:ci) (σ:L2.St) (H:Hp) (α:List L8) (Z:bv) (ρ:bS) (Q:List V->Hp->Prop),MF B K H α Z->Oz (ow B α Z) K H α σ ρ->WS K E B H α Z (fun xs α' Z' H'=>∀vs,Ov (ow B α' Z') K H' α' vs xs->Q vs H') (f ρ Z)->t σ H Q
section
variable {B O O':ci} {K:Bn} {E:XK} {H H' H1 H2:Hp} {α α' α1 α2:List L8} {Z Z' Z1 Z2:bv} {σ:L2.St} {ρ:bS} {v:V}
noncomputable def Bf:Option SV->Option PV
 |some (.fz d)=>some (.fz d)
 |_=>none
noncomputable def b6 (ρ:bS):aK:=ρ.map Bf
theorem sD {i:Nat} {x:PV} (h:(b6 ρ)[i]? =some (some x)):∃d,x= .fz d/\ρ[i]? =some (some (.fz d)):=by
 unfold b6 at h;rw[Ml] at h;cases q:ρ[i]? with
 |none=>rw[q] at h;cases h
 |some o=>
  rw[q] at h;have h':Bf o=some x:=Mw h;unfold Bf at h';split at h'
  ·cases h';exact⟨_,rfl,rfl⟩
  ·cases h'
theorem BD (s:MF B K H α Z) (sl:Oz (ow B α Z) K H α σ ρ):Rl K (ow B α Z) H (ow B α Z) σ H (b6 ρ):=by
 refine⟨Nt.refl _,fun _ h=>h,s.owd,s.Sa,by unfold b6;rw[L7];exact sl.1,fun i x h=> ?_,fun i j ds es w h=> ?_⟩
 ·obtain⟨d,rfl,hd⟩:=sD h;obtain⟨v,h1,h2⟩:=sl.2 i _ hd;exact⟨v,h1,h2⟩
 ·obtain⟨d,e,_⟩:=sD h;cases e
noncomputable def kG (Z:bv):RV->RS SV
 | .fz d=> .ok (.fz d) Z
 | .ow ds=> .ok (.rf Z.length) (Z++[.lst (ds.map .fz)])
noncomputable abbrev PQ (B:ci) (K:Bn) (Q:VK):SV->List L8->bv->Hp->Prop:=fun x α' Z' H'=>∀v,OG (ow B α' Z') K H' α' v x->Q v H'
theorem nQ (O:ci) (α:List L8):∀{vs:List V} {ds:List D},Nz O K H vs ds->Ov O K H α vs (ds.map .fz)
 |_,_,.nil=> .nil
 |_,_,.cons h t=> .cons h (nQ O α t)
theorem xj:∀{vs:List V} {ds:List D},Ov O K H α vs (ds.map .fz)->Nz O K H vs ds
 |_,[],.nil=> .nil
 |_,_::_,.cons h t=> .cons h (xj t)
theorem rT {Q:VK} {ds:List D} {p:L8} {vs:List V} {O':ci} (s:MF B K H α Z) (w:WS K E B H α Z (PQ B K Q) (kG Z (.ow ds))) (e:Nt H H') (hp:H p=none) (h:H' p=some (.lst vs)) (hd:Nz O' K H' vs ds) (hO:∀b,ow B α Z b->O' b) (hq:O' p):Q (.ref p) H':=by
 have sub:∀b,ow B (α++[p]) (Z++[.lst (ds.map .fz)]) b->O' b:=fun b z=>z.elim (fun q=>hO b (.inl q)) fun q=>(oa s.len q).elim (fun q=>hO b (.inr q)) fun q=>by rw[q];exact hq
 exact w (α++[p]) H' (NA.S0 s.len e hp) (s.S0 e hp (by rw[h];simp) ⟨vs,h,nQ _ _ (hd.ev (Ev.sub sub))⟩) (.ref p) ⟨p,by rw[<-s.len];exact aN,rfl⟩
theorem Bi {Q:VK} {rv:RV} (s:MF B K H α Z) (w:WS K E B H α Z (PQ B K Q) (kG Z rv)):Fin (ow B α Z) K H Q rv:=by
 cases rv with
 |fz d=>exact fun v H' e dv=>w α H' (NA.same e) (s.grow e) v dv
 |ow ds=>exact fun p vs H' e hp h dv=>rT s w e hp h dv (fun b z=> .inl z) (.inr rfl)
noncomputable def af (f:FE):bK:=fun ρ Z=>match f (b6 ρ) with
 | .ok (.fz d,_)=> .ok (.fz d) Z
 | .ok (.ow ds,_)=>kG Z (.ow ds)
 | .ok (.pl _,_)=> .bad
 | .er x=> .er x Z
 | .bad=> .bad
theorem aI {t:TE} {f:FE} (h:EO K E t f):eA K E t (af f):=by
 intro B σ H α Z ρ Q s sl w;refine h (ow B α Z) H (ow B α Z) σ H (b6 ρ) Q (BD s sl) ?_;unfold af at w;cases q:f (b6 ρ) with
 |bad=>rw[q] at w;exact w.elim
 |er x=>rw[q] at w;exact fun c dx H' e k=>w c dx α H' (NA.same e) (s.grow e) k
 |ok r=>
  obtain⟨pv,ρ'⟩:=r;rw[q] at w;intro O' v H' e R p;cases pv with
  |fz d=>exact w α H' (NA.same R.same) (s.grow R.same) v (DV.ev (Ev.sub R.bo) p)
  |ow ds=>obtain⟨a,vs,rfl,h1,h2,h3,h4,h5⟩:=p;exact rT s w R.same h2 h3 h4 R.bo h1
  |pl i=>exact w.elim
noncomputable def aM (f:FT):jf:=fun ρ Z=>match f (b6 ρ) with
 | .ok (b,_)=> .ok b Z
 | .er x=> .er x Z
 | .bad=> .bad
theorem kE {t:TT} {f:FT} (h:Td K E t f):wL K E t (aM f):=by
 intro B σ H α Z ρ Q s sl w;refine h (ow B α Z) H (ow B α Z) σ H (b6 ρ) Q (BD s sl) ?_;unfold aM at w;cases q:f (b6 ρ) with
 |bad=>rw[q] at w;exact w.elim
 |er x=>rw[q] at w;exact fun c dx H' e k=>w c dx α H' (NA.same e) (s.grow e) k
 |ok r=>obtain⟨b,ρ'⟩:=r;rw[q] at w;exact fun O' H' e R=>w α H' (NA.same R.same) (s.grow R.same)
noncomputable def aq (i:Nat):bK:=fun ρ Z=>match ρ[i]? with
 |some (some x)=> .ok x Z
 |_=> .bad
theorem cO {i:Nat}:eA K E (Aa i) (aq i):=by
 intro B σ H α Z ρ Q s sl w;unfold aq at w;cases q:ρ[i]? with
 |none=>rw[q] at w;exact w.elim
 |some o=>
  cases o with
  |none=>rw[q] at w;exact w.elim
  |some x=>rw[q] at w;obtain⟨v,h1,h2⟩:=sl.2 i x q;exact⟨v,h1,WS.now s w v h2⟩
def jh (K:Bn) (C:Str) (fs:List Str):Prop:=∃Ca,MG K Mv C=some (some (.ref Ca))/\T2 K Ca/\∀f∈fs,Qy K Ca f
noncomputable def cx (C f:Str) (e:bK):bK:=fun ρ Z=>(e ρ Z).bind fun x Z1=>match x with
 | .rf i=>(match Z1[i]? with
  |some (.obj D fs)=>if D=C then RS.M3 Z1 (fs.lookup f) else .bad
  |_=> .bad)
 |_=> .bad
theorem sB {f:Str} {x:SV}:∀{ws:List (Str×V)} {fs:List (Str×SV)},Paired (fun(p:Str×V) (q:Str×SV)=>p.1=q.1/\OG O K H α p.2 q.2) ws fs->fs.lookup f=some x->∃v,ws.lookup f=some v/\OG O K H α v x
 |_,_,.nil,h=>by cases h
 |(a,v)::ws,(b,y)::fs,.cons ⟨h1,h2⟩ t,h=>by
  cases h1;rw[Mu] at h⊢;split at h
  ·cases h;exact⟨v,rfl,h2⟩
  ·exact sB t h
theorem tm {f:Str}:∀{ws:List (Str×V)} {fs:List (Str×SV)},Paired (fun(p:Str×V) (q:Str×SV)=>p.1=q.1/\OG O K H α p.2 q.2) ws fs->fs.lookup f=none->ws.lookup f=none
 |_,_,.nil,h=>rfl
 |(a,v)::ws,(b,y)::fs,.cons ⟨h1,h2⟩ t,h=>by
  cases h1;rw[Mu] at h⊢;split at h
  ·cases h
  ·exact tm t h
theorem hJ {C f:Str} {L:List Str} {ta:TE} {fa:bK} (hc:jh K C L) (hf:f∈L) (ha:eA K E ta fa):eA K E (JI K ta f) (cx C f fa):=by
 intro B σ H α Z ρ Q s sl w;refine ha B σ H α Z ρ _ s sl (w.bind.imp fun x α1 Z1 H1 e1 s1 w1 v hv=> ?_);cases x with
 |fz d=>exact w1.elim
 |tp l=>exact w1.elim
 |rf i=>
  obtain⟨a,ha,rfl⟩:=hv;dsimp only at w1;cases q:Z1[i]? with
  |none=>rw[q] at w1;exact w1.elim
  |some c=>
   rw[q] at w1;cases c with
   |obj D fs=>
    dsimp only at w1;by_cases z:D=C
    ·subst z
     rw[if_pos rfl] at w1;obtain⟨Ca,dx,ws,h0,h1,h2⟩:=s1.R8 i a _ ha q;cases ql:fs.lookup f with
     |none=>rw[ql] at w1;exact w1.elim
     |some x=>rw[ql] at w1;obtain⟨u,hu,vu⟩:=sB h2 ql;obtain⟨Cb,g0,g1,g2⟩:=hc;rw[h0] at g0;cases g0;exact⟨a,Ca,dx,ws,u,rfl,h1,g1,g2 f hf,hu,WS.now s1 w1 u vu⟩
    ·rw[if_neg z] at w1;exact w1.elim
   |_=>exact w1.elim
noncomputable def aF {α β:Type} (f:α->Option β):List α->Option (List β)
 |[]=>some []
 |x::r=>match f x with
  |some y=>(match aF f r with
   |some ys=>some (y::ys)
   |none=>none)
  |none=>none
noncomputable def nr:Nat->bv->SV->Option D
 |_,_,.fz d=>some d
 |0,_,_=>none
 |n+1,Z,.rf i=>match Z[i]? with
  |some (.lst xs)=>(aF (nr n Z) xs).map .list
  |_=>none
 |n+1,Z,.tp l=>(aF (fun x=>nr n Z x.sv) l).map .tuple
theorem dF {α β:Type} {f:α->Option β} {R:V->α->Prop} {S:V->β->Prop} (h:∀v x y,R v x->f x=some y->S v y):∀{vs:List V} {xs:List α} {ys:List β},Paired R vs xs->aF f xs=some ys->Paired S vs ys
 |_,_,_,.nil,e=>by cases e;exact .nil
 |_,_,_,.cons (b:=x) (l₂:=xs) r t,e=>by
  unfold aF at e;cases q:f x with
  |none=>rw[q] at e;cases e
  |some y=>
   rw[q] at e;dsimp only at e;cases q2:aF f xs with
   |none=>rw[q2] at e;cases e
   |some ys=>rw[q2] at e;cases e;exact .cons (h _ _ _ r q) (dF h t q2)
theorem ko:∀{vs:List V} {ds:List D},Paired (DV O K H) vs ds->Nz O K H vs ds
 |_,_,.nil=> .nil
 |_,_,.cons h t=> .cons h (ko t)
theorem GW:Ev O H Sa H:=Ev.sub fun _ z=>z.elim
theorem jy (s:MF B K H α Z):∀(n:Nat) {v:V} {x:SV} {d:D},OG (ow B α Z) K H α v x->nr n Z x=some d->DV Sa K H v d
 |n,v,.fz d',d,h,e=>by
  have e':some d'=some d:=by cases n<;>exact e
  cases e';exact DV.ev GW h
 |0,v,.rf i,d,h,e=>by cases e
 |0,v,.tp l,d,h,e=>by cases e
 |n+1,v,.rf i,d,h,e=>by
  obtain⟨a,ha,rfl⟩:=h;unfold nr at e;cases q:Z[i]? with
  |none=>rw[q] at e;cases e
  |some c=>
   rw[q] at e;cases c with
   |lst xs=>
    dsimp only at e;cases q2:aF (nr n Z) xs with
    |none=>rw[q2] at e;cases e
    |some ds=>rw[q2] at e;cases e;obtain⟨vs,h1,h2⟩:=s.R8 i a _ ha q;exact .lst ⟨PB.of h1,fun z=>z.elim⟩ (ko (dF (R:=OG (ow B α Z) K H α) (S:=L3.DV Sa K H) (fun v x y r e=>jy s n r e) h2 q2))
   |_=>cases e
 |n+1,v,.tp l,d,h,e=>by
  obtain⟨a,xs,rfl,h1,h2⟩:=h;unfold nr at e;cases q2:aF (fun x=>nr n Z x.sv) l with
  |none=>rw[q2] at e;cases e
  |some ds=>rw[q2] at e;cases e;exact .tup (h1.ev GW) (ko (dF (R:=TK (ow B α Z) K H α) (S:=L3.DV Sa K H) (fun v x y r e=>jy s n (x:=x.sv) (by cases x<;>exact r) e) h2 q2))
noncomputable def tO:SV->Option D
 | .fz d=>some d
 |_=>none
noncomputable def sh (Z:bv):SV->Option D
 | .fz d=>some d
 | .rf i=>match Z[i]? with
  |some (.lst xs)=>(aF tO xs).map .list
  |_=>none
 | .tp _=>none
theorem Bv (s:MF B K H α Z) {v:V} {x:SV} {d:D} (h:OG (ow B α Z) K H α v x) (e:sh Z x=some d):DX (ow B α Z) K H v d:=by
 cases x with
 |fz d'=>cases e;exact DV.x h
 |tp l=>cases e
 |rf i=>
  obtain⟨a,ha,rfl⟩:=h;unfold sh at e;dsimp only at e;cases q:Z[i]? with
  |none=>rw[q] at e;cases e
  |some c=>
   rw[q] at e;cases c with
   |lst xs=>
    dsimp only at e;cases q2:aF tO xs with
    |none=>rw[q2] at e;cases e
    |some ds=>
     rw[q2] at e;cases e;obtain⟨vs,h1,h2⟩:=s.R8 i a _ ha q;refine⟨a,vs,rfl,PB.of h1,ko (dF (R:=OG (ow B α Z) K H α) (S:=L3.DV (ow B α Z) K H) (fun v x y r e=> ?_) h2 q2)⟩;cases x with
     |fz d=>cases e;exact r
     |rf i=>cases e
     |tp l=>cases e
   |_=>cases e
noncomputable def wA:D->Bool
 | .none=>true
 | .bool _=>true
 | .int _=>true
 | .str _=>true
 |_=>false
theorem Gn {d:D} (h:wA d=true) (dv:DV O K H v d):DV O' K H' v d:=by
 cases dv with
 |OT=>exact .OT
 |bl b=>exact .bl b
 |int i=>exact .int i
 |str x=>exact .str x
 |tup _ _=>cases h
 |lst _ _=>cases h
noncomputable def lz (Z:bv):RV->RS SV
 | .fz d=>if wA d=true then .ok (.fz d) Z else .bad
 | .ow _=> .bad
theorem BN {Q:VK} {rv:RV} (s:MF B K H α Z) (w:WS K E B H α Z (PQ B K Q) (lz Z rv)):Fin Sa K H Q rv:=by
 cases rv with
 |fz d=>
  have w:WS K E B H α Z (PQ B K Q) (if wA d=true then RS.ok (SV.fz d) Z else RS.bad):=w;by_cases z:wA d=true
  ·rw[if_pos z] at w;exact fun v H' e dv=>w α H' (NA.same e) (s.grow e) v (Gn z dv)
  ·rw[if_neg z] at w;exact w.elim
 |ow ds=>exact w.elim
theorem C5:mS Sa H:=fun _ _ z=>z
noncomputable def lQ (f:D->D->Option RV) (x y:SV) (Z:bv):RS SV:=match sh Z x,sh Z y with
 |some dx,some dy=>(RS.M3 Z (f dx dy)).bind fun rv Z1=>kG Z1 rv
 |_,_=>(RS.M3 Z (nr 6 Z x)).bind fun dx Z1=>(RS.M3 Z1 (nr 6 Z1 y)).bind fun dy Z2=>(RS.M3 Z2 (f dx dy)).bind fun rv Z3=>lz Z3 rv
theorem B7 {r:R2} {f:D->D->Option RV} {x y:V} {a b:SV} {Q:VK} (hr:l8 K r f) (s:MF B K H α Z) (hx:OG (ow B α Z) K H α x a) (hy:OG (ow B α Z) K H α y b) (w:WS K E B H α Z (PQ B K Q) (lQ f a b Z)):r x y H Q:=by
 have deep:WS K E B H α Z (PQ B K Q) ((RS.M3 Z (nr 6 Z a)).bind fun dx Z1=>(RS.M3 Z1 (nr 6 Z1 b)).bind fun dy Z2=>(RS.M3 Z2 (f dx dy)).bind fun rv Z3=>lz Z3 rv)->r x y H Q:=fun w=>by obtain⟨dx,q1,w⟩:=w.M3;obtain⟨dy,q2,w⟩:=w.M3;obtain⟨rv,q3,w⟩:=w.M3;exact hr Sa H x y dx dy rv Q C5 (DV.x (jy s 6 hx q1)) (DV.x (jy s 6 hy q2)) q3 (BN s w)
 unfold lQ at w;cases q1:sh Z a with
 |none=>rw[q1] at w;exact deep w
 |some dx=>
  cases q2:sh Z b with
  |none=>rw[q1,q2] at w;exact deep w
  |some dy=>rw[q1,q2] at w;obtain⟨rv,q3,w⟩:=w.M3;exact hr _ H x y dx dy rv Q s.Sa (Bv s hx q1) (Bv s hy q2) q3 (Bi s w)
noncomputable def iA (f:D->D->Option RV) (fa fb:bK):bK:=fun ρ Z=>(fa ρ Z).bind fun x Z1=>(fb ρ Z1).bind fun y Z2=>lQ f x y Z2
theorem jJ {r:R2} {f:D->D->Option RV} {ta tb:TE} {fa fb:bK} (hr:l8 K r f) (ha:eA K E ta fa) (hb:eA K E tb fb):eA K E (HZ r ta tb) (iA f fa fb):=by intro B σ H α Z ρ Q s sl w;refine ha B σ H α Z ρ _ s sl (w.bind.imp fun x α1 Z1 H1 e1 s1 w1 v hv=> ?_);refine hb B σ H1 α1 Z1 ρ _ s1 (sl.Oy e1) (w1.bind.imp fun y α2 Z2 H2 e2 s2 w2 u hu=> ?_);exact B7 hr s2 (hv.Oy e2) hu w2
noncomputable def Fa:SV->Option Bool
 | .fz (.bool b)=>some b
 |_=>none
theorem Fu {x:SV} {b:Bool} (e:Fa x=some b) (h:OG O K H α v x):v= .bl b:=by
 unfold Fa at e;split at e
 ·cases e;cases h;rfl
 ·cases e
noncomputable def aY (fa:bK):jf:=fun ρ Z=>(fa ρ Z).bind fun x Z1=>RS.M3 Z1 (Fa x)
theorem ke {ta:TE} {fa:bK} (ha:eA K E ta fa):wL K E (yl ta) (aY fa):=by
 intro B σ H α Z ρ Q s sl w;refine ha B σ H α Z ρ _ s sl (w.bind.imp fun x α1 Z1 H1 e1 s1 w1 v hv=> ?_);cases q:Fa x with
 |none=>rw[q] at w1;exact w1.elim
 |some b=>rw[q] at w1;exact⟨b,Fu q hv,WS.now s1 w1⟩
theorem Ku {ta:TE} {fa:bK} (ha:eA K E ta fa):wL K E (tB ta) (aY fa):=ke ha
noncomputable def g6 (fa fb:jf):jf:=fun ρ Z=>(fa ρ Z).bind fun b Z1=>if b=true then fb ρ Z1 else .ok false Z1
noncomputable def wX (fa fb:jf):jf:=fun ρ Z=>(fa ρ Z).bind fun b Z1=>if b=true then .ok true Z1 else fb ρ Z1
noncomputable def oQ (fa:jf):jf:=fun ρ Z=>(fa ρ Z).bind fun b Z1=> .ok (!b) Z1
theorem EG {t u:TT} {f g:jf} (h1:wL K E t f) (h2:wL K E u g):wL K E (Hw t u) (g6 f g):=by
 intro B σ H α Z ρ Q s sl w;refine h1 B σ H α Z ρ _ s sl (w.bind.imp fun b α1 Z1 H1 e1 s1 w1=> ?_);cases b with
 |true=>exact h2 B σ H1 α1 Z1 ρ Q s1 (sl.Oy e1) w1
 |false=>exact WS.now s1 w1
theorem HA {t u:TT} {f g:jf} (h1:wL K E t f) (h2:wL K E u g):wL K E (LL t u) (wX f g):=by
 intro B σ H α Z ρ Q s sl w;refine h1 B σ H α Z ρ _ s sl (w.bind.imp fun b α1 Z1 H1 e1 s1 w1=> ?_);cases b with
 |true=>exact WS.now s1 w1
 |false=>exact h2 B σ H1 α1 Z1 ρ Q s1 (sl.Oy e1) w1
theorem ES {t:TT} {f:jf} (h1:wL K E t f):wL K E (IT t) (oQ f):=by intro B σ H α Z ρ Q s sl w;exact h1 B σ H α Z ρ _ s sl (w.bind.imp fun b α1 Z1 H1 e1 s1 w1=>WS.now s1 w1)
noncomputable def lD:jf:=fun _ Z=> .ok true Z
theorem qE:wL K E BQ lD:=fun B σ H α Z ρ Q s sl w=>WS.now s w
noncomputable def xW (fa fb:bK):bK:=fun ρ Z=>(aY fa ρ Z).bind fun b Z1=>if b=true then fb ρ Z1 else .ok (.fz (.bool false)) Z1
noncomputable def Li (fa fb:bK):bK:=fun ρ Z=>(aY fa ρ Z).bind fun b Z1=>if b=true then .ok (.fz (.bool true)) Z1 else fb ρ Z1
theorem uQ {ta tb:TE} {fa fb:bK} (ha:eA K E ta fa) (hb:eA K E tb fb):eA K E (GM ta tb) (xW fa fb):=by
 intro B σ H α Z ρ Q s sl w;refine ke ha B σ H α Z ρ (fun c H1=>if c=true then tb σ H1 Q else Q (.bl false) H1) s sl (w.bind.imp fun b α1 Z1 H1 e1 s1 w1=> ?_);cases b with
 |true=>exact hb B σ H1 α1 Z1 ρ Q s1 (sl.Oy e1) w1
 |false=>exact WS.now s1 w1 _ (.bl false)
theorem Cd {ta tb:TE} {fa fb:bK} (ha:eA K E ta fa) (hb:eA K E tb fb):eA K E (KH ta tb) (Li fa fb):=by
 intro B σ H α Z ρ Q s sl w;refine ke ha B σ H α Z ρ (fun c H1=>if c=true then Q (.bl true) H1 else tb σ H1 Q) s sl (w.bind.imp fun b α1 Z1 H1 e1 s1 w1=> ?_);cases b with
 |true=>exact WS.now s1 w1 _ (.bl true)
 |false=>exact hb B σ H1 α1 Z1 ρ Q s1 (sl.Oy e1) w1
noncomputable def HN (c:jf) (fa fb:bK):bK:=fun ρ Z=>(c ρ Z).bind fun b Z1=>if b=true then fa ρ Z1 else fb ρ Z1
theorem Ix {t:TT} {c:jf} {ta tb:TE} {fa fb:bK} (hc:wL K E t c) (ha:eA K E ta fa) (hb:eA K E tb fb):eA K E (Lu t ta tb) (HN c fa fb):=by
 intro B σ H α Z ρ Q s sl w;refine hc B σ H α Z ρ _ s sl (w.bind.imp fun b α1 Z1 H1 e1 s1 w1=> ?_);cases b with
 |true=>exact ha B σ H1 α1 Z1 ρ Q s1 (sl.Oy e1) w1
 |false=>exact hb B σ H1 α1 Z1 ρ Q s1 (sl.Oy e1) w1
noncomputable def aJ:lB:=fun _ Z=> .ok [] Z
noncomputable def am (fa:bK) (fr:lB):lB:=fun ρ Z=>(fa ρ Z).bind fun x Z1=>(fr ρ Z1).bind fun xs Z2=> .ok (x::xs) Z2
theorem hX:AX K E rF aJ:=fun B σ H α Z ρ Q s sl w=>WS.now s w [] .nil
theorem dE {ta:TE} {tr:TA} {fa:bK} {fr:lB} (ha:eA K E ta fa) (hr:AX K E tr fr):AX K E (lx ta tr) (am fa fr):=by intro B σ H α Z ρ Q s sl w;refine ha B σ H α Z ρ _ s sl (w.bind.imp fun x α1 Z1 H1 e1 s1 w1 v hv=> ?_);refine hr B σ H1 α1 Z1 ρ _ s1 (sl.Oy e1) (w1.bind.imp fun xs α2 Z2 H2 e2 s2 w2 vs U7=> ?_);exact WS.now s2 w2 (v::vs) (.cons (hv.Oy e2) U7)
noncomputable def K3:SV->Option AV
 | .fz d=>some (.fz d)
 | .rf i=>some (.rf i)
 | .tp _=>none
noncomputable def KR (xs:List SV):Option SV:=match aF tO xs with
 |some ds=>some (.fz (.tuple ds))
 |none=>(aF K3 xs).map .tp
noncomputable def jZ (fa:lB):bK:=fun ρ Z=>(fa ρ Z).bind fun xs Z1=>if xs.length<=1000 then RS.M3 Z1 (KR xs) else .bad
theorem xx {x:SV} {d:D} (r:OG O K H α v x) (e:tO x=some d):DV O K H v d:=by
 cases x with
 |fz d=>cases e;exact r
 |rf i=>cases e
 |tp l=>cases e
theorem Jv {x:SV} {d:AV} (r:OG O K H α v x) (e:K3 x=some d):TK O K H α v d:=by
 cases x with
 |fz d=>cases e;exact r
 |rf i=>cases e;exact r
 |tp l=>cases e
theorem pM {ta:TA} {fa:lB} (ha:AX K E ta fa):eA K E (HB ta) (jZ fa):=by
 intro B σ H α Z ρ Q s sl w;refine ha B σ H α Z ρ _ s sl (w.bind.imp fun xs α1 Z1 H1 e1 s1 w1 vs hv=> ?_);by_cases hn:xs.length<=1000
 ·rw[if_pos hn] at w1
  refine⟨by rw[hv.length];exact x5 hn,fun p hp=> ?_⟩;have sm:Nt H1 (bA H1 p (.tup vs)):=b8 hp _;have e:NA α1 Z1 H1 α1 Z1 (bA H1 p (.tup vs)):=NA.same sm;have ht:Qj (ow B α1 Z1) K (bA H1 p (.tup vs)) p vs:=⟨P4.of aH,fun z=>absurd z (s1.Sa p hp)⟩;unfold KR at w1;cases q:aF tO xs with
  |some ds=>rw[q] at w1;exact w1 α1 _ e (s1.grow sm) _ (.tup ht (ko (dF (R:=OG (ow B α1 Z1) K H1 α1) (S:=L3.DV (ow B α1 Z1) K (bA H1 p (.tup vs))) (fun v x y r e'=>(xx r e').ev e.ev) hv q)))
  |none=>
   rw[q] at w1;dsimp only at w1;cases q2:aF K3 xs with
   |none=>rw[q2] at w1;exact w1.elim
   |some l=>rw[q2] at w1;exact w1 α1 _ e (s1.grow sm) _ ⟨p,vs,rfl,ht,dF (R:=OG (ow B α1 Z1) K H1 α1) (S:=TK (ow B α1 Z1) K (bA H1 p (.tup vs)) α1) (fun v x y r e'=>(Jv r e').ev e.ev e.pre) hv q2⟩
 ·rw[if_neg hn] at w1;exact w1.elim
noncomputable def EB (f:List D->Option RV) (xs:List SV) (Z:bv):RS SV:=match aF (sh Z) xs with
 |some ds=>(RS.M3 Z (f ds)).bind fun rv Z1=>kG Z1 rv
 |_=>(RS.M3 Z (aF (nr 6 Z) xs)).bind fun ds Z1=>(RS.M3 Z1 (f ds)).bind fun rv Z3=>lz Z3 rv
noncomputable def Bu (f:List D->Option RV) (fa:lB):bK:=fun ρ Z=>(fa ρ Z).bind fun xs Z1=>EB f xs Z1
theorem uB {r:List V->Hp->VK->Prop} {f:List D->Option RV} {ta:TA} {fa:lB} (hr:yK K r f) (ha:AX K E ta fa):eA K E (Fs r ta) (Bu f fa):=by
 intro B σ H α Z ρ Q s sl w;refine ha B σ H α Z ρ _ s sl (w.bind.imp fun xs α1 Z1 H1 e1 s1 w1 vs hv=> ?_);unfold EB at w1;cases q1:aF (sh Z1) xs with
 |none=>rw[q1] at w1;obtain⟨ds,q2,w1⟩:=w1.M3;obtain⟨rv,q3,w1⟩:=w1.M3;exact hr Sa H1 vs ds rv Q C5 (dF (R:=OG (ow B α1 Z1) K H1 α1) (S:=DX Sa K H1) (fun v x y r e=>DV.x (jy s1 6 r e)) hv q2) q3 (BN s1 w1)
 |some ds=>rw[q1] at w1;obtain⟨rv,q3,w1⟩:=w1.M3;exact hr _ H1 vs ds rv Q s1.Sa (dF (R:=OG (ow B α1 Z1) K H1 α1) (S:=DX (ow B α1 Z1) K H1) (fun v x y r e=>Bv s1 r e) hv q1) q3 (Bi s1 w1)
end
section
variable {B O O':ci} {K:Bn} {E:XK} {H H' H1 H2:Hp} {α α' α1 α2:List L8} {Z Z' Z1 Z2:bv} {σ:L2.St} {ρ:bS} {v:V}
theorem xO {β:Type} {R:V->β->Prop}:∀{vs:List V} {xs:List β} {i:Nat} {x:β},Paired R vs xs->xs[i]? =some x->∃v,vs[i]? =some v/\R v x
 |_,_,_,_,.nil,e=>by simp at e
 |_,_,0,_,.cons h _,e=>by simp at e;subst e;exact⟨_,rfl,h⟩
 |_,_,i+1,x,.cons _ t,e=>by obtain⟨v,h1,h2⟩:=xO (i:=i) (x:=x) t (by simpa using e);exact⟨v,by simpa using h1,h2⟩
theorem GB {β:Type} {R:V->β->Prop} {vs:List V} {xs:List β} {i:Int} {x:β} (h:Paired R vs xs) (e:l7 xs i=some x):∃v,l7 vs i=some v/\R v x:=by
 unfold l7 at e⊢;rw[h.length];cases q:GZ xs.length i with
 |none=>rw[q] at e;cases e
 |some j=>rw[q] at e;exact xO h e
noncomputable def Fq:SV->Option Int
 | .fz (.int i)=>some i
 |_=>none
theorem zW {x:SV} {i:Int} (e:Fq x=some i) (h:OG O K H α v x):v= .int i:=by
 unfold Fq at e;split at e
 ·cases e;cases h;rfl
 ·cases e
noncomputable def JP (x y:SV) (Z:bv):RS SV:=match x with
 | .fz _=>lQ aG x y Z
 | .rf j=>(match Z[j]? with
  |some (.lst xs)=>(RS.M3 Z (Fq y)).bind fun i Z1=>RS.M3 Z1 (l7 xs i)
  |_=> .bad)
 | .tp l=>(RS.M3 Z (Fq y)).bind fun i Z1=>RS.M3 Z1 ((l7 l i).map AV.sv)
noncomputable def jk (fa fb:bK):bK:=fun ρ Z=>(fa ρ Z).bind fun x Z1=>(fb ρ Z1).bind fun y Z2=>JP x y Z2
theorem xB {ta tb:TE} {fa fb:bK} (ha:eA K E ta fa) (hb:eA K E tb fb):eA K E (HZ (K6 K) ta tb) (jk fa fb):=by
 intro B σ H α Z ρ Q s sl w;refine ha B σ H α Z ρ _ s sl (w.bind.imp fun x α1 Z1 H1 e1 s1 w1 v hv=> ?_);refine hb B σ H1 α1 Z1 ρ _ s1 (sl.Oy e1) (w1.bind.imp fun y α2 Z2 H2 e2 s2 w2 u hu=> ?_);have hv:=hv.Oy e2;unfold JP at w2;cases x with
 |fz d=>exact B7 cj s2 hv hu w2
 |rf j=>
  obtain⟨a,ha,rfl⟩:=hv;dsimp only at w2;cases q:Z2[j]? with
  |none=>rw[q] at w2;exact w2.elim
  |some c=>
   rw[q] at w2;cases c with
   |lst xs=>
    obtain⟨i,qi,w2⟩:=WS.M3 w2;cases qa:l7 xs i with
    |none=>rw[qa] at w2;exact w2.elim
    |some x=>rw[qa] at w2;obtain⟨vs,h1,h2⟩:=s2.R8 j a _ ha q;obtain⟨z,hz,vz⟩:=GB h2 qa;exact .inl ⟨a,vs,i,z,rfl,zW qi hu,PU.of h1,hz,WS.now s2 w2 z vz⟩
   |_=>exact w2.elim
 |tp l=>
  obtain⟨a,xs,rfl,h1,h2⟩:=hv;obtain⟨i,qi,w2⟩:=WS.M3 w2;cases qa:l7 l i with
  |none=>rw[qa] at w2;exact w2.elim
  |some x=>rw[qa] at w2;obtain⟨z,hz,vz⟩:=GB h2 qa;exact .inr (.inl ⟨a,xs,i,z,rfl,zW qi hu,h1.1,hz,WS.now s2 w2 z (by cases x<;>exact vz)⟩)
theorem pB {i:Nat} {b:L8} (h:Lv α (Z.set i .dead) b):Lv α Z b:=by
 obtain⟨j,c,h1,h2,h3⟩:=h;rcases cA h2 with⟨rfl,rfl⟩|⟨_,h2⟩
 ·exact absurd rfl h3
 ·exact⟨j,c,h1,h2,h3⟩
theorem NA.kill {i:Nat}:NA α Z H α (Z.set i .dead) H:=⟨fun _ _ h=>h,fun _ _ h _=>h,fun _ h=> .inl (pB h)⟩
theorem MF.kill (s:MF B K H α Z) (i:Nat):MF B K H α (Z.set i .dead):=by
 have e:NA α Z H α (Z.set i .dead) H:=NA.kill;refine⟨by rw[Nc];exact s.len,s.nd,s.bn,s.ba,s.al,fun j b d h1 h2=> ?_⟩;rcases cA h2 with⟨rfl,rfl⟩|⟨QR,h2⟩
 ·exact trivial
 ·exact(s.R8 j b d h1 h2).ev e.ev e.pre fun u q=>q
theorem MF.UC (s:MF B K H α Z) {i:Nat} {a:L8} (ha:α[i]? =some a):¬ow B α (Z.set i .dead) a:=by
 rintro(z|⟨j,c,h1,h2,h3⟩)
 ·exact s.Vo ha z
 ·have:=s.nd j i a h1 ha
  subst this;rcases cA h2 with⟨_,rfl⟩|⟨QR,_⟩
  ·exact h3 rfl
  ·exact QR rfl
noncomputable def rY (g:bv->SV->Option (D×bv)):bv->List SV->Option (List D×bv)
 |Z,[]=>some ([],Z)
 |Z,x::r=>match g Z x with
  |some (d,Z1)=>(match rY g Z1 r with
   |some (ds,Z2)=>some (d::ds,Z2)
   |none=>none)
  |none=>none
noncomputable def frz:Nat->bv->SV->Option (D×bv)
 |_,Z,.fz d=>some (d,Z)
 |0,_,_=>none
 |n+1,Z,.rf i=>match Z[i]? with
  |some (.lst xs)=>(match rY (frz n) Z xs with
   |some (ds,Z1)=>some (.list ds,Z1.set i .dead)
   |none=>none)
  |_=>none
 |n+1,Z,.tp l=>match rY (frz n) Z (l.map AV.sv) with
  |some (ds,Z1)=>some (.tuple ds,Z1)
  |none=>none
theorem tJ {g:bv->SV->Option (D×bv)} (hg:∀{Z Z':bv} {v:V} {x:SV} {d:D},MF B K H α Z->OG (ow B α Z) K H α v x->g Z x=some (d,Z')->MF B K H α Z'/\NA α Z H α Z' H/\L3.DV (ow B α Z') K H v d):
  ∀{vs:List V} {xs:List SV} {ds:List D} {Z Z':bv},MF B K H α Z->Ov (ow B α Z) K H α vs xs->rY g Z xs=some (ds,Z')->MF B K H α Z'/\NA α Z H α Z' H/\L3.Nz (ow B α Z') K H vs ds
 |_,_,_,Z,Z',s,.nil,e=>by cases e;exact⟨s,.refl,.nil⟩
 |_,_,_,Z,Z',s,.cons (b:=x) (l₂:=xs) r t,e=>by
  unfold rY at e;cases q:g Z x with
  |none=>rw[q] at e;cases e
  |some p=>
   obtain⟨d,Z1⟩:=p;rw[q] at e;dsimp only at e;obtain⟨s1,e1,d1⟩:=hg s r q;cases q2:rY g Z1 xs with
   |none=>rw[q2] at e;cases e
   |some p2=>obtain⟨ds,Z2⟩:=p2;rw[q2] at e;cases e;obtain⟨s2,e2,d2⟩:=tJ hg s1 (Ov.Oy e1 t) q2;exact⟨s2,e1.trans e2,.cons (d1.ev e2.ev) d2⟩
theorem uT:∀{vs:List V} {l:List AV},Paired (TK O K H α) vs l->Ov O K H α vs (l.map AV.sv)
 |_,_,.nil=> .nil
 |_,_,.cons (b:=x) h t=> .cons (by cases x<;>exact h) (uT t)
theorem uy:∀(n:Nat) {Z Z':bv} {v:V} {x:SV} {d:D},MF B K H α Z->OG (ow B α Z) K H α v x->frz n Z x=some (d,Z')->MF B K H α Z'/\NA α Z H α Z' H/\L3.DV (ow B α Z') K H v d
 |n,Z,Z',v,.fz d',d,s,h,e=>by
  have e':some (d',Z)=some (d,Z'):=by cases n<;>exact e
  cases e';exact⟨s,.refl,h⟩
 |0,_,_,v,.rf i,d,s,h,e=>by cases e
 |0,_,_,v,.tp l,d,s,h,e=>by cases e
 |n+1,Z,Z',v,.rf i,d,s,h,e=>by
  obtain⟨a,ha,rfl⟩:=h;unfold frz at e;cases q:Z[i]? with
  |none=>rw[q] at e;cases e
  |some c=>
   rw[q] at e;cases c with
   |lst xs=>
    dsimp only at e;obtain⟨vs,h1,h2⟩:=s.R8 i a _ ha q;cases q2:rY (frz n) Z xs with
    |none=>rw[q2] at e;cases e
    |some p=>obtain⟨ds,Z1⟩:=p;rw[q2] at e;cases e;obtain⟨s1,e1,d1⟩:=tJ (fun s h e=>uy n s h e) s h2 q2;exact⟨s1.kill i,e1.trans NA.kill,uC h1 (s1.UC ha) (d1.ev (NA.kill (i:=i)).ev)⟩
   |_=>cases e
 |n+1,Z,Z',v,.tp l,d,s,h,e=>by
  obtain⟨a,xs,rfl,h1,h2⟩:=h;unfold frz at e;cases q2:rY (frz n) Z (l.map AV.sv) with
  |none=>rw[q2] at e;cases e
  |some p=>obtain⟨ds,Z1⟩:=p;rw[q2] at e;cases e;obtain⟨s1,e1,d1⟩:=tJ (fun s h e=>uy n s h e) s (uT h2) q2;exact⟨s1,e1,.tup (h1.ev e1.ev) d1⟩
noncomputable def Hk (x:SV) (Z:bv):RS SV:=match frz 4 Z x with
 |some (d,Z1)=> .ok (.fz d) Z1
 |none=> .bad
noncomputable def wo (f:bK):bK:=fun ρ Z=>(f ρ Z).bind fun x Z1=>Hk x Z1
theorem tN {t:TE} {f:bK} (h:eA K E t f):eA K E t (wo f):=by
 intro B σ H α Z ρ Q s sl w;refine h B σ H α Z ρ _ s sl (w.bind.imp fun x α1 Z1 H1 e1 s1 w1 v hv=> ?_);unfold Hk at w1;cases q:frz 4 Z1 x with
 |none=>rw[q] at w1;exact w1.elim
 |some p=>obtain⟨d,Z2⟩:=p;rw[q] at w1;obtain⟨s2,e2,d2⟩:=uy 4 s1 hv q;exact w1 α1 H1 e2 s2 v d2
theorem Wg.sub {c:L5} {dx:Option L8} {x:Xc} (h:∀b,O' b->O b) (k:Wg K O H c dx x):Wg K O' H c dx x:=by obtain⟨h1,fs,h2,h3⟩:=k;exact⟨h1,fs,h2,fun f d e=>let⟨g1,v,g2,g3⟩:=h3 f d e;⟨g1,v,g2,g3.ev (Ev.sub h)⟩⟩
noncomputable def wl (F:FN) (n:Nat) (xs:List SV) (Z:bv):RS SV:=if xs.length=n then(match aF tO xs with
 |some ds=>(match F ds with
  | .ok rv=>kG Z rv
  | .er x=> .er x Z
  | .bad=> .bad)
 |none=>(RS.M3 Z (aF (nr 6 Z) xs)).bind fun ds Z1=>(match F ds with
  | .ok rv=>lz Z1 rv
  |_=> .bad)) else .bad
noncomputable def jY {A:Type}:RS A->RS A
 | .er _ _=> .bad
 |r=>r
noncomputable def i8 (F:FN) (n:Nat) (fa:lB):bK:=fun ρ Z=>(fa ρ Z).bind fun xs Z1=>jY (wl F n xs Z1)
theorem WS.e0 {A:Type} {P:A->List L8->bv->Hp->Prop} {r:RS A} (h:WS K E B H α Z P (jY r)):WS K E0 B H α Z P r:=by
 cases r with
 |ok a Z=>exact h
 |er x Z=>exact h.elim
 |bad=>exact h
theorem Gh {F:FN} {n:Nat} {xs:List SV} {vs:List V} {Q:VK} (s:MF B K H α Z) (hv:Ov (ow B α Z) K H α vs xs) (w:WS K E B H α Z (PQ B K Q) (wl F n xs Z)):ou K n F vs H Q E:=by
 unfold wl at w;by_cases hn:xs.length=n
 ·rw[if_pos hn] at w
  refine⟨hv.length.trans hn,?_⟩;cases q:aF tO xs with
  |some ds=>
   rw[q] at w;refine⟨ow B α Z,ds,s.owd,ko (dF (R:=OG (ow B α Z) K H α) (S:=L3.DV (ow B α Z) K H) (fun v x y r e=>xx r e) hv q),?_⟩;dsimp only at w;cases qF:F ds with
   |ok rv=>rw[qF] at w;exact Bi s w
   |er x=>rw[qF] at w;exact fun c dx H' e k=>w c dx α H' (NA.same e) (s.grow e) k
   |bad=>rw[qF] at w;exact w.elim
  |none=>
   rw[q] at w;obtain⟨ds,q2,w⟩:=WS.M3 w;refine⟨Sa,ds,fun a z=>z.elim,ko (dF (R:=OG (ow B α Z) K H α) (S:=L3.DV Sa K H) (fun v x y r e=>jy s 6 r e) hv q2),?_⟩;cases qF:F ds with
   |ok rv=>rw[qF] at w;exact BN s w
   |er x=>rw[qF] at w;exact w.elim
   |bad=>rw[qF] at w;exact w.elim
 ·rw[if_neg hn] at w;exact w.elim
theorem yz {F:FN} {n:Nat} {ta:TA} {fa:lB} (ha:AX K E ta fa):eA K E (sG (ou K n F) [] E0 ta) (i8 F n fa):=by intro B σ H α Z ρ Q s sl w;refine ha B σ H α Z ρ _ s sl (w.bind.imp fun xs α1 Z1 H1 e1 s1 w1 vs hv=> ?_);rw[ME];exact Gh s1 hv (WS.e0 w1)
abbrev g9:=List SV->bv->RS SV
noncomputable def fR (K:Bn) (n:Nat) (F:g9):Sp:=fun vs H Q E=>vs.length=n/\∃(B:ci) (α:List L8) (Z:bv) (xs:List SV),MF B K H α Z/\Ov (ow B α Z) K H α vs xs/\WS K E B H α Z (PQ B K Q) (F xs Z)
noncomputable def cT (F:g9) (n:Nat) (fa:lB):bK:=fun ρ Z=>(fa ρ Z).bind fun xs Z1=>if xs.length=n then jY (F xs Z1) else .bad
theorem Af {F:g9} {n:Nat} {ta:TA} {fa:lB} (ha:AX K E ta fa):eA K E (sG (fR K n F) [] E0 ta) (cT F n fa):=by
 intro B σ H α Z ρ Q s sl w;refine ha B σ H α Z ρ _ s sl (w.bind.imp fun xs α1 Z1 H1 e1 s1 w1 vs hv=> ?_);rw[ME];by_cases hn:xs.length=n
 ·rw[if_pos hn] at w1;exact⟨hv.length.trans hn,B,α1,Z1,xs,s1,hv,WS.e0 w1⟩
 ·rw[if_neg hn] at w1;exact w1.elim
noncomputable def sK (Z:bv) (C m:Str):SV->Bool
 | .rf i=>match Z[i]? with
  |some (.obj D fs)=>decide (D=C)&&(fs.lookup m).isNone
  |_=>false
 |_=>false
noncomputable def bc (C m:Str) (F:g9) (n:Nat) (fo:bK) (fa:lB):bK:=fun ρ Z=>(fo ρ Z).bind fun x Z1=>if sK Z1 C m x=true then(fa ρ Z1).bind fun xs Z2=>(if(x::xs).length=n then jY (F (x::xs) Z2) else .bad) else .bad
theorem HL {C m:Str} {Ca:L8} {x:SV} (hc:MG K Mv C=some (some (.ref Ca))) (s:MF B K H α Z) (hv:OG (ow B α Z) K H α v x) (h:sK Z C m x=true):∃a dx fs,v= .ref a/\H a=some (.ins Ca dx fs)/\fs.lookup m=none:=by
 cases x with
 |fz d=>cases h
 |tp l=>cases h
 |rf i=>
  obtain⟨a,ha,rfl⟩:=hv;unfold sK at h;dsimp only at h;cases q:Z[i]? with
  |none=>rw[q] at h;cases h
  |some c=>
   rw[q] at h;cases c with
   |obj D fs=>rw[MB] at h;obtain⟨h1,h2⟩:=h;have e:=of_decide_eq_true h1;subst e;obtain⟨Cb,dx,ws,g0,g1,g2⟩:=s.R8 i a _ ha q;rw[hc] at g0;cases g0;exact⟨a,dx,ws,rfl,g1,tm g2 (Option.isNone_iff_eq_none.mp h2)⟩
   |_=>cases h
theorem Ak {C m:Str} {Ca:L8} {F:g9} {n:Nat} {to:TE} {ta:TA} {fo:bK} {fa:lB} (hc:MG K Mv C=some (some (.ref Ca))) (ho:eA K E to fo) (ha:AX K E ta fa):eA K E (zM Ca m (fR K n F) [] E0 to ta) (bc C m F n fo fa):=by
 intro B σ H α Z ρ Q s sl w;refine ho B σ H α Z ρ _ s sl (w.bind.imp fun x α1 Z1 H1 e1 s1 w1 v hv=> ?_);by_cases h:sK Z1 C m x=true
 ·rw[if_pos h] at w1
  obtain⟨a,dx,fs,rfl,g1,g2⟩:=HL hc s1 hv h;refine⟨a,dx,fs,rfl,g1,g2,?_⟩;refine ha B σ H1 α1 Z1 ρ _ s1 (sl.Oy e1) (w1.bind.imp fun xs α2 Z2 H2 e2 s2 w2 vs U7=> ?_);rw[ME];have hp:Ov (ow B α2 Z2) K H2 α2 (.ref a::vs) (x::xs):= .cons (hv.Oy e2) U7;by_cases hn:(x::xs).length=n
  ·rw[if_pos hn] at w2;exact⟨hp.length.trans hn,B,α2,Z2,_,s2,hp,WS.e0 w2⟩
  ·rw[if_neg hn] at w2;exact w2.elim
 ·rw[if_neg h] at w1;exact w1.elim
noncomputable def Bg:SV->Bool
 | .fz .none=>true
 |_=>false
noncomputable def yO (C:Str) (F:g9) (n:Nat) (xs:List SV) (Z:bv):RS SV:=if(SV.rf Z.length::xs).length=n then(F (.rf Z.length::xs) (Z++[.obj C []])).bind fun r Z2=>(if Bg r=true then .ok (.rf Z.length) Z2 else .bad) else .bad
noncomputable def tj (C:Str) (F:g9) (n:Nat) (fa:lB):bK:=fun ρ Z=>(fa ρ Z).bind fun xs Z1=>jY (yO C F n xs Z1)
theorem Fe {x:SV} (h:Bg x=true) (hv:OG O K H α v x):v= .OT:=by
 unfold Bg at h;split at h
 ·cases hv;rfl
 ·cases h
theorem Ip {C:Str} {Ca:L8} {F:g9} {n:Nat} {xs:List SV} {vs:List V} {Q:VK} (hc:MG K Mv C=some (some (.ref Ca))) (s:MF B K H α Z) (hv:Ov (ow B α Z) K H α vs xs) (w:WS K E B H α Z (PQ B K Q) (yO C F n xs Z)):
  ∀x dx,H x=none->H dx=none->dx≠x->fR K n F (.ref x::(vs++[])) (bA (bA H dx (.own x)) x (.ins Ca dx [])) (fun v H2=>v= .OT/\Q (.ref x) H2) E:=by
 intro x dx hx hdx QR;rw[ME];unfold yO at w;have sm:Nt H (bA (bA H dx (.own x)) x (.ins Ca dx [])):=(b8 hdx _).trans (b8 (by rw[aO (fun z=>QR z.symm)];exact hx) _);have e:NA α Z H (α++[x]) (Z++[.obj C []]) (bA (bA H dx (.own x)) x (.ins Ca dx [])):=NA.S0 s.len sm hx;have s1:MF B K (bA (bA H dx (.own x)) x (.ins Ca dx [])) (α++[x]) (Z++[.obj C []]):=s.S0 sm hx (by rw[aH];simp) ⟨Ca,dx,[],hc,aH,.nil⟩;have Tq:∀{α':List L8} {Z':bv} {H':Hp},NA (α++[x]) (Z++[.obj C []]) (bA (bA H dx (.own x)) x (.ins Ca dx [])) α' Z' H'->OG (ow B α' Z') K H' α' (.ref x) (.rf Z.length):=fun e=>⟨x,e.pre _ _ (by rw[<-s.len];exact aN),rfl⟩;by_cases hn:(SV.rf Z.length::xs).length=n
 ·rw[if_pos hn] at w
  have hp:Ov (ow B (α++[x]) (Z++[.obj C []])) K (bA (bA H dx (.own x)) x (.ins Ca dx [])) (α++[x]) (.ref x::vs) (.rf Z.length::xs):= .cons (Tq .refl) (Ov.Oy e hv);refine⟨hp.length.trans hn,B,_,_,_,s1,hp,?_⟩;refine WS.imp (WS.from e w.bind) fun r α2 Z2 H2 e2 s2 w2 v hv2=> ?_;by_cases z:Bg r=true
  ·rw[if_pos z] at w2;exact⟨Fe z hv2,WS.now s2 w2 _ (Tq e2)⟩
  ·rw[if_neg z] at w2;exact w2.elim
 ·rw[if_neg hn] at w;exact w.elim
theorem Dz {C:Str} {Ca:L8} {F:g9} {n:Nat} {ta:TA} {fa:lB} (hc:MG K Mv C=some (some (.ref Ca))) (ha:AX K E ta fa):eA K E (Df Ca (fR K n F) [] E0 ta) (tj C F n fa):=by intro B σ H α Z ρ Q s sl w;refine ha B σ H α Z ρ _ s sl (w.bind.imp fun xs α1 Z1 H1 e1 s1 w1 vs hv=> ?_);exact Ip hc s1 hv (WS.e0 w1)
noncomputable def ku (Z:bv):SV->Option (Nat×List SV)
 | .rf i=>match Z[i]? with
  |some (.lst xs)=>some (i,xs)
  |_=>none
 |_=>none
theorem yx {x:SV} {i:Nat} {xs:List SV} (s:MF B K H α Z) (hv:OG (ow B α Z) K H α v x) (h:ku Z x=some (i,xs)):Z[i]? =some (.lst xs)/\∃a vs,α[i]? =some a/\v= .ref a/\H a=some (.lst vs)/\Ov (ow B α Z) K H α vs xs:=by
 cases x with
 |fz d=>cases h
 |tp l=>cases h
 |rf j=>
  obtain⟨a,ha,rfl⟩:=hv;unfold ku at h;dsimp only at h;cases q:Z[j]? with
  |none=>rw[q] at h;cases h
  |some c=>
   rw[q] at h;cases c with
   |lst ys=>have e:=Mw h;cases e;obtain⟨vs,h1,h2⟩:=s.R8 i a _ ha q;exact⟨q,a,vs,ha,rfl,h1,h2⟩
   |_=>cases h
theorem vg {β:Type} {R:V->β->Prop} {vs:List V} {xs:List β} {v:V} {x:β} (h:Paired R vs xs) (r:R v x):Paired R (vs++[v]) (xs++[x]):=by
 induction h with
 |nil=>exact .cons r .nil
 |cons a _ ih=>exact .cons a ih
noncomputable def rV (fo fe:bK):bK:=fun ρ Z=>(fo ρ Z).bind fun o Z1=>(RS.M3 Z1 (ku Z1 o)).bind fun _ Z1=>(fe ρ Z1).bind fun x Z2=>(RS.M3 Z2 (ku Z2 o)).bind fun p Z3=>
 if p.2.length<1000000 then .ok (.fz .none) (Z3.set p.1 (.lst (p.2++[x]))) else .bad
theorem Fw {to te:TE} {fo fe:bK} (ho:eA K E to fo) (he:eA K E te fe):eA K E (Ls K "list" uL to (lx te rF)) (rV fo fe):=by
 intro B σ H α Z ρ Q s sl w;refine ho B σ H α Z ρ _ s sl (w.bind.imp fun o α1 Z1 H1 e1 s1 w1 v hv=> ?_);obtain⟨⟨i0,xs0⟩,q0,w1⟩:=WS.M3 w1;obtain⟨_,a0,vs0,_,rfl,g0,_⟩:=yx s1 hv q0;refine⟨.inl ⟨rfl,vs0,PU.of g0⟩,?_⟩;refine he B σ H1 α1 Z1 ρ _ s1 (sl.Oy e1) (w1.bind.imp fun x α2 Z2 H2 e2 s2 w2 u hu=> ?_);obtain⟨⟨i,xs⟩,q,w2⟩:=WS.M3 w2;obtain⟨qi,a,vs,ha,ea,g1,g2⟩:=yx s2 (hv.Oy e2) q;cases ea;dsimp only at w2;by_cases hn:xs.length<1000000
 ·rw[if_pos hn] at w2;have ev:Ev (ow B α2 Z2) H2 (ow B α2 Z2) (bA H2 a0 (.lst (vs++[u]))):=uY ha qi (by intro z;cases z);refine⟨a0,vs,u,rfl,rfl,g1,sC (by rw[g2.length];exact hn),?_⟩;exact w2 α2 _ (NA.put ha qi (by intro z;cases z) (by intro z;cases z)) (s2.put ha qi (by intro z;cases z) (by intro z;cases z) ⟨_,aH,vg (Paired.Ph g2 fun _ _ r=>r.ev ev fun _ _ h=>h) (hu.ev ev fun _ _ h=>h)⟩) _ .OT
 ·rw[if_neg hn] at w2;exact w2.elim
end
inductive VO where
 |nx (ρ:bS)
 |bk (ρ:bS)
 |ct (ρ:bS)
 |rt (x:SV)
abbrev eV:=bS->bv->RS VO
abbrev pL:=SV->bS->bv->RS bS
abbrev w6:=List SV->bS->bv->RS bS
def Bs (B:ci) (K:Bn) (D:Ends):VO->List L8->bv->Hp->Prop
 | .nx ρ,α,Z,H=>∀σ,Oz (ow B α Z) K H α σ ρ->D.nx σ H
 | .bk ρ,α,Z,H=>∀σ,Oz (ow B α Z) K H α σ ρ->D.bk σ H
 | .ct ρ,α,Z,H=>∀σ,Oz (ow B α Z) K H α σ ρ->D.ct σ H
 | .rt x,α,Z,H=>∀v,OG (ow B α Z) K H α v x->D.rt v H
def sO (K:Bn) (E:XK) (t:TS) (g:eV):Prop:=
 ∀(B:ci) (σ:L2.St) (H:Hp) (α:List L8) (Z:bv) (ρ:bS) (D:Ends),MF B K H α Z->Oz (ow B α Z) K H α σ ρ->WS K E B H α Z (Bs B K D) (g ρ Z)->t D σ H
def GD (K:Bn) (E:XK) (g:TG) (f:pL):Prop:=
 ∀(B:ci) (σ:L2.St) (H:Hp) (α:List L8) (Z:bv) (ρ:bS) (v:V) (x:SV) (Q:L2.St->Hp->Prop),MF B K H α Z->Oz (ow B α Z) K H α σ ρ->OG (ow B α Z) K H α v x->WS K E B H α Z (fun ρ' α' Z' H'=>∀σ',Oz (ow B α' Z') K H' α' σ' ρ'->Q σ' H') (f x ρ Z)->g v σ H Q
def Ej (K:Bn) (E:XK) (g:AJ) (f:w6):Prop:=
 ∀(B:ci) (σ:L2.St) (H:Hp) (α:List L8) (Z:bv) (ρ:bS) (vs:List V) (xs:List SV) (Q:L2.St->Hp->Prop),MF B K H α Z->Oz (ow B α Z) K H α σ ρ->Ov (ow B α Z) K H α vs xs->WS K E B H α Z (fun ρ' α' Z' H'=>∀σ',Oz (ow B α' Z') K H' α' σ' ρ'->Q σ' H') (f xs ρ Z)->g vs σ H Q
section
variable {B O O':ci} {K:Bn} {E:XK} {H H' H1 H2:Hp} {α α' α1 α2:List L8} {Z Z' Z1 Z2:bv} {σ:L2.St} {ρ:bS} {v:V}
theorem Oz.set {i:Nat} {x:SV} (sl:Oz O K H α σ ρ) (h:OG O K H α v x):Oz O K H α (σ.set i (some v)) (ρ.set i (some x)):=by
 refine⟨by rw[Nc,Nc];exact sl.1,fun j y hy=> ?_⟩;rcases cA hy with⟨rfl,e⟩|⟨QR,hy'⟩
 ·cases e;refine⟨v,?_,h⟩;rw[N7];have:=uO hy;rw[sl.1];exact this
 ·obtain⟨u,h1,h2⟩:=sl.2 j y hy';exact⟨u,by rw[Ox (fun z=>QR z.symm)];exact h1,h2⟩
noncomputable def fO (i:Nat):pL:=fun x ρ Z=> .ok (ρ.set i (some x)) Z
theorem fu {i:Nat}:GD K E (wm i) (fO i):=fun B σ H α Z ρ v x Q s sl h w=>WS.now s w _ (sl.set h)
noncomputable def vj:w6:=fun xs ρ Z=>match xs with
 |[]=> .ok ρ Z
 |_=> .bad
noncomputable def jm (f:pL) (g:w6):w6:=fun xs ρ Z=>match xs with
 |x::r=>(f x ρ Z).bind fun ρ1 Z1=>g r ρ1 Z1
 |[]=> .bad
theorem Eu:Ej K E Jn vj:=by
 intro B σ H α Z ρ vs xs Q s sl h w;cases h with
 |nil=>exact⟨rfl,WS.now s w _ sl⟩
 |cons _ _=>exact w.elim
theorem Du {t:TG} {u:AJ} {f:pL} {g:w6} (h1:GD K E t f) (h2:Ej K E u g):Ej K E (DB t u) (jm f g):=by
 intro B σ H α Z ρ vs xs Q s sl h w;cases h with
 |nil=>exact w.elim
 |cons a b=>refine⟨_,_,rfl,h1 B σ H α Z ρ _ _ _ s sl a (WS.imp (WS.bind w) fun ρ1 α1 Z1 H1 e1 s1 w1 σ1 V4=> ?_)⟩;exact h2 B σ1 H1 α1 Z1 ρ1 _ _ _ s1 V4 (Ov.Oy e1 b) w1
noncomputable def Bp:SV->Option (List SV)
 | .fz (.tuple ds)=>some (ds.map .fz)
 | .tp l=>some (l.map AV.sv)
 |_=>none
theorem IR {x:SV} {xs:List SV} (h:OG O K H α v x) (e:Bp x=some xs):∃a vs,v= .ref a/\Qj O K H a vs/\Ov O K H α vs xs:=by
 unfold Bp at e;split at e
 ·cases e
  cases h with
  |tup h hs=>exact⟨_,_,rfl,h,nQ _ _ hs⟩
 ·cases e;obtain⟨a,ys,rfl,h1,h2⟩:=h;exact⟨a,ys,rfl,h1,uT h2⟩
 ·cases e
noncomputable def EW (n:Nat) (f:w6):pL:=fun x ρ Z=>(RS.M3 Z (Bp x)).bind fun xs Z1=>if xs.length=n then f xs ρ Z1 else .bad
theorem Ef {n:Nat} {t:AJ} {f:w6} (h:Ej K E t f):GD K E (IK K n t) (EW n f):=by
 intro B σ H α Z ρ v x Q s sl hv w;obtain⟨xs,q,w⟩:=WS.M3 w;obtain⟨a,vs,rfl,h1,h2⟩:=IR hv q;by_cases hn:xs.length=n
 ·rw[if_pos hn] at w;exact⟨a,vs,rfl,h1.1,h2.length.trans hn,h B σ H α Z ρ vs xs Q s sl h2 w⟩
 ·rw[if_neg hn] at w;exact w.elim
noncomputable def cw:eV:=fun ρ Z=> .ok (.nx ρ) Z
noncomputable def aL (f g:eV):eV:=fun ρ Z=>(f ρ Z).bind fun fl Z1=>match fl with
 | .nx ρ1=>g ρ1 Z1
 |fl=> .ok fl Z1
noncomputable def bx (f:bK):eV:=fun ρ Z=>(f ρ Z).bind fun _ Z1=> .ok (.nx ρ) Z1
noncomputable def dR (f:bK) (g:pL):eV:=fun ρ Z=>(f ρ Z).bind fun x Z1=>(g x ρ Z1).bind fun ρ1 Z2=> .ok (.nx ρ1) Z2
noncomputable def bR (c:jf) (f g:eV):eV:=fun ρ Z=>(c ρ Z).bind fun b Z1=>if b=true then f ρ Z1 else g ρ Z1
noncomputable def hV (f:bK):eV:=fun ρ Z=>(f ρ Z).bind fun x Z1=> .ok (.rt x) Z1
noncomputable def oo:eV:=fun _ Z=> .ok (.rt (.fz .none)) Z
theorem rp:sO K E Ed cw:=fun B σ H α Z ρ D s sl w=>WS.now s w σ sl
theorem Bj:sO K E G7 oo:=fun B σ H α Z ρ D s sl w=>WS.now s w .OT .OT
theorem aR {t u:TS} {f g:eV} (h1:sO K E t f) (h2:sO K E u g):sO K E (IM t u) (aL f g):=by
 intro B σ H α Z ρ D s sl w;refine h1 B σ H α Z ρ {D with nx:=u D} s sl (WS.imp (WS.bind w) fun fl α1 Z1 H1 e1 s1 w1=> ?_);cases fl with
 |nx ρ1=>exact fun σ1 V4=>h2 B σ1 H1 α1 Z1 ρ1 D s1 V4 w1
 |rt x=>exact WS.now (E:=E) s1 w1
 |bk ρ1=>exact WS.now (E:=E) s1 w1
 |ct ρ1=>exact WS.now (E:=E) s1 w1
theorem vB {t:TE} {f:bK} (h:eA K E t f):sO K E (Cj t) (bx f):=by intro B σ H α Z ρ D s sl w;exact h B σ H α Z ρ _ s sl (WS.imp (WS.bind w) fun x α1 Z1 H1 e1 s1 w1 v hv=>WS.now s1 w1 σ (sl.Oy e1))
theorem mM {t:TE} {f:bK} {g:TG} {fg:pL} (h:eA K E t f) (hg:GD K E g fg):sO K E (DQ t g) (dR f fg):=by intro B σ H α Z ρ D s sl w;refine h B σ H α Z ρ _ s sl (WS.imp (WS.bind w) fun x α1 Z1 H1 e1 s1 w1 v hv=> ?_);exact hg B σ H1 α1 Z1 ρ v x _ s1 (sl.Oy e1) hv (WS.imp (WS.bind w1) fun ρ1 α2 Z2 H2 e2 s2 w2 σ2 UD=>WS.now s2 w2 σ2 UD)
theorem qT {c:TT} {fc:jf} {t u:TS} {f g:eV} (hc:wL K E c fc) (h1:sO K E t f) (h2:sO K E u g):sO K E (Iu c t u) (bR fc f g):=by
 intro B σ H α Z ρ D s sl w;refine hc B σ H α Z ρ _ s sl (WS.imp (WS.bind w) fun b α1 Z1 H1 e1 s1 w1=> ?_);cases b with
 |true=>exact h1 B σ H1 α1 Z1 ρ D s1 (sl.Oy e1) w1
 |false=>exact h2 B σ H1 α1 Z1 ρ D s1 (sl.Oy e1) w1
theorem iU {t:TE} {f:bK} (h:eA K E t f):sO K E (Iw t) (hV f):=by intro B σ H α Z ρ D s sl w;exact h B σ H α Z ρ _ s sl (WS.imp (WS.bind w) fun x α1 Z1 H1 e1 s1 w1 v hv=>WS.now s1 w1 v hv)
noncomputable def ff (f:Str) (x:SV):List (Str×SV)->List (Str×SV)
 |[]=>[(f,x)]
 |(g,y)::r=>if g=f then(g,x)::r else(g,y)::ff f x r
theorem Cg {f:Str} {x:SV} (h:OG O K H α v x):∀{ws:List (Str×V)} {fs:List (Str×SV)},Paired (fun(p:Str×V) (q:Str×SV)=>p.1=q.1/\OG O K H α p.2 q.2) ws fs->Paired (fun(p:Str×V) (q:Str×SV)=>p.1=q.1/\OG O K H α p.2 q.2) (jj f v ws) (ff f x fs)
 |_,_,.nil=> .cons ⟨rfl,h⟩ .nil
 |(g,u)::ws,(g',y)::fs,.cons ⟨e,k⟩ t=>by
  cases e;unfold jj ff;by_cases z:g=f
  ·rw[if_pos z,if_pos z];exact .cons ⟨rfl,h⟩ t
  ·rw[if_neg z,if_neg z];exact .cons ⟨rfl,k⟩ (Cg h t)
noncomputable def B9 (Z:bv) (C:Str):SV->Option (Nat×List (Str×SV))
 | .rf i=>match Z[i]? with
  |some (.obj D fs)=>if D=C then some (i,fs) else none
  |_=>none
 |_=>none
theorem Kv {C:Str} {x:SV} {i:Nat} {fs:List (Str×SV)} (s:MF B K H α Z) (hv:OG (ow B α Z) K H α v x) (h:B9 Z C x=some (i,fs)):Z[i]? =some (.obj C fs)/\∃a Ca dx ws,α[i]? =some a/\v= .ref a/\MG K Mv C=some (some (.ref Ca))/\H a=some (.ins Ca dx ws)/\Paired (fun(p:Str×V) (q:Str×SV)=>p.1=q.1/\OG (ow B α Z) K H α p.2 q.2) ws fs:=by
 cases x with
 |fz d=>cases h
 |tp l=>cases h
 |rf j=>
  obtain⟨a,ha,rfl⟩:=hv;unfold B9 at h;dsimp only at h;cases q:Z[j]? with
  |none=>rw[q] at h;cases h
  |some c=>
   rw[q] at h;cases c with
   |obj D gs=>
    dsimp only at h;by_cases z:D=C
    ·subst z;rw[if_pos rfl] at h;have e:=Mw h;cases e;obtain⟨Ca,dx,ws,h0,h1,h2⟩:=s.R8 i a _ ha q;exact⟨q,a,Ca,dx,ws,ha,rfl,h0,h1,h2⟩
    ·rw[if_neg z] at h;cases h
   |_=>cases h
noncomputable def Pl (C f:Str) (fo fe:bK):eV:=fun ρ Z=>(fe ρ Z).bind fun x Z1=>(fo ρ Z1).bind fun o Z2=>(RS.M3 Z2 (B9 Z2 C o)).bind fun p Z3=>if p.2.length<100 then .ok (.nx ρ) (Z3.set p.1 (.obj C (ff f x p.2))) else .bad
theorem uS {C f:Str} {L:List Str} {to te:TE} {fo fe:bK} (hc:jh K C L) (hf:f∈L) (ho:eA K E to fo) (he:eA K E te fe):sO K E (JO K to te f) (Pl C f fo fe):=by
 intro B σ H α Z ρ D s sl w;refine he B σ H α Z ρ _ s sl (WS.imp (WS.bind w) fun x α1 Z1 H1 e1 s1 w1 v hv=> ?_);refine ho B σ H1 α1 Z1 ρ _ s1 (sl.Oy e1) (WS.imp (WS.bind w1) fun o α2 Z2 H2 e2 s2 w2 u hu=> ?_);obtain⟨⟨i,fs⟩,q,w2⟩:=WS.M3 w2;obtain⟨qi,a,Ca,dx,ws,ha,rfl,h0,h1,h2⟩:=Kv s2 hu q;obtain⟨Cb,g0,g1,g2⟩:=hc;rw[h0] at g0;cases g0;dsimp only at w2;by_cases hn:fs.length<100
 ·rw[if_pos hn] at w2;have ev:Ev (ow B α2 Z2) H2 (ow B α2 Z2) (bA H2 a (.ins Ca dx (jj f v ws))):=uY ha qi (by intro z;cases z);have e3:NA α2 Z2 H2 α2 (Z2.set i (.obj C (ff f x fs))) (bA H2 a (.ins Ca dx (jj f v ws))):=NA.put ha qi (by intro z;cases z) (by intro z;cases z);have hl:ws.length=fs.length:=Paired.length h2;refine⟨a,Ca,dx,ws,rfl,h1,g1,g2 f hf,by omega,?_⟩;refine w2 α2 _ e3 (s2.put ha qi (by intro z;cases z) (by intro z;cases z) ⟨Ca,dx,_,h0,aH,Cg ((hv.Oy e2).ev ev fun _ _ h=>h) (Paired.Ph h2 fun _ _ r=>⟨r.1,r.2.ev ev fun _ _ h=>h⟩)⟩) σ ((sl.Oy (e1.trans e2)).Oy e3)
 ·rw[if_neg hn] at w2;exact w2.elim
abbrev Fz:=bS->bv->RS (List D)
def KO (K:Bn) (E:XK) (wi:TI) (fi:Fz):Prop:=
 ∀(B:ci) (σ:L2.St) (H:Hp) (α:List L8) (Z:bv) (ρ:bS) (R':It->Hp->Prop),MF B K H α Z->Oz (ow B α Z) K H α σ ρ->WS K E B H α Z (fun ds α' Z' H'=>∀J,wC K J (ow B α' Z') H' ds->R' J H') (fi ρ Z)->wi σ H R'
noncomputable def oC (f:FI):Fz:=fun ρ Z=>match f (b6 ρ) with
 | .ok (ds,_)=> .ok ds Z
 | .er x=> .er x Z
 | .bad=> .bad
theorem wU {wi:TI} {f:FI} (h:IO K E wi f):KO K E wi (oC f):=by
 intro B σ H α Z ρ R' s sl w;refine h (ow B α Z) H (ow B α Z) σ H (b6 ρ) R' (BD s sl) ?_;unfold oC at w;cases q:f (b6 ρ) with
 |bad=>rw[q] at w;exact w.elim
 |er x=>rw[q] at w;exact fun c dx H' e k=>w c dx α H' (NA.same e) (s.grow e) k
 |ok r=>obtain⟨ds,ρ'⟩:=r;rw[q] at w;exact fun O' J H' e R it=>w α H' (NA.same R.same) (s.grow R.same) J fun O2 H2 e2 n=>it O2 H2 (fun b o h z=>e2 b o h fun y=>z (R.bo b y)) n
noncomputable def jU (fe:bK):Fz:=fun ρ Z=>(fe ρ Z).bind fun x Z1=>(match frz 4 Z1 x with
 |some (d,Z2)=>RS.M3 Z2 (fQ d)
 |none=> .bad)
theorem pJ {tl:TE} {fe:bK} (h:eA K E tl fe):KO K E (yB K tl) (jU fe):=by
 intro B σ H α Z ρ R' s sl w;refine h B σ H α Z ρ _ s sl (WS.imp (WS.bind w) fun x α1 Z1 H1 e1 s1 w1 v hv=> ?_);cases q:frz 4 Z1 x with
 |none=>rw[q] at w1;exact w1.elim
 |some p=>
  obtain⟨d,Z2⟩:=p;rw[q] at w1;obtain⟨s2,e2,d2⟩:=uy 4 s1 hv q;dsimp only at w1;cases qs:fQ d with
  |none=>rw[qs] at w1;exact w1.elim
  |some ds=>
   rw[qs] at w1;cases d2 with
   |tup h hs=>cases qs;exact⟨_,rfl,.inr ⟨⟨_,h.1⟩,w1 α1 H1 e2 s2 _ (Bm h hs)⟩⟩
   |lst h hs=>cases qs;exact⟨_,rfl,.inl ⟨⟨_,h.1.sq⟩,w1 α1 H1 e2 s2 _ (yC h hs)⟩⟩
   |_=>cases qs
noncomputable def oJ (gt:pL) (b:eV):List D->eV
 |[],ρ,Z=> .ok (.nx ρ) Z
 |d::r,ρ,Z=>(gt (.fz d) ρ Z).bind fun ρ1 Z1=>(b ρ1 Z1).bind fun fl Z2=>match fl with
  | .nx ρ2=>oJ gt b r ρ2 Z2
  | .ct ρ2=>oJ gt b r ρ2 Z2
  | .bk ρ2=> .ok (.nx ρ2) Z2
  | .rt x=> .ok (.rt x) Z2
noncomputable def vH (fi:Fz) (gt:pL) (b:eV):eV:=fun ρ Z=>(fi ρ Z).bind fun ds Z1=>oJ gt b ds ρ Z1
theorem zA {wi:TI} {fi:Fz} {g:TG} {gt:pL} {tb:TS} {b:eV} (hi:KO K E wi fi) (hg:GD K E g gt) (hb:sO K E tb b):sO K E (Jj wi g tb) (vH fi gt b):=by
 intro B σ H α Z ρ D s sl w;refine hi B σ H α Z ρ _ s sl (WS.imp (WS.bind w) fun ds α1 Z1 H1 e1 s1 w1 J it=> ?_);refine⟨fun i m σ' H'=>m=ds.length - i/\i<=ds.length/\∃α2 Z2 ρ2,NA α1 Z1 H1 α2 Z2 H'/\MF B K H' α2 Z2/\Oz (ow B α2 Z2) K H' α2 σ' ρ2/\WS K E B H' α2 Z2 (Bs B K D) (oJ gt b (ds.drop i) ρ2 Z2),⟨_,rfl,MN _,α1,Z1,ρ,.refl,s1,sl.Oy e1,w1⟩,?_⟩;rintro i m σ2 H2 ⟨rfl,hi,α2,Z2,ρ2,e2,s2,UD,w2⟩;obtain⟨go,stop⟩:=it (ow B α2 Z2) H2 e2.ev s2.Sa;by_cases Pw:i<ds.length
 ·obtain⟨g1,g2⟩:=go i Pw
  refine .inr ⟨g1,fun σ' H'=>i+1<=ds.length/\∃α2 Z2 ρ2,NA α1 Z1 H1 α2 Z2 H'/\MF B K H' α2 Z2/\Oz (ow B α2 Z2) K H' α2 σ' ρ2/\WS K E B H' α2 Z2 (Bs B K D) (oJ gt b (ds.drop (i+1)) ρ2 Z2),fun σ' H' ⟨h1,h2⟩=>⟨ds.length - (i+1),by omega,rfl,h1,h2⟩,fun x H3 y=> ?_⟩;obtain⟨s3,d,hd,dv⟩:=g2 x H3 y;have ed:ds.drop i=d::ds.drop (i+1):=by obtain⟨_,q⟩:=Md.mp hd;rw[NT Pw,q]
  rw[ed] at w2;have e3:NA α2 Z2 H2 α2 Z2 H3:=NA.same s3;refine hg B σ2 H3 α2 Z2 ρ2 x (.fz d) _ (s2.grow s3) (UD.Oy e3) dv (WS.imp (WS.bind (WS.from e3 w2)) fun ρ3 α4 Z4 H4 e4 s4 w3 σ4 Wa=> ?_);refine hb B σ4 H4 α4 Z4 ρ3 _ s4 Wa (WS.imp (WS.bind w3) fun fl α5 Z5 H5 e5 s5 w4=> ?_);have e5':NA α1 Z1 H1 α5 Z5 H5:=e2.trans (e3.trans (e4.trans e5));cases fl with
  |nx ρ5=>exact fun σ5 UU=>⟨Pw,α5,Z5,ρ5,e5',s5,UU,w4⟩
  |ct ρ5=>exact fun σ5 UU=>⟨Pw,α5,Z5,ρ5,e5',s5,UU,w4⟩
  |bk ρ5=>exact WS.now (E:=E) s5 w4
  |rt x=>exact WS.now (E:=E) s5 w4
 ·have e:i=ds.length:=by omega
  subst e;rw[Oa (Mh _)] at w2;exact .inl ⟨stop,WS.now (E:=E) s2 w2 σ2 UD⟩
end
section
variable {B O O':ci} {K:Bn} {E:XK} {H H' H1 H2:Hp} {α α' α1 α2:List L8} {Z Z' Z1 Z2:bv} {σ:L2.St} {ρ:bS} {v:V}
noncomputable def bW (gt:pL) (ft:jf) (fe:bK):List D->bS->bv->List SV->RS (List SV)
 |[],_,Z,acc=> .ok acc Z
 |d::r,ρ,Z,acc=>(gt (.fz d) ρ Z).bind fun ρ1 Z1=>(ft ρ1 Z1).bind fun b Z2=>if b=true then(fe ρ1 Z2).bind fun x Z3=>(if acc.length<1000000 then bW gt ft fe r ρ1 Z3 (acc++[x]) else .bad) else bW gt ft fe r ρ1 Z2 acc
noncomputable def gP (n:Nat) (fj:List Nat) (ρ:bS):bS:=Me n none++fj.map fun j=>(ρ[j]?).join
noncomputable def ni (n:Nat) (fj:List Nat) (fi:Fz) (gt:pL) (ft:jf) (fe:bK):bK:=fun ρ Z=>(fi ρ Z).bind fun ds Z1=>(jY (bW gt ft fe ds (gP n fj ρ) Z1 [])).bind fun xs Z2=> .ok (.rf Z2.length) (Z2++[.lst xs])
theorem zH {own:List Str} {fv:List (Str×Nat)} {n:Nat} {fj:List Nat} (hn:own.length=n) (hf:fv.map (·.2)=fj) (sl:Oz O K H α σ ρ):Oz O K H α (ip own fv σ) (gP n fj ρ):=by
 unfold ip gP;rw[zK hn];have hl:fv.length=fj.length:=by rw[<-hf,L7]
 refine⟨by rw[Mg,Mg,MJ,MJ,L7,L7,hl],fun j x hx=> ?_⟩;by_cases hj:j<n
 ·rw[MM (by rw[MJ];exact hj),NB,if_pos hj] at hx;cases hx
 ·rw[MP (by rw[MJ];omega),MJ,Ml] at hx⊢
  subst hf;rw[Ml] at hx;cases q:fv[j - n]? with
  |none=>rw[q] at hx;cases hx
  |some p=>
   rw[q] at hx;have Tq:(ρ[p.2]?).join=some x:=Mw hx;have YD:ρ[p.2]? =some (some x):=by
    cases qq:ρ[p.2]? with
    |none=>rw[qq] at Tq;cases Tq
    |some o=>rw[qq] at Tq;exact congrArg some Tq
   obtain⟨u,h1,h2⟩:=sl.2 p.2 x YD;exact⟨u,by show some ((σ[p.2]?).join)=_;rw[h1];rfl,h2⟩
theorem vR {p:L8} {c:Cell} (hl:α.length=Z.length) (hc:c≠ .dead):ow (bL B p) α Z=ow B (α++[p]) (Z++[c]):=by
 funext b;refine propext ⟨fun z=> ?_,fun z=> ?_⟩
 ·rcases z with(z|z)|⟨i,d,h1,h2,h3⟩
  ·exact .inl z
  ·exact .inr ⟨α.length,c,by rw[z];exact aN,by rw[hl];exact aN,hc⟩
  ·exact .inr ⟨i,d,eK h1,eK h2,h3⟩
 ·rcases z with z|z
  ·exact .inl (.inl z)
  ·rcases oa hl z with z|z
   ·exact .inr z
   ·exact .inl (.inr z)
theorem MF.adopt {p:L8} {vs:List V} {xs:List SV} (s:MF (bL B p) K H α Z) (hp:H p=some (.lst vs)) (hv:Ov (ow (bL B p) α Z) K H α vs xs) (hB:¬B p):MF B K H (α++[p]) (Z++[.lst xs]):=by
 have eo:ow (bL B p) α Z=ow B (α++[p]) (Z++[.lst xs]):=vR s.len (by intro z;cases z);have pre:∀(i:Nat) (a:L8),α[i]? =some a->(α++[p])[i]? =some a:=fun i a h=>eK h;have np:∀i:Nat,α[i]?≠some p:=s.ba p (.inr rfl);refine⟨by rw[Mg,Mg,s.len];rfl,fun i j a h1 h2=> ?_,fun a h=>s.bn a (.inl h),fun a h i q=> ?_,fun i a h=> ?_,fun i a d h1 h2=> ?_⟩
 ·rcases bC h1 with g1|⟨e1,e2⟩<;>rcases bC h2 with g2|⟨e3,e4⟩
  ·exact s.nd i j a g1 g2
  ·rw[e4] at g1;exact absurd g1 (np i)
  ·rw[e2] at g2;exact absurd g2 (np j)
  ·omega
 ·rcases bC q with q|⟨_,e2⟩
  ·exact s.ba a (.inl h) i q
  ·subst e2;exact hB h
 ·rcases bC h with h|⟨_,e2⟩
  ·exact s.al i a h
  ·rw[e2,hp];simp
 ·rw[<-eo]
  rcases bC h2 with g2|⟨e1,e2⟩
  ·rcases bC h1 with g1|⟨e1,_⟩
   ·exact(s.R8 i a d g1 g2).ev .refl pre fun o q=>q
   ·have:=(Md.mp g2).1;have:=s.len;omega
  ·rcases bC h1 with g1|⟨_,e3⟩
   ·have:=(Md.mp g1).1;have:=s.len;omega
   ·rw[e2,e3];exact⟨vs,hp,Paired.Ph hv fun _ _ r=>r.ev .refl pre⟩
theorem MF.hide {p:L8} {o:HO} (s:MF B K H α Z) (hp:H p=none):MF (bL B p) K (bA H p o) α Z:=by have sm:Nt H (bA H p o):=b8 hp o;have g:=s.grow sm;have ev:Ev (ow B α Z) H (ow (bL B p) α Z) (bA H p o):=fun b u h n=>⟨sm b u h,fun z=>z.elim (fun z=>z.elim (fun z=>n (.inl z)) fun z=>by rw[z,hp] at h;cases h) fun z=>n (.inr z)⟩;refine⟨g.len,g.nd,fun a h=>h.elim (g.bn a) fun e=>by rw[e,aH];simp,fun a h i q=>h.elim (fun h=>g.ba a h i q) fun e=>by rw[e] at q;exact s.al i p q hp,g.al,fun i a c h1 h2=> ?_⟩;exact(s.R8 i a c h1 h2).ev ev (fun _ _ h=>h) fun o q=>sm _ _ q
theorem MF.Wi {p:L8} {o o':HO} (s:MF (bL B p) K H α Z) (hp:H p=some o):MF (bL B p) K (bA H p o') α Z:=by
 have ev:Ev (ow (bL B p) α Z) H (ow (bL B p) α Z) (bA H p o'):=Ev.mut (.inl (.inr rfl)) o';have n:∀b,H b≠none->bA H p o' b≠none:=fun b h=>by
  by_cases z:b=p
  ·subst z;rw[aH];simp
  ·rw[aO z];exact h
 refine⟨s.len,s.nd,fun a h=>n a (s.bn a h),s.ba,fun i a h=>n a (s.al i a h),fun i a c h1 h2=>(s.R8 i a c h1 h2).ev ev (fun _ _ h=>h) fun u q=> ?_⟩;have:a≠p:=fun z=>s.ba p (.inr rfl) i (by rw[<-z];exact h1);rw[aO this];exact q
theorem NA.dd {p:L8} {o:HO} (e:NA α1 Z1 H1 α Z H) (hp:H1 p=none):NA α1 Z1 H1 α Z (bA H p o):=⟨e.pre,fun b u h n=>by rw[aO (cC h hp)];exact e.kp b u h n,e.lv⟩
theorem qK {own:List Str} {fv:List (Str×Nat)} {wi:TI} {g:TG} {tc:TT} {te:TE} {fi:Fz} {gt:pL} {ft:jf} {fe:bK} {n:Nat} {fj:List Nat} (hn:own.length=n) (hf:fv.map (·.2)=fj)
  (hi:KO K E wi fi) (hg:GD K E0 g gt) (ht:wL K E0 tc ft) (he:eA K E0 te fe):eA K E (sV own fv wi g tc te) (ni n fj fi gt ft fe):=by
 intro B σ H α Z ρ Q s sl w;refine hi B σ H α Z ρ _ s sl (WS.imp (WS.bind w) fun ds α1 Z1 H1 e1 s1 w1 J it=> ?_);intro Dd hD;have Yb:Oz (ow B α1 Z1) K H1 α1 (ip own fv σ) (gP n fj ρ):=zH hn hf (sl.Oy e1);cases qr:bW gt ft fe ds (gP n fj ρ) Z1 [] with
 |er x Zf=>rw[qr] at w1;exact w1.elim
 |bad=>rw[qr] at w1;exact w1.elim
 |ok xs Zf=>
  rw[qr] at w1;have w1:WS K E B H1 α1 Z1 (PQ B K Q) (.ok (.rf Zf.length) (Zf++[.lst xs])):=w1;have hB:¬B Dd:=fun z=>s1.bn Dd z hD;have XX:∀{α2:List L8} {Z2:bv} {H':Hp},NA α1 Z1 H1 α2 Z2 H'->Ev (ow B α1 Z1) H1 (ow (bL B Dd) α2 Z2) H':=fun e b o h n=>⟨e.kp b o h fun z=>n (.inr z),fun z=>by
   rcases z with(z|z)|z
   ·exact n (.inl z)
   ·rw[z,hD] at h;cases h
   ·exact(e.lv b z).elim (fun q=>n (.inr q)) fun q=>by rw[h] at q;cases q⟩
  refine⟨fun i m σ' H'=>m=ds.length - i/\i<=ds.length/\∃α2 Z2 ρc acc ys,NA α1 Z1 H1 α2 Z2 H'/\MF (bL B Dd) K H' α2 Z2/\Oz (ow (bL B Dd) α2 Z2) K H' α2 σ' ρc/\H' Dd=some (.lst ys)/\Ov (ow (bL B Dd) α2 Z2) K H' α2 ys acc/\bW gt ft fe (ds.drop i) ρc Z2 acc= .ok xs Zf,
   ⟨_,rfl,MN _,α1,Z1,gP n fj ρ,[],[],NA.same (b8 hD _),s1.hide hD,?_,aH,.nil,qr⟩,?_⟩
  ·exact⟨Yb.1,fun j x hx=>let⟨v,h1,h2⟩:=Yb.2 j x hx;⟨v,h1,h2.ev (XX (NA.same (b8 hD _))) fun _ _ h=>h⟩⟩
  ·rintro i m σ2 H2 ⟨rfl,hi,α2,Z2,ρ2,acc,ys,e2,s2,UD,hy,vy,qP⟩
   obtain⟨go,stop⟩:=it (ow (bL B Dd) α2 Z2) H2 (XX e2) s2.Sa;by_cases Pw:i<ds.length
   ·obtain⟨g1,g2⟩:=go i Pw
    refine .inr ⟨g1,fun σ5 H5=>i+1<=ds.length/\∃α2 Z2 ρc acc ys,NA α1 Z1 H1 α2 Z2 H5/\MF (bL B Dd) K H5 α2 Z2/\Oz (ow (bL B Dd) α2 Z2) K H5 α2 σ5 ρc/\H5 Dd=some (.lst ys)/\Ov (ow (bL B Dd) α2 Z2) K H5 α2 ys acc/\bW gt ft fe (ds.drop (i+1)) ρc Z2 acc= .ok xs Zf,
     fun σ5 H5 ⟨h1,h2⟩=>⟨ds.length - (i+1),by omega,rfl,h1,h2⟩,fun x H3 y=> ?_⟩
    obtain⟨s3,d,hd,dv⟩:=g2 x H3 y;have ed:ds.drop i=d::ds.drop (i+1):=by obtain⟨_,q⟩:=Md.mp hd;rw[NT Pw,q]
    rw[ed] at qP;unfold bW at qP;have e3:NA α2 Z2 H2 α2 Z2 H3:=NA.same s3;have kD:∀{αx αy:List L8} {Zx Zy:bv} {Hx Hy:Hp} {o:HO},MF (bL B Dd) K Hx αx Zx->NA αx Zx Hx αy Zy Hy->Hx Dd=some o->Hy Dd=some o:=fun sx ex h=>ex.kp _ _ h fun⟨i,c,q,_⟩=>sx.ba Dd (.inr rfl) i q;refine hg (bL B Dd) σ2 H3 α2 Z2 ρ2 x (.fz d) _ (s2.grow s3) (UD.Oy e3) dv ?_;cases qg:gt (.fz d) ρ2 Z2 with
    |er z Zz=>rw[qg] at qP;cases qP
    |bad=>rw[qg] at qP;cases qP
    |ok ρ4 Z4=>
     rw[qg] at qP;intro α4 H4 e4 s4 σ4 Wa;refine ht (bL B Dd) σ4 H4 α4 Z4 ρ4 _ s4 Wa ?_;have qP:((ft ρ4 Z4).bind fun b Z2=>if b=true then(fe ρ4 Z2).bind fun x Z3=>(if acc.length<1000000 then bW gt ft fe (ds.drop (i+1)) ρ4 Z3 (acc++[x]) else .bad) else bW gt ft fe (ds.drop (i+1)) ρ4 Z2 acc)= .ok xs Zf:=qP;cases qt:ft ρ4 Z4 with
     |er z Zz=>rw[qt] at qP;cases qP
     |bad=>rw[qt] at qP;cases qP
     |ok b Z5=>
      rw[qt] at qP;intro α5 H5 e5 s5;have UU:=Wa.Oy e5;have Vu:=e3.trans (e4.trans e5);cases b with
      |false=>have qP:bW gt ft fe (ds.drop (i+1)) ρ4 Z5 acc= .ok xs Zf:=qP;exact⟨Pw,α5,Z5,ρ4,acc,ys,e2.trans Vu,s5,UU,kD s2 Vu hy,Ov.Oy Vu vy,qP⟩
      |true=>
       have qP:((fe ρ4 Z5).bind fun x Z3=>(if acc.length<1000000 then bW gt ft fe (ds.drop (i+1)) ρ4 Z3 (acc++[x]) else .bad))= .ok xs Zf:=qP;rw[if_pos rfl];refine he (bL B Dd) σ4 H5 α5 Z5 ρ4 _ s5 UU ?_;cases qe:fe ρ4 Z5 with
       |er z Zz=>rw[qe] at qP;cases qP
       |bad=>rw[qe] at qP;cases qP
       |ok x6 Z6=>
        rw[qe] at qP;intro α6 H6 e6 s6 v6 hv6;have qP:(if acc.length<1000000 then bW gt ft fe (ds.drop (i+1)) ρ4 Z6 (acc++[x6]) else .bad)= .ok xs Zf:=qP;by_cases TM:acc.length<1000000
        ·rw[if_pos TM] at qP;have V5:=Vu.trans e6;have Ye:H6 Dd=some (.lst ys):=kD s2 V5 hy;have XG:=Ov.Oy V5 vy;have em:Ev (ow (bL B Dd) α6 Z6) H6 (ow (bL B Dd) α6 Z6) (bA H6 Dd (.lst (ys++[v6]))):=Ev.mut (.inl (.inr rfl)) _;have X0:=UU.Oy e6;refine⟨ys,Ye,sC (by rw[XG.length];exact TM),Pw,α6,Z6,ρ4,acc++[x6],ys++[v6],(e2.trans V5).dd hD,s6.Wi Ye,⟨X0.1,fun j x hx=>let⟨v,h1,h2⟩:=X0.2 j x hx;⟨v,h1,h2.ev em fun _ _ h=>h⟩⟩,aH,vg (Paired.Ph XG fun _ _ r=>r.ev em fun _ _ h=>h) (hv6.ev em fun _ _ h=>h),qP⟩
        ·rw[if_neg TM] at qP;cases qP
   ·have e:i=ds.length:=by omega
    subst e;rw[Oa (Mh _)] at qP;have qP:RS.ok acc Z2= .ok xs Zf:=qP;cases qP;refine .inl ⟨stop,?_⟩;refine w1 (α2++[Dd]) H2 ⟨fun i a h=>eK (e2.pre i a h),e2.kp,fun b z=>(oa s2.len z).elim (e2.lv b) fun z=> .inr (by rw[z];exact hD)⟩ (s2.adopt hy vy hB) (.ref Dd) ⟨Dd,by rw[<-s2.len];exact aN,rfl⟩
noncomputable def eF (N:Nat) (g:eV):g9:=fun xs Z=>(g (xs.map some++Me (N - xs.length) none) Z).bind fun fl Z1=>match fl with
 | .rt x=> .ok x Z1
 | .nx _=> .ok (.fz .none) Z1
 |_=> .bad
theorem Dy {N:List Str} {vs:List V} {xs:List SV} (h:Ov O K H α vs xs):Oz O K H α (L2.start N vs) (xs.map some++Me (N.length - xs.length) none):=by
 have hl:vs.length=xs.length:=Paired.length h;unfold L2.start;refine⟨by rw[Mg,Mg,L7,L7,MJ,MJ,hl],fun i x hx=> ?_⟩;by_cases hi:i<xs.length
 ·rw[MM (by rw[L7];exact hi),Ml] at hx
  cases q:xs[i]? with
  |none=>rw[q] at hx;cases hx
  |some d=>rw[q] at hx;cases hx;obtain⟨v,hv,h2⟩:=xO h q;refine⟨v,?_,h2⟩;rw[MM (by rw[L7,hl];exact hi),Ml,hv];rfl
 ·rw[MP (by rw[L7];omega),NB] at hx;split at hx<;>cases hx
theorem Jf {N:List Str} {vs:List V} {xs:List SV} {g:eV} {t:TS} {Q:VK} {n:Nat} (hs:sO K E t g) (h:fR K n (eF N.length g) vs H Q E):t {nx:=fun _ H'=>Q .OT H',rt:=Q} (L2.start N vs) H:=by
 obtain⟨hl,B,α,Z,xs,s,hv,w⟩:=h;refine hs B _ H α Z _ _ s (Dy hv) (WS.imp (WS.bind w) fun fl α1 Z1 H1 e1 s1 w1=> ?_);cases fl with
 |rt x=>exact WS.now (E:=E) s1 w1
 |nx ρ=>exact fun σ sl=>WS.now (E:=E) s1 w1 .OT .OT
 |bk ρ=>exact w1.elim
 |ct ρ=>exact w1.elim
end
theorem LS {P:My} {w:MS} {K:Bn} {mg:Str->Option L5} {base:Heap} {x qual:Str} {st:Oj} {f:L8} {fd:Nk} {N ps:List Str} {k n m:Nat} {g:eV} {FF:g9} (F:O9 K x qual st f fd) (S:PK N ps (bi st)) (hn:ps.length=n) (hm:N.length=m) (hF:FF=eF m g)
  (P2:∀(N5:L5) (A:MO) (outer:List Env) (s:Ma) (H:Hp) (E:XK),Og k (A.deeper (M4 qual (bi st) s.heap.objs.size f N5))->
   ∃t,RZ (pS dr P w K mg base N qual (bi st) f N5 A outer s H E).Vi (gi st) t/\sO K E t g):FnOk P w K mg base dr (k+1) f fd ps (fR K n FF):=by
 subst hF hm;refine F.ok S (fun vs H Q E h=>h.1.trans hn.symm) (fun N5 A outer s H vs Q E hr h=> ?_);obtain⟨t,ht,hs⟩:=P2 N5 A outer s H E hr;exact⟨t,ht,Jf (xs:=[]) hs h⟩
noncomputable abbrev j5 (P:My) (w:MS) (K:Bn) (mg:Str->Option L5) (base:Heap) (k:Nat) (x:Str) (ps:List Str) (n:Nat) (F:g9):Prop:=zC P w K mg base k x ps (fR K n F)
end L10
namespace PySem.W
open PySem PySem.Calls PyProof.Rows PyProof.V PySem.Spec
section
variable {prog:My} {w:MS} {A:MO} {E:L5->Ma->Prop} {s:Ma} {T:String} {r d:L8} {n:Nat} {P:Nat->L5->Prop} {OK:Heap->Prop}
theorem collect_kdl {Q:List L5->Ma->Prop} (K:KdlSrc prog w T r d n P OK) (hh:A.handled=none) (Nw:OK s.heap) (hn:n<=Mq)
  (hQ:∀h' tk acc,(∀b o,s.heap.get? b=some o->h'.get? b=some o)->aa0 P acc n->Q acc.toList {s with heap:=h',toks:=tk}):wpAny (model prog w) A (collect (.ref r)) Q E s:=by
 have Pw:=K.there _ Nw;unfold collect;refine L6 (wpAny_runValue (OX F.entry_proto_collect ?_));rw[MO.under_plainId F.plain_proto_collect _];show wpAny _ A.in1 (newList []>>=fun l=>again (.builtin "list.__iadd__" ⟨[l,.ref r],[]⟩)) _ _ s;refine L6 (Nr ?_);refine Mi ⟨OW F.plain_list_iadd _,OX F.entry_list_iadd ?_⟩;rw[MO.under_plainId F.plain_list_iadd _];have hS:(s.heap.push {cls:= .type "list",data:= .seq ([]:List L5).toArray}).get? s.heap.objs.size=some {cls:= .type "list",data:= .seq ([]:List L5).toArray}:=Heap.get?_push_size _ rfl;show wpAny _ A.in1 (MU.List.listExtendWith (.ref s.heap.objs.size) (.ref r) (.ref s.heap.objs.size)) _ _ _;refine kdl_extend (R:=wants (fun v s'=>wpAny (model prog w) A (match v with| .ref a=>(load a>>=fun o=>match o.data with| .seq xs _=>pure xs.toList|_=>unsupported "internal:collect")|_=>unsupported "internal:collect") Q E s') E) (s:={s with heap:=s.heap.push {cls:= .type "list",data:= .seq ([]:List L5).toArray}}) K hh (K.keep _ _ Nw fun b _ o e=>Heap.get?_push_of_some _ e) _ (Ny Pw.1) (Ny Pw.2) _ 0 hS (fun h' tk ZC c' hk Vp aap=> ?_) hn;show wpAny _ A (load s.heap.objs.size>>=_) _ _ _;refine L6 (VW Vp ?_);exact Mi (hQ h' tk ZC (fun b o e=>hk b o (MD (Heap.lt_size e)) (Heap.get?_push_of_some _ e)) aap)
end
end PySem.W
namespace PyProof.Rows
open PySem
section
variable {prog:My} {w:MS} {A:MO} {E:L5->Ma->Prop} {s:Ma} {T:String} {r d:L8} {n:Nat} {P:Nat->L5->Prop} {OK:Heap->Prop}
theorem yb {ns:List Int} {Q:L5->Ma->Prop} (K:PySem.W.KdlSrc prog w T r d n P OK) (hh:A.handled=none) (Nw:OK s.heap) (Xa:n<64) (hI:∀acc:Array L5,aa0 P acc n->IntsAre acc.toList ns)
  (h:∀(h1 h':Heap) (tk:Nat) (out:Array L5) (e:Nat) (ms:List Int),(∀b o,s.heap.get? b=some o->h1.get? b=some o)->h'.get? h1.objs.size=some (seqObj "list" out e)->(∀b o,h1.get? b=some o->h'.get? b=some o)->IntsAre out.toList ms->ms.Perm ns->ms.Pairwise (·<=·)->Q (.ref h1.objs.size) {s with heap:=h',toks:=tk}):
  wpAny (model prog w) A (call (.builtin "sorted") [.ref r]) Q E s:=by
 refine Calls.call_function_entry kind_sorted plain_sorted entry_sorted (args_sorted1 _) (L6 (m:=checkCount "sorted" 1 1 _) (Mi (L6 (PySem.W.collect_kdl K hh Nw (by rw[Px];omega) (fun h1 tk acc hk hi=>L6 (aaZ ?_ (hsz:=by rw[M7,hi.1,Px];omega)))))));have hL:(h1.push (seqObj "list" acc.toList.toArray 0)).get? h1.objs.size=some (seqObj "list" acc.toList.toArray 0):=Heap.get?_push_size _ rfl;have hIa:=hI acc hi;refine L6 (OU (Oc slot_list_sort ⟨_,hL,rfl⟩ entry_list_sort (list_sort_tree hL hIa (by rw[M7,hi.1];exact Xa) fun out ms a1 a2 a3=>⟨_,rfl,Mi ⟨_,rfl,?_⟩⟩) (args_list_sort _)));obtain⟨e,he⟩:=qC (out:=out) hL;exact h h1 _ tk out e ms hk he (fun b o' z=>oK (MD (Heap.lt_size z)) (Heap.get?_push_of_some _ z)) a1 a2 a3
end
end PyProof.Rows
namespace L10
open PySem PySem.Spec PyProof.Rows L2 L3
noncomputable def yH (p d:L8):HO:= .ext fun h=>h.IsValuesView p d
theorem JT {P:My} {w:MS} {H:Hp} {h:Heap} {p d:L8} (x:h.IsValuesView p d):ObjOk P w H h p (yH p d):=⟨x,let⟨o,ho,_⟩:=x;⟨o,ho⟩,fun h1 h2 ⟨o,ho,hc⟩ k=>⟨o,k o ho,hc⟩⟩
def CV:V->List V->Hp->VK->Prop:=fun x vs H Q=>∃a kvs,x= .ref a/\vs=[]/\H a=some (.dK kvs)/\∀p,H p=none->Q (.ref p) (bA H p (yH p a))
theorem og {X:Cx}:Lk X "dict.values" CV:=by intro pins s σ H x xs v us Q I rx rxs h;obtain⟨a,kvs,rfl,rfl,e,q⟩:=h;cases rx;cases rxs;obtain⟨z,hd,vs,rel,dd⟩:=sW I.Nw e;refine call_meetsIn OC dd.typeIs PySem.F.entry_dict_values (PySem.F.args_dict_values_1 _) (meets_dict_values (bZ X.prog X.w) a hd) ⟨⟨vs,dd⟩,?_⟩;refine⟨.ref s.heap.objs.size,_,I.laid (t':=s.toks) (o:=yH s.heap.objs.size a) (fun b o e=>Heap.get?_push_of_some _ e) (Mh _) (JT ⟨_,Heap.get?_push_size _ rfl,rfl,rfl⟩),rfl,q _ (I.Nw.fresh (Mh _))⟩
def DT:List V->Hp->VK->Prop:=fun xs H Q=>∃p a kvs,xs=[.ref p]/\H p=some (yH p a)/\H a=some (.dK kvs)/\∀l,H l=none->Q (.ref l) (bA H l (.lst (kvs.map (·.2))))
theorem zN {κ:Type}:∀{kvs:List (κ×V)} {vs:List (κ×L5)},KV kvs vs->Vals (kvs.map (·.2)) (vs.map (·.2))
 |_,_,.nil=> .nil
 |_,_,.cons h t=> .cons h.2 (zN t)
theorem pU {X:Cx} (hc:X.calm=true):Oq X (.type "list") DT:=by intro pins s σ H xs us Q I r h;obtain⟨p,a,kvs,rfl,ep,e,q⟩:=h;obtain⟨u,rfl,ru⟩:=iy r;cases ru;obtain⟨z,hd,vs,rel,dd⟩:=sW I.Nw e;obtain⟨en,da⟩:=dd.dictAt;obtain⟨vw,_,_⟩:ObjOk X.prog X.w H s.heap p (yH p a):=I.Nw p _ ep;refine PySem.W.kdl_call (PySem.W.kdl_values (knd:=bZ X.prog X.w)) (I.ok.hd hc) ⟨vw,da⟩ (by rw[<-rel.length];exact z) fun h' tk acc c hk hL hi=> ?_;have ea:acc.toList=vs.map (·.2):=PySem.W.kdl_vals_eq acc.toList (by rw[M7];exact hi.1) fun j v ej=>hi.2 j v (by rw[<-S5];exact ej);refine⟨.ref s.heap.objs.size,_,I.laid (t':=tk) (o:= .lst (kvs.map (·.2))) hk (Mh _) ⟨by rw[L7];exact z,acc.toList,c,by rw[ea];exact zN rel,by rw[Array.toArray_toList];exact hL⟩,rfl,q _ (I.Nw.fresh (Mh _))⟩
def Bx:List V->Hp->VK->Prop:=fun xs H Q=>∃(p:L8) (kvs:List (bt×V)) (ns:List Int),xs=[.ref p]/\H p=some (.dK kvs)/\kvs.map (·.1)=ns.map Sum.inl/\ns.length<64/\∀(l:L8) (ms:List Int),H l=none->ms.Perm ns->ms.Pairwise (·<=·)->Q (.ref l) (bA H l (.lst (ms.map V.int)))
theorem rh {prog:My} {w:MS}:∀{vs:List (bt×L5)} {ns:List Int} {us:List L5},vs.map (·.1)=ns.map Sum.inl->us.length=vs.length->(∀(j:Nat) (u:L5),us[j]? =some u->∃k x,vs[j]? =some (k,x)/\(bZ prog w).is k u=true)->IntsAre us ns
 |[],[],[],_,_,_=> .nil
 |[],[],_::_,_,h,_=>by simp at h
 |[],_::_,_,h,_,_=>by simp at h
 |_::_,[],_,h,_,_=>by simp at h
 |_::_,_::_,[],_,h,_=>by simp at h
 |(k,y)::vs,n::ns,u::us,h1,h2,h3=>by rw[Ms,Ms,ab0] at h1;obtain⟨k',x,e,hk⟩:=h3 0 u rfl;cases e;have ek:k=Sum.inl n:=h1.1;subst ek;obtain⟨t,rfl⟩:=L5.isInt_shape (show L5.isInt n u=true from hk);exact .cons _ _ (rh h1.2 (by simpa using h2) fun j u' e=>h3 (j+1) u' (by simpa using e))
theorem lW {X:Cx} (hc:X.calm=true):Oq X (.builtin "sorted") Bx:=by
 intro pins s σ H xs us Q I r h;obtain⟨p,kvs,ns,rfl,e,en,Xa,q⟩:=h;obtain⟨u,rfl,ru⟩:=iy r;cases ru;obtain⟨z,hd,vs,rel,dd⟩:=sW I.Nw e;obtain⟨ep,da⟩:=dd.dictAt;have hv:vs.map (·.1)=ns.map Sum.inl:=by rw[<-rel.keys];exact en
 have hl:vs.length=ns.length:=by have:=congrArg QD hv;simpa using this
 refine yb (ns:=ns) (PySem.W.kdl_dict (knd:=bZ X.prog X.w) hd) (I.ok.hd hc) da (by omega) (fun acc hi=>rh hv (by rw[M7];exact hi.1) fun j v ej=>hi.2 j v (by rw[<-S5];exact ej)) fun h1 h' tk out e2 ms hk he SI hi hp hs=> ?_;have hlen:ms.length=ns.length:=hp.length_eq;have I1:Inv X pins σ H {s with heap:=h1}:=I.kept (t':=s.toks) hk;refine⟨.ref h1.objs.size,_,I1.laid (t':=tk) (o:= .lst (ms.map V.int)) SI (Mh _) ?_,rfl,q _ ms (I1.Nw.fresh (Mh _)) hp hs⟩;refine⟨?_,out.toList,e2,jg hi,he⟩;rw[L7,hlen];have:(64:Nat)<=Mq:=by decide
 omega
end L10
namespace PySem
open Sem (wp)
namespace F
theorem lk_tuple_keys:typeLookup (.type "tuple") "keys"=pure none:=by rw[Yk,U0];kernel_rfl
theorem lk_tuple_hook:typeLookup (.type "tuple") "__getattr__"=pure none:=by rw[Yk,U0];kernel_rfl
theorem sub_ae:isSubtype (.type "AttributeError") (.type "AttributeError")=pure true:=by rw[isSubtype_type];kernel_rfl
end F
section
variable {prog:My} {w:MS} {A:MO} {E:L5->Ma->Prop} {h:Heap} {g:Array S8} {d:YW} {t:Nat} {os:OsState} {a:L8} {o:Obj}
theorem xh {α:Type} {name msg:Str} {Q:α->Ma->Prop} {E:L5->Ma->Prop} (hm:msg.length<=Mq) (hh:A.handled=none) (hq:∀e h' t',(∀b o,h.get? b=some o->h'.get? b=some o)->(⟨h',g,d,t',os⟩:Ma).TypeIs e "AttributeError"->E e ⟨h',g,d,t',os⟩):
  wpAny (model prog w) A (raiseAttrError (.ref a) name msg:Sem α) Q E ⟨h,g,d,t,os⟩:=by
 have YQ:¬msg.length>Mq:=Nat.not_lt.mpr hm;unfold raiseAttrError newExc newTuple
 repeat (any_goals (first|assumption|wp_step))
 refine SE (a:=true) F.sub_ae ?_
 repeat (any_goals (first|assumption|wp_step))
 refine wpAny_raiseNew_none hh (hq _ _ _ (fun b o e=> ?_) ?_)
 ·exact(Heap.get?_update_other _ _ (Ne.symm (MD (Heap.lt_size (Heap.get?_push_of_some _ e))))).trans (Heap.get?_push_of_some _ (Heap.get?_push_of_some _ e))
 ·exact⟨_,Heap.get?_update_self _ (Heap.get?_push_size _ rfl) rfl,rfl⟩
theorem om {tk:Tok} {Q:Fin->Ma->Prop} {E:L5->Ma->Prop} {MY:Array L5} {n:Nat} {sl:Array (Option L5)} (hx:h.get? a=some ⟨.type "tuple",none,.seq MY n,sl⟩) (hh:A.handled=none) (hq:∀e h' t',(∀b o,h.get? b=some o->h'.get? b=some o)->(⟨h',g,d,t',os⟩:Ma).TypeIs e "AttributeError"->E e ⟨h',g,d,t',os⟩):
  wpAny (model prog w) A (MU.«object.__getattribute__» ⟨[.ref a,.str "keys" tk],[]⟩) Q E ⟨h,g,d,t,os⟩:=by
 have hT:(⟨h,g,d,t,os⟩:Ma).TypeIs (.ref a) "tuple":=⟨_,hx,rfl⟩;have f4:=F.lk_tuple_keys
 repeat (any_goals (first|assumption|wp_step))
 exact xh (by decide+kernel) hh hq
theorem sg {tk:Tok} {Q:L5->Ma->Prop} {E:L5->Ma->Prop} {MY:Array L5} {n:Nat} {sl:Array (Option L5)} (hx:h.get? a=some ⟨.type "tuple",none,.seq MY n,sl⟩) (hh:A.handled=none) (hq:∀e h' t',(∀b o,h.get? b=some o->h'.get? b=some o)->(⟨h',g,d,t',os⟩:Ma).TypeIs e "AttributeError"->E e ⟨h',g,d,t',os⟩):
  wpAny (model prog w) A (getAttrBy (.ref a) (.str "keys" tk) false) Q E ⟨h,g,d,t,os⟩:=by
 have hT:(⟨h,g,d,t,os⟩:Ma).TypeIs (.ref a) "tuple":=⟨_,hx,rfl⟩;have f2:=F.slot_tuple_getattribute.lookup;have f3:=F.slot_tuple_getattribute.bind (.ref a);have f4:=F.lk_tuple_hook
 repeat (any_goals (first|assumption|wp_step))
 refine U9 F.slot_tuple_getattribute.plain F.entry_tuple_ga (F.slot_tuple_getattribute.check _ _ _ _ _ _ _ _ hT (F.args_tuple_getattribute_2 _ _) (om hx hh fun e h' t' hk he=> ?_));have fs:=F.sub_ae;show wpAny (model prog w) A (getattributeRaised (L5.ref a) (L5.str (Str.ofString "keys") tk) (L5.type "tuple") e none false false) Q E _;unfold getattributeRaised;refine L6 (Xl he fs ?_)
 repeat (any_goals (first|assumption|wp_step))
 exact hq e h' t' hk he
theorem pd {Q:Option L5->Ma->Prop} {MY:Array L5} {n:Nat} {sl:Array (Option L5)} (hx:h.get? a=some ⟨.type "tuple",none,.seq MY n,sl⟩) (hh:A.handled=none) (hq:∀h' t',(∀b o,h.get? b=some o->h'.get? b=some o)->Q none ⟨h',g,d,t',os⟩):
  wpAny (model prog w) A (getAttr? (.ref a) "keys") Q E ⟨h,g,d,t,os⟩:=by
 unfold getAttr? getAttrBy?;have fs:=F.sub_ae;refine L6 ?_
 repeat (any_goals (first|assumption|(with_reducible refine sg hx hh fun e h' t' hk he=> ?_)|wp_step))
 exact hq h' t' hk
namespace F
theorem entry_upd_loop:entryFor table "dict.update.loop"=some MU.«dict.update.loop»:=entryFor_of_tree (by kernel_rfl)
theorem plain_upd_loop:plainId "dict.update.loop"=true:=by decide+kernel
end F
end
section
variable {prog:My} {w:MS} {A:MO} {E:L5->Ma->Prop} {s:Ma} {K:Type} [DecidableEq K] {knd:KeyKind prog w K} {I dd ax:L8} {items:Array L5} {ks:List (K×L5)} {R:Ta->Ma->Prop}
theorem xL (kvs:List (K×L5)) (k:K) (v:L5):(stored kvs k v).length<=kvs.length+1:=by
 unfold stored;split
 ·rw[L7];omega
 ·rw[Mg];exact Mh _
theorem ox:∀(more kvs:List (K×L5)),(merged kvs more).length<=kvs.length+more.length
 |[],kvs=>Mh _
 |p::r,kvs=>by have h1:=ox r (stored kvs p.1 p.2);have h2:=xL kvs p.1 p.2;show(merged (stored kvs p.1 p.2) r).length<=_;rw[Mm];omega
theorem xH (more:List (K×L5)):(merged [] more).length<=more.length:=by have:=ox more [];simpa using this
theorem DL {h0:Heap} (hh:A.handled=none) (QR:ax≠I) (hI:I≠dd) (hax:ax≠dd) (hp:∀(i:Nat) (v:L5),items[i]? =some v->∃q key k x,v= .ref q/\q≠dd/\q≠I/\ks[i]? =some (k,x)/\knd.is k key=true/\h0.IsTuple q #[key,x]) (hs:ks.length=items.size) (hz:items.size<=Mq)
  (hR:∀h' tk,h'.DictOf knd dd (merged [] ks)->(∀b o,b≠dd->b≠I->h0.get? b=some o->h'.get? b=some o)->R (.ok (.ret .none)) {s with heap:=h',toks:=tk}):
  ∀(m i:Nat) (h:Heap) (tk:Nat),items.size - i=m->i<=items.size->h.IsTupleIter I ax i->h.IsTuple ax items->h.DictOf knd dd (merged [] (ks.take i))->(∀b o,b≠dd->b≠I->h0.get? b=some o->h.get? b=some o)->
   codeAny (model prog w) A (.builtin "dict.update.loop" ⟨[.ref dd,.ref I,rawInt i,.none],[]⟩) R {s with heap:=h,toks:=tk}:=by
 have W:=YZ.tuple (prog:=prog) (w:=w) (A:=A.in1) hh I ax QR items;intro m
 induction m with
 |zero=>
  intro i h tk hm hi it tu dt kp;have e:i=items.size:=by omega
  subst e;refine OX F.entry_upd_loop ?_;rw[MO.under_plainId F.plain_upd_loop _];show wpAny _ A.in1 (pyNext (.ref I)>>=_) _ _ _;refine L6 (W.done _ _ _ ⟨it,tu⟩ fun h' UN hk=> ?_);rw[List.take_of_length_le (by omega)] at dt;show wpAny _ A.in1 (MU.Dict.addKeywords dd []>>=fun _=>ret .none) _ _ _;refine L6 (Mi (Mi ?_));refine hR h' UN (dt.at fun o e=>hk dd o (by simp;exact fun z=>hI z.symm) e) fun b o h1 h2 e=>hk b o (by simp;exact h2) (kp b o h1 h2 e)
 |succ m ih=>
  intro i h tk hm hi it tu dt kp;have Pw:i<items.size:=by omega
  refine OX F.entry_upd_loop ?_;rw[MO.under_plainId F.plain_upd_loop _];show wpAny _ A.in1 (pyNext (.ref I)>>=_) _ _ _;refine L6 (W.item i _ _ _ Pw ⟨it,tu⟩ fun v h' UN hv st hk=> ?_);obtain⟨q,key,k,x,rfl,Zi,hq2,hk1,SI,ht⟩:=hp i v hv;have ht':h'.IsTuple q #[key,x]:=ht.at fun o e=>hk q o (by simp;exact hq2) (kp q o Zi hq2 e);have dt':h'.DictOf knd dd (merged [] (ks.take i)):=dt.at fun o e=>hk dd o (by simp;exact fun z=>hI z.symm) e;have kp':∀b o,b≠dd->b≠I->h0.get? b=some o->h'.get? b=some o:=fun b o h1 h2 e=>hk b o (by simp;exact h2) (kp b o h1 h2 e);obtain⟨oq,hoq,hcq,nq,hdq⟩:=ht';obtain⟨cq,dq,dtq,slq⟩:=oq;cases hcq;cases hdq;have hT:({s with heap:=h',toks:=UN}:Ma).TypeIs (.ref q) "tuple":=⟨_,hoq,rfl⟩;refine L6 (OU (L6 ?_));refine Ra ?_;unfold MU.Dict.pairItems;refine L6 (Up hT ?_);rw[if_pos (by decide)];refine L6 ?_;unfold seqItems?;refine L6 (VW hoq (Mi (Mi ?_)));show wpAny _ A.in1 (holding [key,x] (dictSet dd key x)) _ _ _;refine OU (wpAny_dictSet_pairs SI dt' (fun h2 d2 s2=> ?_) ?_)
  ·refine Mi ⟨OW F.plain_upd_loop _,?_⟩;have e2:∀b o,b≠dd->h'.get? b=some o->h2.get? b=some o:=fun b o hb e=>(s2.2 b hb).trans e;refine ih (i+1) h2 (UN+1) (by omega) Pw (st.1.at fun o e=>e2 I o hI e) (st.2.at fun o e=>e2 ax o hax e) ?_ fun b o h1 h2 e=>e2 b o h1 (kp' b o h1 h2 e);rw[merged_take_succ [] ks i (k,x) hk1];exact d2
  ·have:(merged [] (ks.take i)).length<=(ks.take i).length:=xH _;rw[Nl] at this;omega
end
end PySem
namespace PySem
open Sem (wp)
open PyProof.Rows
section
variable {prog:My} {w:MS} {A:MO} {E:L5->Ma->Prop} {s:Ma} {K:Type} [DecidableEq K] {knd:KeyKind prog w K} {ax:L8} {items:Array L5} {ks:List (K×L5)} {R:Ta->Ma->Prop}
theorem oX {Q:L5->Ma->Prop} {n:Nat} {sl:Array (Option L5)} (hh:A.handled=none) (hx:s.heap.get? ax=some ⟨.type "tuple",none,.seq items n,sl⟩) (hs:ks.length=items.size) (hz:items.size<=Mq)
  (hp:∀(i:Nat) (v:L5),items[i]? =some v->∃q key k x,v= .ref q/\ks[i]? =some (k,x)/\knd.is k key=true/\s.heap.IsTuple q #[key,x])
  (h:∀h' tk,h'.DictOf knd s.heap.objs.size (merged [] ks)->(∀b o,s.heap.get? b=some o->h'.get? b=some o)->Q (.ref s.heap.objs.size) {s with heap:=h',toks:=tk}):
  wpAny (model prog w) A (call (.type "dict") [.ref ax]) Q E s:=by
 refine callType_codes (Q₁:=fun obj s₁=>obj= .ref s.heap.objs.size/\s₁={s with heap:=s.heap.push {cls:= .type "dict",data:= .dict #[]}}) F.kt_called_dict (F.kt_typeCall_dict_1 _) F.entry_dict_init (kt_code_dict_new _ ⟨rfl,rfl⟩) ?_;rintro obj s₁ ⟨rfl,rfl⟩;have T1:(s.heap.push {cls:= .type "dict",data:= .dict #[]}).DictOf knd s.heap.objs.size []:=Heap.DictOf.new s.heap;have Tq:(s.heap.push {cls:= .type "dict",data:= .dict #[]}).get? ax=some ⟨.type "tuple",none,.seq items n,sl⟩:=Heap.get?_push_of_some _ hx;have hT:({s with heap:=s.heap.push {cls:= .type "dict",data:= .dict #[]}}:Ma).TypeIs (.ref ax) "tuple":=⟨_,Tq,rfl⟩;refine⟨T1.typeIs,F.args_dict_init_2 _ _,?_⟩;unfold MU.«dict.__init__»;refine L6 ?_;unfold MU.Dict.selfAndRest;refine L6 (wpAny_notOrdered_dict T1.typeIs ?_);show wpAny _ _ (pure (s.heap.objs.size,[L5.ref ax])) _ _ _;refine Mi ?_;show wpAny _ _ (MU.Dict.updateFrom "dict.__init__" s.heap.objs.size (.ref ax) [] .none) _ _ _;unfold MU.Dict.updateFrom;refine L6 (Up hT ?_);rw[if_pos (by decide)];refine L6 (pd Tq hh fun h' t' hk=> ?_);rw[if_pos (show(S4:Option L5).isNone=true from rfl)];refine L6 (RF ?_);have YD:=hk _ _ Tq;have ht2:h'.IsTuple ax items:=⟨_,YD,rfl,n,rfl⟩;refine L6 (QZ (s:={s with heap:=h',toks:=t'}) ht2 ?_);refine Mi ⟨OW F.plain_upd_loop _,?_⟩;have Yz:s.heap.objs.size<h'.objs.size:=by obtain⟨o,_,_,ho,_⟩:=T1;exact Heap.lt_size (hk _ _ ho)
 have lta:ax<s.heap.objs.size:=Heap.lt_size hx;refine DL (A:=A.in1) (prog:=prog) (w:=w) (knd:=knd) (ks:=ks) (items:=items) (ax:=ax) (R:=wants (fun r s₂=>r=L5.none/\Q (L5.ref s.heap.objs.size) s₂) E) (h0:=h'.push {cls:= .type "tuple_iterator",data:= .fields #[.ref ax,.int 0 0]}) (s:={s with heap:=h',toks:=t'}) hh (MD (O0 lta Yz)) (Ny Yz) (MD lta) (fun i v e=> ?_) hs hz (fun h2 Wt d2 k2=> ?_) items.size 0 _ t' (by omega) (MN _) ⟨_,Heap.get?_push_size _ rfl,rfl,rfl⟩ ⟨_,Heap.get?_push_of_some _ YD,rfl,n,rfl⟩ ?_ fun b o _ _ e=>e
 ·obtain⟨q,key,k,x,rfl,h1,h2,o,ho,h3⟩:=hp i v e;have lq:=Heap.lt_size ho;exact⟨q,key,k,x,rfl,MD lq,MD (O0 lq Yz),h1,h2,o,Heap.get?_push_of_some _ (hk _ _ (Heap.get?_push_of_some _ ho)),h3⟩
 ·refine⟨rfl,h h2 Wt d2 fun b o e=> ?_⟩;have lb:=Heap.lt_size e;exact k2 b o (MD lb) (MD (O0 lb Yz)) (Heap.get?_push_of_some _ (hk _ _ (Heap.get?_push_of_some _ e)))
 ·have:=T1.at (h':=h'.push {cls:= .type "tuple_iterator",data:= .fields #[.ref ax,.int 0 0]}) fun o e=>Heap.get?_push_of_some _ (hk _ _ e);exact this
end
end PySem
namespace L10
open PySem PySem.Spec PyProof.Rows L2 L3
inductive Sh (K:Bn) (H:Hp):List V->List (bt×V)->Prop
 |nil:Sh K H [] []
 |cons {q:L8} {k:bt} {v:V} {vs:List V} {kvs:List (bt×V)}:P4 K H q [kV k,v]->Sh K H vs kvs->Sh K H (.ref q::vs) ((k,v)::kvs)
def Eb (K:Bn):List V->Hp->VK->Prop:=fun xs H Q=>∃p ys kvs,xs=[.ref p]/\P4 K H p ys/\Sh K H ys kvs/\∀d,H d=none->Q (.ref d) (bA H d (.dK (gk [] kvs)))
theorem B6 {X:Cx} {pins:List (L8×Obj)} {σ:L2.St} {H:Hp} {s:Ma} (I:Inv X pins σ H s):∀{ys:List V} {kvs:List (bt×V)} {us:List L5},Sh X.K H ys kvs->Vals ys us->∃ks:List (bt×L5),KV kvs ks/\ks.length=us.length/\∀(i:Nat) (v:L5),us[i]? =some v->∃q key k x,v= .ref q/\ks[i]? =some (k,x)/\(bZ X.prog X.w).is k key=true/\s.heap.IsTuple q #[key,x]
 |_,_,_,.nil,.nil=>⟨[],.nil,rfl,fun i v e=>by simp at e⟩
 |_,_,_,.cons (q:=q) (k:=k) (v:=v) h t,.cons r rs=>by
  obtain⟨ks,h1,h2,h3⟩:=B6 I t rs;obtain⟨MY,rv,pl,_⟩:=I.tuple h;cases r;obtain⟨uk,ux,rfl,rk,rx⟩:∃uk ux,MY=[uk,ux]/\RelV (kV k) uk/\RelV v ux:=by
   cases rv with
   |cons a b=>cases b with
    |cons b c=>cases c;exact⟨_,_,rfl,a,b⟩
  refine⟨(k,ux)::ks,.cons ⟨rfl,rx⟩ h1,by rw[Mm,Mm,h2],fun i u e=> ?_⟩;cases i with
  |zero=>cases e;exact⟨q,uk,k,ux,rfl,rfl,pX rk,pl⟩
  |succ i=>exact h3 i u (by simpa using e)
theorem ye {X:Cx} (hc:X.calm=true):Oq X (.type "dict") (Eb X.K):=by
 intro pins s σ H xs us Q I r h;obtain⟨p,ys,kvs,rfl,hq,hp,q⟩:=h;obtain⟨u,rfl,ru⟩:=iy r;cases ru;obtain⟨MY,rv,⟨o,ho,⟨hcl,n,hd⟩,hdn⟩,hz⟩:=I.Ws hq;obtain⟨ks,k1,k2,k3⟩:=B6 I hp rv;obtain⟨oc,od,odt,U5⟩:=o;cases hcl;cases hd;cases hdn;have hl:=rv.length;have hkl:=k1.length;refine oX (knd:=bZ X.prog X.w) (ks:=ks) (I.ok.hd hc) ho (by rw[Mo];exact k2) (by rw[Mo,<-hl];exact hz) (fun i v e=>k3 i v (by simpa using e)) fun h' tk dd hk=> ?_;refine⟨.ref s.heap.objs.size,_,I.laid (t':=tk) (o:= .dK (gk [] kvs)) hk (Mh _) ?_,rfl,q _ (I.Nw.fresh (Mh _))⟩;refine ue ?_ ?_ (KV.merge k1 .nil) dd
 ·have:=jb kvs [];rw[NH] at this;omega
 ·exact beq_eq_false_iff_ne.mpr (Ny I.big)
end L10
namespace L10
open PySem PyProof.Rows L2 L3
theorem Jk:M6 "dict"=some (.type "dict"):=by decide+kernel
section
variable {B O O':ci} {K:Bn} {E:XK} {H H' H1 H2:Hp} {α α' α1 α2:List L8} {Z Z' Z1 Z2:bv} {σ:L2.St} {ρ:bS} {v:V}
noncomputable def oO:SV->Option bt
 | .fz (.int i)=>some (.inl i)
 | .fz (.str x)=>some (.inr x)
 |_=>none
theorem mG {x:SV} {k:bt} (e:oO x=some k) (h:OG O K H α v x):v=kV k:=by
 unfold oO at e;split at e
 ·cases e;cases h;rfl
 ·cases e;cases h;rfl
 ·cases e
noncomputable abbrev pE (O:ci) (K:Bn) (H:Hp) (α:List L8):List (bt×V)->List (bt×SV)->Prop:=Paired (fun(p:bt×V) (q:bt×SV)=>p.1=q.1/\OG O K H α p.2 q.2)
noncomputable def hG (Z:bv):SV->Option (Nat×List (bt×SV))
 | .rf i=>match Z[i]? with
  |some (.Oe kvs)=>some (i,kvs)
  |_=>none
 |_=>none
theorem kq {x:SV} {i:Nat} {kvs:List (bt×SV)} (s:MF B K H α Z) (hv:OG (ow B α Z) K H α v x) (h:hG Z x=some (i,kvs)):Z[i]? =some (.Oe kvs)/\∃a ws,α[i]? =some a/\v= .ref a/\H a=some (.dK ws)/\pE (ow B α Z) K H α ws kvs:=by
 cases x with
 |fz d=>cases h
 |tp l=>cases h
 |rf j=>
  obtain⟨a,ha,rfl⟩:=hv;unfold hG at h;dsimp only at h;cases q:Z[j]? with
  |none=>rw[q] at h;cases h
  |some c=>
   rw[q] at h;cases c with
   |Oe ys=>have e:=Mw h;cases e;obtain⟨ws,h1,h2⟩:=s.R8 i a _ ha q;exact⟨q,a,ws,ha,rfl,h1,h2⟩
   |_=>cases h
noncomputable def e9 (kvs:List (bt×SV)) (k:bt):Option SV:=(kvs.find? fun kv=>decide (kv.1=k)).map (·.2)
noncomputable def cZ (kvs:List (bt×SV)) (k:bt) (x:SV):List (bt×SV):=
 if(kvs.any fun kv=>decide (kv.1=k))=true then kvs.map (fun kv=>if kv.1=k then(kv.1,x) else kv) else kvs++[(k,x)]
noncomputable def ja (kvs:List (bt×SV)) (k:bt):List (bt×SV):=kvs.filter fun kv=>decide (kv.1≠k)
theorem pK {k:bt}:∀{ws:List (bt×V)} {kvs:List (bt×SV)},pE O K H α ws kvs->(∀x,e9 kvs k=some x->∃v,j3 ws k=some v/\OG O K H α v x)/\(e9 kvs k=none->j3 ws k=none)
 |_,_,.nil=>⟨fun x e=>(by cases e),fun _=>rfl⟩
 |(a,u)::ws,(b,y)::kvs,.cons ⟨h1,h2⟩ t=>by
  cases h1;unfold e9 j3;rw[NG,NG];by_cases e:a=k
  ·simp only[decide_eq_true e];exact⟨fun x h=>⟨u,rfl,by cases h;exact h2⟩,fun h=>by cases h⟩
  ·simp only[decide_eq_false e];exact pK t
theorem KK {k:bt}:∀{ws:List (bt×V)} {kvs:List (bt×SV)},pE O K H α ws kvs->(ws.any fun kv=>decide (kv.1=k))=kvs.any fun kv=>decide (kv.1=k)
 |_,_,.nil=>rfl
 |(a,u)::ws,(b,y)::kvs,.cons ⟨h1,h2⟩ t=>by cases h1;rw[OL,OL,KK t]
theorem IQ {k:bt} {x:SV} (hv:OG O K H α v x):∀{ws:List (bt×V)} {kvs:List (bt×SV)},pE O K H α ws kvs->pE O K H α (ws.map (fun kv=>if kv.1=k then(kv.1,v) else kv)) (kvs.map (fun kv=>if kv.1=k then(kv.1,x) else kv))
 |_,_,.nil=> .nil
 |(a,u)::ws,(b,y)::kvs,.cons ⟨h1,h2⟩ t=>by
  cases h1;rw[Ms,Ms];by_cases e:a=k
  ·rw[if_pos e,if_pos e];exact .cons ⟨rfl,hv⟩ (IQ hv t)
  ·rw[if_neg e,if_neg e];exact .cons ⟨rfl,h2⟩ (IQ hv t)
theorem B8 {p:bt×V} {q:bt×SV} {ws:List (bt×V)} {kvs:List (bt×SV)} (h:pE O K H α ws kvs) (r:p.1=q.1/\OG O K H α p.2 q.2):pE O K H α (ws++[p]) (kvs++[q]):=by
 induction h with
 |nil=>exact .cons r .nil
 |cons a _ ih=>exact .cons a ih
theorem yU {k:bt} {x:SV} (hv:OG O K H α v x) {ws:List (bt×V)} {kvs:List (bt×SV)} (h:pE O K H α ws kvs):pE O K H α (jr ws k v) (cZ kvs k x):=by
 unfold jr cZ;rw[KK h];split
 ·exact IQ hv h
 ·exact B8 h ⟨rfl,hv⟩
theorem qB {k:bt}:∀{ws:List (bt×V)} {kvs:List (bt×SV)},pE O K H α ws kvs->pE O K H α (nj ws k) (ja kvs k)
 |_,_,.nil=> .nil
 |(a,u)::ws,(b,y)::kvs,.cons ⟨h1,h2⟩ t=>by
  cases h1;unfold nj ja;rw[Pj,Pj];by_cases e:a=k
  ·have z:decide (a≠k)=false:=decide_eq_false fun n=>n e;simp only[z];exact qB t
  ·have z:decide (a≠k)=true:=decide_eq_true e;simp only[z];exact .cons ⟨rfl,h2⟩ (qB t)
noncomputable def oW (neg:Bool) (fk fd:bK):bK:=fun ρ Z=>(fk ρ Z).bind fun x Z1=>(fd ρ Z1).bind fun o Z2=>(RS.M3 Z2 (oO x)).bind fun k Z2=>(RS.M3 Z2 (hG Z2 o)).bind fun p Z2=> .ok (.fz (.bool ((e9 p.2 k).isSome !=neg))) Z2
theorem Ec {k:bt} {ws:List (bt×V)} {kvs:List (bt×SV)} (h:pE O K H α ws kvs):(j3 ws k).isSome=(e9 kvs k).isSome:=by
 obtain⟨h1,h2⟩:=pK (k:=k) h;cases q:e9 kvs k with
 |none=>rw[h2 q];rfl
 |some x=>obtain⟨u,e,_⟩:=h1 x q;rw[e];rfl
theorem zJ {tk td:TE} {fk fd:bK} (hk:eA K E tk fk) (hd:eA K E td fd):eA K E (Kt tk td) (oW false fk fd):=by intro B σ H α Z ρ Q s sl w;refine hk B σ H α Z ρ _ s sl (w.bind.imp fun x α1 Z1 H1 e1 s1 w1 v hv=> ?_);refine hd B σ H1 α1 Z1 ρ _ s1 (sl.Oy e1) (w1.bind.imp fun o α2 Z2 H2 e2 s2 w2 u hu=> ?_);obtain⟨k,q1,w2⟩:=WS.M3 w2;obtain⟨⟨i,kvs⟩,q2,w2⟩:=WS.M3 w2;obtain⟨_,a,ws,ha,rfl,g1,g2⟩:=kq s2 hu q2;refine⟨a,j3 ws k,rfl,by rw[mG q1 hv];exact Su.k g1,?_⟩;rw[Ec g2];refine WS.now s2 w2 _ ?_;show L3.DV _ K H2 _ (.bool ((e9 kvs k).isSome !=false));rw[Bool.bne_false];exact .bl _
noncomputable def bu (fd fk:bK):bK:=fun ρ Z=>(fd ρ Z).bind fun o Z1=>(fk ρ Z1).bind fun x Z2=>(RS.M3 Z2 (oO x)).bind fun k Z2=>(RS.M3 Z2 (hG Z2 o)).bind fun p Z2=>RS.M3 Z2 (e9 p.2 k)
theorem fS {td tk:TE} {fd fk:bK} (hd:eA K E td fd) (hk:eA K E tk fk):eA K E (GG td tk) (bu fd fk):=by
 intro B σ H α Z ρ Q s sl w;refine hd B σ H α Z ρ _ s sl (w.bind.imp fun o α1 Z1 H1 e1 s1 w1 u hu=> ?_);refine hk B σ H1 α1 Z1 ρ _ s1 (sl.Oy e1) (w1.bind.imp fun x α2 Z2 H2 e2 s2 w2 v hv=> ?_);obtain⟨k,q1,w2⟩:=WS.M3 w2;obtain⟨⟨i,kvs⟩,q2,w2⟩:=WS.M3 w2;obtain⟨_,a,ws,ha,rfl,g1,g2⟩:=kq s2 (hu.Oy e2) q2;dsimp only at w2;cases q:e9 kvs k with
 |none=>rw[q] at w2;exact w2.elim
 |some y=>rw[q] at w2;obtain⟨z,hz,vz⟩:=(pK g2).1 y q;exact⟨a,z,rfl,by rw[mG q1 hv,<-hz];exact Su.k g1,WS.now s2 w2 z vz⟩
noncomputable def eS (fd fk fv:bK):eV:=fun ρ Z=>(fv ρ Z).bind fun y Z1=>(fd ρ Z1).bind fun o Z2=>(fk ρ Z2).bind fun x Z3=>(RS.M3 Z3 (oO x)).bind fun k Z3=>(RS.M3 Z3 (hG Z3 o)).bind fun p Z3=>if p.2.length<1000000 then .ok (.nx ρ) (Z3.set p.1 (.Oe (cZ p.2 k y))) else .bad
theorem vx {td tk tv:TE} {fd fk fv:bK} (hd:eA K E td fd) (hk:eA K E tk fk) (hv:eA K E tv fv):sO K E (GI td tk tv) (eS fd fk fv):=by
 intro B σ H α Z ρ D s sl w;refine hv B σ H α Z ρ _ s sl (WS.imp (WS.bind w) fun y α1 Z1 H1 e1 s1 w1 vy hvy=> ?_);refine hd B σ H1 α1 Z1 ρ _ s1 (sl.Oy e1) (WS.imp (WS.bind w1) fun o α2 Z2 H2 e2 s2 w2 u hu=> ?_);refine hk B σ H2 α2 Z2 ρ _ s2 (sl.Oy (e1.trans e2)) (WS.imp (WS.bind w2) fun x α3 Z3 H3 e3 s3 w3 z hz=> ?_);obtain⟨k,q1,w3⟩:=WS.M3 w3;obtain⟨⟨i,kvs⟩,q2,w3⟩:=WS.M3 w3;obtain⟨qi,a,ws,ha,rfl,g1,g2⟩:=kq s3 (hu.Oy e3) q2;dsimp only at w3;by_cases hn:kvs.length<1000000
 ·rw[if_pos hn] at w3;have ev:Ev (ow B α3 Z3) H3 (ow B α3 Z3) (bA H3 a (.dK (jr ws k vy))):=uY ha qi (by intro z;cases z);have e4:NA α3 Z3 H3 α3 (Z3.set i (.Oe (cZ kvs k y))) (bA H3 a (.dK (jr ws k vy))):=NA.put ha qi (by intro z;cases z) (by intro z;cases z);have hl:ws.length=kvs.length:=Paired.length g2;refine⟨a,_,rfl,by rw[mG q1 hz];exact UB.k g1 (sC (by omega)),?_⟩;exact w3 α3 _ e4 (s3.put ha qi (by intro z;cases z) (by intro z;cases z) ⟨_,aH,yU ((hvy.Oy (e2.trans e3)).ev ev fun _ _ h=>h) (Paired.Ph g2 fun _ _ r=>⟨r.1,r.2.ev ev fun _ _ h=>h⟩)⟩) σ ((sl.Oy (e1.trans (e2.trans e3))).Oy e4)
 ·rw[if_neg hn] at w3;exact w3.elim
noncomputable def sS (fd fk:bK):bK:=fun ρ Z=>(fd ρ Z).bind fun o Z1=>(RS.M3 Z1 (hG Z1 o)).bind fun _ Z1=>(fk ρ Z1).bind fun x Z2=>(RS.M3 Z2 (oO x)).bind fun k Z2=>(RS.M3 Z2 (hG Z2 o)).bind fun p Z2=>(RS.M3 Z2 (e9 p.2 k)).bind fun y Z2=> .ok y (Z2.set p.1 (.Oe (ja p.2 k)))
theorem BJ {td tk:TE} {fd fk:bK} (hd:eA K E td fd) (hk:eA K E tk fk):eA K E (DD td tk) (sS fd fk):=by intro B σ H α Z ρ Q s sl w;refine hd B σ H α Z ρ _ s sl (w.bind.imp fun o α1 Z1 H1 e1 s1 w1 u hu=> ?_);obtain⟨⟨i0,XQ⟩,q0,w1⟩:=WS.M3 w1;obtain⟨_,a,ws0,_,rfl,g0,_⟩:=kq s1 hu q0;refine⟨a,rfl,.inl ⟨ws0,.inl g0⟩,?_⟩;refine hk B σ H1 α1 Z1 ρ _ s1 (sl.Oy e1) (w1.bind.imp fun x α2 Z2 H2 e2 s2 w2 v hv=> ?_);obtain⟨k,q1,w2⟩:=WS.M3 w2;obtain⟨⟨i,kvs⟩,q2,w2⟩:=WS.M3 w2;obtain⟨qi,a',ws,ha,ea,g1,g2⟩:=kq s2 (hu.Oy e2) q2;cases ea;dsimp only at w2;obtain⟨y,q,w2⟩:=WS.M3 w2;obtain⟨z,hz,vz⟩:=(pK g2).1 y q;have ev:Ev (ow B α2 Z2) H2 (ow B α2 Z2) (bA H2 a (.dK (nj ws k))):=uY ha qi (by intro z;cases z);have e4:NA α2 Z2 H2 α2 (Z2.set i (.Oe (ja kvs k))) (bA H2 a (.dK (nj ws k))):=NA.put ha qi (by intro z;cases z) (by intro z;cases z);refine⟨ws,k,z,g1,mG q1 hv,hz,?_⟩;exact w2 α2 _ e4 (s2.put ha qi (by intro z;cases z) (by intro z;cases z) ⟨_,aH,qB (Paired.Ph g2 fun _ _ r=>⟨r.1,r.2.ev ev fun _ _ h=>h⟩)⟩) z (vz.Oy e4)
noncomputable def GL:bK:=fun _ Z=> .ok (.rf Z.length) (Z++[.Oe []])
theorem mO {Q:VK} {c:Cell} {o:HO} {p:L8} (s:MF B K H α Z) (hp:H p=none) (w:WS K E B H α Z (PQ B K Q) (.ok (.rf Z.length) (Z++[c]))) (hc:∀e:NA α Z H (α++[p]) (Z++[c]) (bA H p o),Uk (ow B (α++[p]) (Z++[c])) K (bA H p o) (α++[p]) p c):Q (.ref p) (bA H p o):=by have sm:Nt H (bA H p o):=b8 hp _;have e:NA α Z H (α++[p]) (Z++[c]) (bA H p o):=NA.S0 s.len sm hp;exact w _ _ e (s.S0 sm hp (by rw[aH];simp) (hc e)) _ ⟨p,by rw[<-s.len];exact aN,rfl⟩
theorem vG:eA K E A2 GL:=by intro B σ H α Z ρ Q s sl w;exact fun p hp=>mO s hp w fun _=>⟨[],aH,.nil⟩
noncomputable def mK (fd:bK):bK:=fun ρ Z=>(fd ρ Z).bind fun o Z1=>(RS.M3 Z1 (hG Z1 o)).bind fun p Z1=> .ok (.rf Z1.length) (Z1++[.lst (p.2.map (·.2))])
theorem rA:∀{ws:List (bt×V)} {kvs:List (bt×SV)},pE O K H α ws kvs->Ov O K H α (ws.map (·.2)) (kvs.map (·.2))
 |_,_,.nil=> .nil
 |_,_,.cons h t=> .cons h.2 (rA t)
theorem vA {td:TE} {fd:bK} (hd:eA K E td fd):eA K E (Fs DT (lx (Iy K "dict" CV td) rF)) (mK fd):=by intro B σ H α Z ρ Q s sl w;refine hd B σ H α Z ρ _ s sl (w.bind.imp fun o α1 Z1 H1 e1 s1 w1 u hu=> ?_);obtain⟨⟨i,kvs⟩,q2,w1⟩:=WS.M3 w1;obtain⟨qi,a,ws,ha,rfl,g1,g2⟩:=kq s1 hu q2;refine⟨.inr (.inr (.inl ⟨rfl,.inl ⟨ws,g1⟩⟩)),a,ws,rfl,rfl,g1,fun p hp=> ?_⟩;have sm:Nt H1 (bA H1 p (yH p a)):=b8 hp _;have s2:=s1.grow sm;have w2:=WS.from (NA.same sm) w1;refine⟨p,a,ws,rfl,aH,sm _ _ g1,fun l hl=> ?_⟩;refine mO s2 hl w2 fun e=>⟨_,aH,rA (Paired.Ph g2 fun _ _ r=>⟨r.1,(r.2.Oy (NA.same sm)).Oy e⟩)⟩
noncomputable def xy:bt->Option Int
 | .inl i=>some i
 | .inr _=>none
noncomputable def mP (fd:bK):bK:=fun ρ Z=>(fd ρ Z).bind fun o Z1=>(RS.M3 Z1 (hG Z1 o)).bind fun p Z1=>(RS.M3 Z1 (aF xy (p.2.map (·.1)))).bind fun ns Z1=>if ns.length<64 then .ok (.rf Z1.length) (Z1++[.lst ((iZ ns).map fun i=>SV.fz (.int i))]) else .bad
theorem rS:∀{ks:List bt} {ns:List Int},aF xy ks=some ns->ks=ns.map Sum.inl
 |[],_,e=>by cases e;rfl
 |k::r,ns,e=>by
  unfold aF at e;cases k with
  |inr x=>cases e
  |inl i=>
   dsimp only[xy] at e;cases q:aF xy r with
   |none=>rw[q] at e;cases e
   |some ms=>rw[q] at e;cases e;rw[Ms,<-rS q]
theorem wV:∀{ws:List (bt×V)} {kvs:List (bt×SV)},pE O K H α ws kvs->ws.map (·.1)=kvs.map (·.1)
 |_,_,.nil=>rfl
 |_,_,.cons h t=>by rw[Ms,Ms,h.1,wV t]
theorem zT (O:ci) (K:Bn) (H:Hp) (α:List L8):∀ns:List Int,Ov O K H α (ns.map V.int) (ns.map fun i=>SV.fz (.int i))
 |[]=> .nil
 |n::r=> .cons (.int n) (zT O K H α r)
theorem qv {td:TE} {fd:bK} (hd:eA K E td fd):eA K E (Fs Bx (lx td rF)) (mP fd):=by
 intro B σ H α Z ρ Q s sl w;refine hd B σ H α Z ρ _ s sl (w.bind.imp fun o α1 Z1 H1 e1 s1 w1 u hu=> ?_);obtain⟨⟨i,kvs⟩,q2,w1⟩:=WS.M3 w1;obtain⟨qi,a,ws,ha,rfl,g1,g2⟩:=kq s1 hu q2;obtain⟨ns,q3,w1⟩:=WS.M3 w1;by_cases hn:ns.length<64
 ·rw[if_pos hn] at w1;refine⟨a,ws,ns,rfl,g1,by rw[wV g2];exact rS q3,hn,fun l ms hl hp hs=> ?_⟩;have em:ms=iZ ns:=k8 (hp.trans (fL ns).symm) hs (eU ns);subst em;exact mO s1 hl w1 fun e=>⟨_,aH,zT _ _ _ _ _⟩
 ·rw[if_neg hn] at w1;exact w1.elim
noncomputable def rq:D->Option (bt×SV)
 | .tuple [.int i,d]=>some (.inl i,.fz d)
 | .tuple [.str x,d]=>some (.inr x,.fz d)
 |_=>none
noncomputable def tR:SV->Option (List (bt×SV))
 | .fz (.tuple ds)=>aF rq ds
 |_=>none
theorem AI {x:SV} {ps:List (bt×SV)} (e:tR x=some ps):∃ds,x= .fz (.tuple ds)/\aF rq ds=some ps:=by
 unfold tR at e;split at e
 ·exact⟨_,rfl,e⟩
 ·cases e
noncomputable def gm (kvs more:List (bt×SV)):List (bt×SV):=more.foldl (fun acc kv=>cZ acc kv.1 kv.2) kvs
noncomputable def vC (fe:bK):bK:=fun ρ Z=>(fe ρ Z).bind fun x Z1=>(RS.M3 Z1 (tR x)).bind fun ps Z1=> .ok (.rf Z1.length) (Z1++[.Oe (gm [] ps)])
theorem wN:∀{vs:List V} {ds:List D} {ps:List (bt×SV)},L3.Nz O K H vs ds->aF rq ds=some ps->∃kvs,Sh K H vs kvs/\pE O K H α kvs ps
 |_,_,_,.nil,e=>by cases e;exact⟨[],.nil,.nil⟩
 |_,_,_,.cons (d:=d) (ds:=ds) h t,e=>by
  unfold aF at e;cases q:rq d with
  |none=>rw[q] at e;cases e
  |some p=>
   rw[q] at e;dsimp only at e;cases q2:aF rq ds with
   |none=>rw[q2] at e;cases e
   |some ps=>
    rw[q2] at e;cases e;obtain⟨kvs,k1,k2⟩:=wN t q2;unfold rq at q;split at q
    ·cases q
     cases h with
     |tup h hs=>cases hs with
      |cons a b=>cases b with
       |cons b c=>cases c;cases a;exact⟨(.inl _,_)::kvs,.cons h.1 k1,.cons ⟨rfl,b⟩ k2⟩
    ·cases q
     cases h with
     |tup h hs=>cases hs with
      |cons a b=>cases b with
       |cons b c=>cases c;cases a;exact⟨(.inr _,_)::kvs,.cons h.1 k1,.cons ⟨rfl,b⟩ k2⟩
    ·cases q
theorem ui:∀{more:List (bt×V)} {ms:List (bt×SV)} {ws:List (bt×V)} {kvs:List (bt×SV)},pE O K H α more ms->pE O K H α ws kvs->pE O K H α (gk ws more) (gm kvs ms)
 |_,_,_,_,.nil,h=>h
 |(a,u)::more,(b,y)::ms,_,_,.cons r t,h=>by obtain⟨r1,r2⟩:=r;cases r1;show pE O K H α (gk (jr _ a u) more) (gm (cZ _ a y) ms);exact ui (more:=more) (ms:=ms) t (yU r2 h)
theorem CU {te:TE} {fe:bK} (he:eA K E te fe):eA K E (Fs (Eb K) (lx te rF)) (vC fe):=by
 intro B σ H α Z ρ Q s sl w;refine he B σ H α Z ρ _ s sl (w.bind.imp fun x α1 Z1 H1 e1 s1 w1 u hu=> ?_);obtain⟨ps,q,w2⟩:=WS.M3 w1;obtain⟨ds,rfl,q⟩:=AI q;have w2:WS K E B H1 α1 Z1 (PQ B K Q) (.ok (.rf Z1.length) (Z1++[.Oe (gm [] ps)])):=w2;cases hu with
 |tup h hs=>obtain⟨kvs,k1,k2⟩:=wN (α:=α1) hs q;exact⟨_,_,kvs,rfl,h.1,k1,fun d hd=>mO s1 hd w2 fun e=>⟨_,aH,ui (Paired.Ph k2 fun _ _ r=>⟨r.1,r.2.Oy e⟩) .nil⟩⟩
end
end L10
namespace PySem
open PyProof.Rows
noncomputable def lj:Option Int->Int->Option Int
 |none,x=>some x
 |some m,x=>some (if x>m then x else m)
noncomputable def KG:Option (Int×Tok)->Array L5
 |none=> #[]
 |some (m,t)=> #[.int m t,.int m t]
noncomputable def G5 (d:L5):Option (Int×Tok)->L5
 |none=>d
 |some (m,t)=> .int m t
namespace F
theorem args_maxd (a b:L5):checkBuiltinCall "max" ⟨[a],[("default",b)]⟩=pure ():=by kernel_rfl
end F
section
variable {prog:My} {w:MS} {A:MO} {E:L5->Ma->Prop} {R:Ta->Ma->Prop} {I l S:L8} {vs:List L5} {d:L5}
theorem FD (hh:A.handled=none) (QR:l≠I) (Yu:S≠I) (hSl:S≠l) {s:Ma}:
  ∀{U3:List L5} {ns:List Int},IntsAre U3 ns->∀(i:Nat) (h:Heap) (tk:Nat) (b:Option (Int×Tok)) (c:Nat),vs=vs.take i++U3->i<=vs.length->h.IsListIter I l i->h.IsList l vs.toArray->h.get? S=some {cls:= .type "list",dict:=none,data:= .seq (KG b) c,slots:= #[]}->
  (∀h' tk b',b'.map (·.1)=ns.foldl lj (b.map (·.1))->(∀a o,a≠I->a≠S->h.get? a=some o->h'.get? a=some o)->R (.ok (.ret (G5 d b'))) {s with heap:=h',toks:=tk})->
  codeAny (model prog w) A (.builtin "max.loop" ⟨[.ref I,.none,.ref S],[("default",d)]⟩) R {s with heap:=h,toks:=tk}:=by
 have W:=YZ.list (prog:=prog) (w:=w) (A:=A.in1) hh I l QR vs.toArray;intro U3 ns hi
 induction hi with
 |nil=>
  intro i h tk b c hv hi it li hS hR;have e:i=vs.toArray.size:=by rw[ME] at hv;have:=congrArg QD hv;rw[Nl] at this;rw[Mo];omega
  refine OX F.entry_max_loop ?_;rw[MO.under_plainId F.plain_max_loop _];show wpAny _ A.in1 (seqItems? (.ref S)>>=_) _ _ _;refine L6 (NK hS rfl ?_);show wpAny _ A.in1 (tryCatch (pyNext (.ref I)) _>>=_) _ _ _;refine L6 (Ra (W.done _ _ _ (e▸⟨it,li⟩) fun h' UN hk=> ?_));have Vp:=hk S _ (by simpa using Yu) hS;cases b with
  |none=>show wpAny _ A.in1 (rule _>>=fun _=>ret d) _ _ _;refine L6 (RF (Mi ?_));exact hR h' UN none rfl fun a o h1 h2 e=>hk a o (by simpa using h1) e
  |some p=>obtain⟨m,t⟩:=p;show wpAny _ A.in1 (updateSeq S (fun _=> #[])>>=_) _ _ _;refine L6 (SQ Vp rfl (L6 (Py (Mi ?_))) (hz:=by show 2<=Mq;decide));exact hR _ UN (some (m,t)) rfl fun a o h1 h2 e=>(Heap.get?_update_other _ _ (Ne.symm h2)).trans (hk a o (by simpa using h1) e)
 | @cons n t X5 XF hr ih=>
  intro i h tk b c hv hi it li hS hR;have Pw:i<vs.toArray.size:=by have:=congrArg QD hv;rw[Mg,Nl,Mm] at this;rw[Mo];omega
  have hat:vs[i]? =some (.int n t):=by rw[hv,MP (by rw[Nl];omega),Nl,Nat.min_eq_left hi,Xn];rfl
  have ZF:vs=vs.take (i+1)++X5:=by rw[Ur,hat];show vs=vs.take i++[L5.int n t]++X5;rw[Ni];exact hv
  have S1:i+1<=vs.length:=by rw[Mo] at Pw;exact Pw
  refine OX F.entry_max_loop ?_;rw[MO.under_plainId F.plain_max_loop _];show wpAny _ A.in1 (seqItems? (.ref S)>>=_) _ _ _;refine L6 (NK hS rfl ?_);show wpAny _ A.in1 (tryCatch (pyNext (.ref I)) _>>=_) _ _ _;refine L6 (Ra (W.item i _ _ _ Pw ⟨it,li⟩ fun v h' UN hP st hk=> ?_));have ev:v= .int n t:=by have hP':vs.toArray[i]? =some v:=hP;rw[List.getElem?_toArray,hat] at hP';exact(Mw hP').symm
  subst ev;have Vp:=hk S _ (by simpa using Yu) hS;have SX:(toString "max"++toString ".loop":String)= "max.loop":=by decide
  cases b with
  |none=>
   show wpAny _ A.in1 (updateSeq S (fun _=> #[L5.int n t,L5.int n t])>>=_) _ _ _;refine L6 (SQ Vp rfl ?_);rw[SX];refine Mi ⟨OW F.plain_max_loop _,ih (i+1) _ UN (some (n,t)) _ ZF S1 (st.1.at fun o e=> ?_) (st.2.at fun o e=> ?_) (Heap.get?_update_self _ Vp rfl) fun h2 Wt b2 e2 k2=>hR h2 Wt b2 e2 fun a o h1 h3 e=>k2 a o h1 h3 ((Heap.get?_update_other _ _ (Ne.symm h3)).trans (hk a o (by simpa using h1) e))⟩
   ·exact(Heap.get?_update_other _ _ Yu).trans e
   ·exact(Heap.get?_update_other _ _ hSl).trans e
  |some p=>
   obtain⟨m,t0⟩:=p;show wpAny _ A.in1 (tryCatch (holding [L5.int n t,L5.int n t] (richCompare .Gt (L5.int n t) (L5.int m t0)>>=_)) _>>=_) _ _ _;have aaa:=CmpOf.ints_gt (prog:=prog) (w:=w) (A:=A.in1) (P:=fun(k:Nat) v=>(k=0/\v=L5.int n t)\/(k=1/\v=L5.int m t0)) (fun k=>if k=0 then n else m) fun k v hv=>by
    rcases hv with⟨rfl,rfl⟩|⟨rfl,rfl⟩
    ·exact⟨t,rfl⟩
    ·exact⟨t0,rfl⟩
   refine L6 (Ra (OU (L6 (aaa 0 1 _ _ _ _ _ (.inl ⟨rfl,rfl⟩) (.inr ⟨rfl,rfl⟩) ?_))));refine L6 (OU (Nj ?_));refine L6 (Py (Mi ?_));show wpAny _ A.in1 (if decide (n>m)=true then _ else _) _ _ _;by_cases hb:n>m
   ·rw[if_pos (decide_eq_true hb)]
    refine L6 (SQ Vp rfl (L6 (Py ?_)) (hz:=by show 2<=Mq;decide));rw[SX];refine Mi ⟨OW F.plain_max_loop _,ih (i+1) _ UN (some (n,t)) _ ZF S1 (st.1.at fun o e=> ?_) (st.2.at fun o e=> ?_) (Heap.get?_update_self _ Vp rfl) fun h2 Wt b2 e2 k2=>hR h2 Wt b2 ?_ fun a o h1 h3 e=>k2 a o h1 h3 ((Heap.get?_update_other _ _ (Ne.symm h3)).trans (hk a o (by simpa using h1) e))⟩
    ·exact(Heap.get?_update_other _ _ Yu).trans e
    ·exact(Heap.get?_update_other _ _ hSl).trans e
    ·rw[e2];show _=XF.foldl lj (some (if n>m then n else m));rw[if_pos hb];rfl
   ·rw[if_neg (by rw[decide_eq_false hb];exact Mx)];refine L6 (Py ?_);rw[SX];refine Mi ⟨OW F.plain_max_loop _,ih (i+1) _ UN (some (m,t0)) c ZF S1 st.1 st.2 Vp fun h2 Wt b2 e2 k2=>hR h2 Wt b2 ?_ fun a o h1 h3 e=>k2 a o h1 h3 (hk a o (by simpa using h1) e)⟩;rw[e2];show _=XF.foldl lj (some (if n>m then n else m));rw[if_neg hb];rfl
theorem zZ {s:Ma} {ns:List Int} {Q:L5->Ma->Prop} (hh:A.handled=none) (hl:s.heap.IsList l vs.toArray) (hi:IntsAre vs ns)
  (hQ:∀h' tk b,b.map (·.1)=ns.foldl lj none->(∀a o,s.heap.get? a=some o->h'.get? a=some o)->Q (G5 d b) {s with heap:=h',toks:=tk}):
  wpAny (model prog w) A (call (.builtin "max") [.ref l] [("default",d)]) Q E s:=by
 have Pw:l<s.heap.objs.size:=by obtain⟨_,e,_⟩:=hl;exact Heap.lt_size e
 have SX:(toString "max"++toString ".loop":String)= "max.loop":=by decide
 refine VX (U9 F.plain_max F.entry_max (SE (F.args_maxd _ _) ?_));show wpAny _ A.in1 (MU.Builtins.bindParams "max" ["key","default"] 0 ⟨[],[("default",d)]⟩>>=_) _ _ s;refine L6 (SE (show MU.Builtins.bindParams "max" ["key","default"] 0 ⟨[],[("default",d)]⟩=pure [none,some d] from rfl) ?_);refine L6 (Mi ?_);refine L6 (OV hl ?_);refine L6 (Nr ?_);rw[SX];have Zt:(s.heap.push {cls:= .type "list_iterator",data:= .fields #[.ref l,.int 0 0]}).objs.size=s.heap.objs.size+1:=Heap.size_push _ _;refine Mi ⟨OW F.plain_max_loop _,FD (vs:=vs) (S:=(s.heap.push {cls:= .type "list_iterator",data:= .fields #[.ref l,.int 0 0]}).objs.size) hh (MD Pw) (by rw[Zt];exact Nat.succ_ne_self _) (by rw[Zt];exact Ny (P6 Pw)) hi 0 _ s.toks none 0 rfl (MN _) ⟨_,Heap.get?_push_of_some _ (Heap.get?_push_size _ rfl),rfl,rfl⟩ ((hl.push _).push _) (Heap.get?_push_size _ rfl) fun h' tk b hb hk=> ?_⟩;refine hQ h' tk b hb fun a o e=> ?_;have la:=Heap.lt_size e;exact hk a o (MD la) (by rw[Zt];exact MD (P6 la)) (Heap.get?_push_of_some _ (Heap.get?_push_of_some _ e))
end
end PySem
namespace L10
open PySem PySem.Spec PyProof.Rows L2 L3
def GH (K:Bn) (i:Int):List V->Hp->VK->Prop:=fun xs H Q=>∃(p:L8) (ns:List Int),xs=[.ref p]/\PU K H p (ns.map V.int)/\Q (.int ((ns.foldl lj none).getD i)) H
theorem zE {X:Cx} {l:MR} {ta:TA} {i:Int} {p pos p1 p2:Pos} {j:Nat} (hc:X.calm=true) (hg:Gl X "max") (hm:X.mg "max"=none) (ha:PA X [l] ta) (hs:KL l=false:=by rfl):
  PE X (.Call (.Name "max" p) [l] [⟨some "default",.Constant (.int i) j p1,p2⟩] pos) (Fs (GH X.K i) ta):=by
 intro pins s σ H Q I h;refine OZ (on I hg hm Dr (callWith_kw (c8 (ha pos pins s σ H _ I h) fun us s1 ⟨vs,H1,I1,r1,q1⟩=> ?_) (by rw[sM _ _ _ hs];rfl) (by rw[sM _ _ _ hs];rfl) rfl rfl));obtain⟨a,ns,rfl,hq,q⟩:=q1;obtain⟨u,rfl,ru⟩:=iy r1;cases ru;obtain⟨MY,rv,pl,hz⟩:=I1.list hq;refine Yl (VT (Ym ?_));have I2:=I1.tok (s1.toks+1);refine zZ (s:={s1 with toks:=s1.toks+1}) (I1.ok.hd hc) pl.isList (jN rv) fun h' tk b hb hk=> ?_;refine⟨.int ((ns.foldl lj none).getD i),H1,I1.kept (t':=tk) hk,?_,q⟩;rw[<-hb];cases b with
 |none=>exact⟨_,rfl⟩
 |some p=>obtain⟨m,t⟩:=p;exact⟨t,rfl⟩
noncomputable def B4 (i:Int):List D->Option RV
 |[.list ds]=>(kA ds).map fun ns=> .fz (.int ((ns.foldl lj none).getD i))
 |_=>none
theorem yr {K:Bn} {i:Int}:yK K (GH K i) (B4 i):=by
 intro O H xs ds rv Q n hp e q;unfold B4 at e;split at e
 ·rename_i es
  cases hp with
  |cons h1 h2=>
   cases h2;cases qa:kA es with
   |none=>rw[qa] at e;cases e
   |some ns=>rw[qa] at e;cases e;obtain⟨a,vs,rfl,h3,h4⟩:=xk h1;obtain rfl:=mW h4 qa;exact⟨a,ns,rfl,h3.sq,q.at (.int _)⟩
 ·cases e
end L10
namespace L10
open PySem L2 L3
section
variable {B O O':ci} {K:Bn} {E:XK} {H H' H1 H2:Hp} {α α' α1 α2:List L8} {Z Z' Z1 Z2:bv} {σ:L2.St} {ρ:bS} {v:V}
theorem ia {A:Type} {l r:List A} {y:A} {i:Nat} (h:(l++r)[i]? =some y):l[i]? =some y\/∃j,i=l.length+j/\r[j]? =some y:=by
 by_cases hi:i<l.length
 ·rw[MM hi] at h;exact .inl h
 ·rw[MP (by omega)] at h;exact .inr ⟨i - l.length,by omega,h⟩
theorem ei {A:Type} {l r:List A} {y:A} {i:Nat} (h:l[i]? =some y):(l++r)[i]? =some y:=by rw[MM (Md.mp h).1];exact h
theorem BE {A:Type} {l r:List A} {y:A} {i:Nat} (h:r[i]? =some y):(l++r)[l.length+i]? =some y:=by rw[MP (by omega),Nat.add_sub_cancel_left];exact h
theorem Ch {ps:List L8} {cs:bv} (hl:α.length=Z.length) {b:L8} (h:Lv (α++ps) (Z++cs) b):Lv α Z b\/b∈ps:=by
 obtain⟨i,d,h1,h2,h3⟩:=h;rcases ia h1 with g1|⟨j,e1,g1⟩
 ·rcases ia h2 with g2|⟨k,e2,g2⟩
  ·exact .inl ⟨i,d,g1,g2,h3⟩
  ·have:=(Md.mp g1).1;omega
 ·exact .inr (Nb g1)
theorem NA.Sy {ps:List L8} {cs:bv} (s:MF B K H α Z) (e:Nt H H') (hp:∀p∈ps,H p=none):NA α Z H (α++ps) (Z++cs) H':=
 ⟨fun i a h=>ei h,fun b u q _=>e b u q,fun b z=>(Ch s.len z).imp id fun z=>hp b z⟩
theorem MF.Sy {ps:List L8} {cs:bv} (s:MF B K H α Z) (e:Nt H H') (hp:∀p∈ps,H p=none) (hq:∀p∈ps,H' p≠none) (nd:∀(i j:Nat) (a:L8),ps[i]? =some a->ps[j]? =some a->i=j) (hl:ps.length=cs.length)
  (new:∀(i:Nat) (a:L8) (c:Cell),ps[i]? =some a->cs[i]? =some c->Uk (ow B (α++ps) (Z++cs)) K H' (α++ps) a c):MF B K H' (α++ps) (Z++cs):=by
 have ev:NA α Z H (α++ps) (Z++cs) H':=NA.Sy s e hp;have n:∀b,H b≠none->H' b≠none:=fun b h z=>h (e.free z);refine⟨by rw[Mg,Mg,s.len,hl],fun i j a h1 h2=> ?_,fun a h=>n a (s.bn a h),fun a h i q=> ?_,fun i a h=> ?_,fun i a d h1 h2=> ?_⟩
 ·rcases ia h1 with g1|⟨i',e1,g1⟩<;>rcases ia h2 with g2|⟨j',e2,g2⟩
  ·exact s.nd i j a g1 g2
  ·exact absurd (hp a (Nb g2)) (s.al i a g1)
  ·exact absurd (hp a (Nb g1)) (s.al j a g2)
  ·have:=nd i' j' a g1 g2;omega
 ·rcases ia q with q|⟨j,_,q⟩
  ·exact s.ba a h i q
  ·exact s.bn a h (hp a (Nb q))
 ·rcases ia h with h|⟨j,_,h⟩
  ·exact n a (s.al i a h)
  ·exact hq a (Nb h)
 ·have hle:=s.len
  rcases ia h2 with g2|⟨j,e2,g2⟩
  ·rcases ia h1 with g1|⟨k,e1,g1⟩
   ·exact(s.R8 i a d g1 g2).ev ev.ev ev.pre fun o q=>e _ _ q
   ·have:=(Md.mp g2).1;omega
  ·rcases ia h1 with g1|⟨k,e1,g1⟩
   ·have:=(Md.mp g1).1;omega
   ·have:k=j:=by omega
    subst this;exact new k a d g1 g2
noncomputable def AZ (Z':bv):Nat->List AV->Option (List AV×List (List D)×List Nat)
 |_,[]=>some ([],[],[])
 |n,.fz d::r=>match AZ Z' n r with
  |some (l,cs,js)=>some (.fz d::l,cs,js)
  |none=>none
 |n,.rf i::r=>match sh Z' (.rf i) with
  |some (.list ds)=>(match AZ Z' (n+1) r with
   |some (l,cs,js)=>some (.rf n::l,ds::cs,i::js)
   |none=>none)
  |_=>none
noncomputable def K1 (ds:List D):Cell:= .lst (ds.map .fz)
noncomputable def pF (x:SV) (Z' Z:bv):RS SV:=match x with
 | .fz d=> .ok (.fz d) Z
 | .rf i=>(match sh Z' (.rf i) with
  |some (.list ds)=>kG Z (.ow ds)
  |_=> .bad)
 | .tp l=>(match AZ Z' Z.length l with
  |some (l',cs,js)=>if js.Nodup then .ok (.tp l') (Z++cs.map K1) else .bad
  |none=> .bad)
theorem uq {i:Nat} {ds:List D} (h:sh Z (.rf i)=some (.list ds)):∃xs,Z[i]? =some (.lst xs)/\aF tO xs=some ds:=by
 unfold sh at h;dsimp only at h;cases q:Z[i]? with
 |none=>rw[q] at h;cases h
 |some c=>
  rw[q] at h;cases c with
  |lst xs=>
   dsimp only at h;cases q2:aF tO xs with
   |none=>rw[q2] at h;cases h
   |some es=>rw[q2] at h;cases h;exact⟨xs,rfl,q2⟩
  |_=>cases h
theorem lZ (s:MF B K H α Z) {i:Nat} {ds:List D} (h:sh Z (.rf i)=some (.list ds)):∃a vs,α[i]? =some a/\H a=some (.lst vs)/\L3.Nz (ow B α Z) K H vs ds/\ow B α Z a:=by obtain⟨xs,q1,q2⟩:=uq h;obtain⟨a,ha⟩:=s.at q1;obtain⟨vs,h1,h2⟩:=s.R8 i a _ ha q1;exact⟨a,vs,ha,h1,ko (dF (R:=OG (ow B α Z) K H α) (S:=L3.DV (ow B α Z) K H) (fun v x y r e=>xx r e) h2 q2),.inr ⟨i,_,ha,q1,by intro z;cases z⟩⟩
theorem DA {B':ci} (s:MF B' K H' α' Z'):∀{n:Nat} {l l':List AV} {cs:List (List D)} {js:List Nat} {xs:List V},AZ Z' n l=some (l',cs,js)->Paired (TK (ow B' α' Z') K H' α') xs l->
  ∃ps:List L8,ps.length=js.length/\cs.length=js.length/\(∀(k j:Nat),js[k]? =some j->∃a ds vs,ps[k]? =some a/\cs[k]? =some ds/\α'[j]? =some a/\H' a=some (.lst vs)/\L3.Nz (ow B' α' Z') K H' vs ds/\ow B' α' Z' a)/\
   ∀(γ:List L8),γ.length=n->Paired (TK (ow B' α' Z') K H' (γ++ps)) xs l'
 |_,[],_,_,_,_,e,.nil=>by cases e;exact⟨[],rfl,rfl,fun k j h=>by simp at h,fun γ _=> .nil⟩
 |n,.fz d::r,l',cs,js,_,e,.cons h t=>by
  unfold AZ at e;cases q:AZ Z' n r with
  |none=>rw[q] at e;cases e
  |some p=>obtain⟨l1,cs1,js1⟩:=p;rw[q] at e;cases e;obtain⟨ps,h1,h2,h3,h4⟩:=DA s q t;exact⟨ps,h1,h2,h3,fun γ hγ=> .cons h (h4 γ hγ)⟩
 |n,.rf i::r,l',cs,js,_,e,.cons h t=>by
  unfold AZ at e;cases qs:sh Z' (.rf i) with
  |none=>rw[qs] at e;cases e
  |some d=>
   rw[qs] at e;cases d with
   |list ds=>
    dsimp only at e;cases q:AZ Z' (n+1) r with
    |none=>rw[q] at e;cases e
    |some p=>
     obtain⟨l1,cs1,js1⟩:=p;rw[q] at e;cases e;obtain⟨ps,h1,h2,h3,h4⟩:=DA s q t;obtain⟨a,vs,ha,hv,hd,ho⟩:=lZ s qs;refine⟨a::ps,by rw[Mm,Mm,h1],by rw[Mm,Mm,h2],fun k j hk=> ?_,fun γ hγ=> ?_⟩
     ·cases k with
      |zero=>cases hk;exact⟨a,ds,vs,rfl,rfl,ha,hv,hd,ho⟩
      |succ k=>exact h3 k j (by simpa using hk)
     ·have e2:γ++a::ps=(γ++[a])++ps:=by simp
      obtain⟨a',UW,rfl⟩:=h;rw[ha] at UW;cases UW;refine .cons ⟨a,by rw[<-hγ];exact BE (l:=γ) (r:=a::ps) (i:=0) rfl,rfl⟩ ?_;rw[e2];exact h4 (γ++[a]) (by rw[Mg,hγ];rfl)
   |_=>cases e
theorem Am {Q:VK} {x:SV} (s:MF B K H α Z) (w:WS K E B H α Z (PQ B K Q) (pF x Z' Z)) (e':NA [] [] H α' Z' H') (s':MF (ow B α Z) K H' α' Z') (hv:OG (ow (ow B α Z) α' Z') K H' α' v x):Q v H':=by
 have sm:Nt H H':=fun b o h=>e'.kp b o h fun⟨i,c,q,_⟩=>by simp at q
 have sub:∀b,ow B α Z b->ow (ow B α Z) α' Z' b:=fun b z=> .inl z;have fr:∀(i:Nat) (a:L8) (c:Cell),α'[i]? =some a->Z'[i]? =some c->c≠ .dead->H a=none:=fun i a c h1 h2 h3=>(e'.lv a ⟨i,c,h1,h2,h3⟩).elim (fun⟨i,c,q,_⟩=>by simp at q) id;cases x with
 |fz d=>exact w α H' (NA.same sm) (s.grow sm) v (DV.ev (Ev.sub sub) hv)
 |rf i=>
  unfold pF at w;dsimp only at w;cases qs:sh Z' (.rf i) with
  |none=>rw[qs] at w;exact w.elim
  |some d=>
   rw[qs] at w;cases d with
   |list ds=>obtain⟨a,vs,ha,h1,hd,ho⟩:=lZ s' qs;obtain⟨xs,q1,_⟩:=uq qs;obtain⟨a',UW,rfl⟩:=hv;rw[ha] at UW;cases UW;exact rT s w sm (fr i a _ ha q1 (by intro z;cases z)) h1 hd sub ho
   |_=>exact w.elim
 |tp l=>
  unfold pF at w;dsimp only at w;cases qg:AZ Z' Z.length l with
  |none=>rw[qg] at w;exact w.elim
  |some p=>
   obtain⟨l',cs,js⟩:=p;rw[qg] at w;dsimp only at w;by_cases hn:js.Nodup
   ·rw[if_pos hn] at w
    obtain⟨a,xs,rfl,ht,hl⟩:=hv;obtain⟨ps,g1,g2,g3,g4⟩:=DA s' qg hl;have pj:∀(k:Nat) (b:L8),ps[k]? =some b->∃j ds vs,js[k]? =some j/\cs[k]? =some ds/\α'[j]? =some b/\H' b=some (.lst vs)/\L3.Nz (ow (ow B α Z) α' Z') K H' vs ds/\ow (ow B α Z) α' Z' b:=fun k b hb=>by
     have hk:k<js.length:=by rw[<-g1];exact(Md.mp hb).1
     obtain⟨b',ds,vs,q1,q2,q3,q4,q5,q6⟩:=g3 k _ (Mf hk);rw[hb] at q1;cases q1;exact⟨_,ds,vs,Mf hk,q2,q3,q4,q5,q6⟩
    have nB:∀(j:Nat) (b:L8),α'[j]? =some b->ow (ow B α Z) α' Z' b->H b=none:=fun j b hj ho=>by
     rcases ho with z|⟨i,c,z1,z2,z3⟩
     ·exact absurd hj (s'.ba b z j)
     ·exact fr i b c z1 z2 z3
    have fp:∀p∈ps,H p=none:=fun p hp=>by obtain⟨k,hk⟩:=Pf.mp hp;obtain⟨j,ds,vs,q1,q2,q3,q4,q5,q6⟩:=pj k p hk;exact nB j p q3 q6
    have WH:∀b,ow B (α++ps) (Z++cs.map K1) b->ow (ow B α Z) α' Z' b:=fun b z=>by
     rcases z with z|z
     ·exact .inl (.inl z)
     ·rcases Ch s.len z with z|z
      ·exact .inl (.inr z)
      ·obtain⟨k,hk⟩:=Pf.mp z;obtain⟨j,ds,vs,q1,q2,q3,q4,q5,q6⟩:=pj k b hk;exact q6
    have ev:=NA.Sy (cs:=cs.map K1) s sm fp;refine w (α++ps) H' ev (s.Sy sm fp (fun p hp=> ?_) (fun i j b hi hj=> ?_) (by rw[L7,g1,g2]) fun i b c hi hc=> ?_) (.ref a) ⟨a,xs,rfl,ht.ev (Ev.sub WH),Paired.Ph (g4 α s.len) fun _ _ r=>r.ev (Ev.sub WH) fun _ _ h=>h⟩
    ·obtain⟨k,hk⟩:=Pf.mp hp;obtain⟨j,ds,vs,q1,q2,q3,q4,q5,q6⟩:=pj k p hk;rw[q4];simp
    ·obtain⟨j1,_,_,p1,_,p3,_⟩:=pj i b hi;obtain⟨j2,_,_,r1,_,r3,_⟩:=pj j b hj;have:=s'.nd j1 j2 b p3 r3;subst this;have ZZ:i<js.length:=(Md.mp p1).1;exact(List.getElem?_inj ZZ hn).mp (p1.trans r1.symm)
    ·obtain⟨j,ds,vs,q1,q2,q3,q4,q5,q6⟩:=pj i b hi;rw[Ml,q2] at hc;cases hc;exact⟨vs,q4,nQ _ _ (q5.ev (Ev.sub WH))⟩
   ·rw[if_neg hn] at w;exact w.elim
noncomputable def sZ (F:g9) (n:Nat) (xs:List SV) (Z:bv):RS SV:=if xs.length=n then(match aF tO xs with
 |some ds=>(match F (ds.map .fz) [] with
  | .ok x Z'=>pF x Z' Z
  | .er x _=> .er x Z
  | .bad=> .bad)
 |none=> .bad) else .bad
noncomputable def wP (F:g9) (n:Nat) (fa:lB):bK:=fun ρ Z=>(fa ρ Z).bind fun xs Z1=>jY (sZ F n xs Z1)
theorem Ba {B:ci} (h:∀a,B a->H a≠none):MF B K H [] []:=⟨rfl,fun i j a h=>by simp at h,h,fun a h i=>by simp,fun i a h=>by simp at h,fun i a c h=>by simp at h⟩
theorem tT:∀{xs:List SV} {ds:List D},aF tO xs=some ds->xs=ds.map .fz
 |[],_,e=>by cases e;rfl
 |x::r,ds,e=>by
  unfold aF at e;cases x with
  |fz d=>
   dsimp only[tO] at e;cases q:aF tO r with
   |none=>rw[q] at e;cases e
   |some es=>rw[q] at e;cases e;rw[Ms,<-tT q]
  |rf i=>cases e
  |tp l=>cases e
theorem A4 {F:g9} {n:Nat} {xs:List SV} {vs:List V} {Q:VK} (s:MF B K H α Z) (hv:Ov (ow B α Z) K H α vs xs) (w:WS K E B H α Z (PQ B K Q) (sZ F n xs Z)):fR K n F vs H Q E:=by
 unfold sZ at w;by_cases hn:xs.length=n
 ·rw[if_pos hn] at w
  refine⟨hv.length.trans hn,?_⟩;cases q:aF tO xs with
  |none=>rw[q] at w;exact w.elim
  |some ds=>
   rw[q] at w;dsimp only at w;have ex:=tT q;refine⟨ow B α Z,[],[],ds.map .fz,Ba s.owd,?_,?_⟩
   ·rw[ex] at hv;exact nQ _ _ ((xj hv).ev (Ev.sub fun b z=>z.elim id fun⟨i,c,q,_⟩=>by simp at q))
   ·cases qF:F (ds.map .fz) [] with
    |bad=>rw[qF] at w;exact w.elim
    |ok x Z'=>rw[qF] at w;exact fun α' H' e' s' v XJ=>Am s w e' s' XJ
    |er x Z'=>
     rw[qF] at w;intro c dx α' H' e' s' k;have sm:Nt H H':=fun b o h=>e'.kp b o h fun⟨i,c,q,_⟩=>by simp at q
     exact w c dx α H' (NA.same sm) (s.grow sm) (Wg.sub (fun b z=> .inl z) k)
 ·rw[if_neg hn] at w;exact w.elim
theorem Aw {F:g9} {n:Nat} {ta:TA} {fa:lB} (ha:AX K E ta fa):eA K E (sG (fR K n F) [] E0 ta) (wP F n fa):=by intro B σ H α Z ρ Q s sl w;refine ha B σ H α Z ρ _ s sl (w.bind.imp fun xs α1 Z1 H1 e1 s1 w1 vs hv=> ?_);rw[ME];exact A4 s1 hv (WS.e0 w1)
noncomputable def Kb (F:g9):FN:=fun ds=>match F (ds.map .fz) [] with
 | .ok (.fz d) _=> .ok (.fz d)
 | .ok (.rf i) Z=>(match sh Z (.rf i) with
  |some (.list ds)=> .ok (.ow ds)
  |_=> .bad)
 | .ok (.tp _) _=> .bad
 | .er x _=> .er x
 | .bad=> .bad
theorem HV {F:g9} {n:Nat} {vs:List V} {Q:VK} (h:ou K n (Kb F) vs H Q E):fR K n F vs H Q E:=by
 obtain⟨hl,B,ds,hb,dv,w⟩:=h;refine⟨hl,B,[],[],ds.map .fz,Ba hb,nQ _ _ (dv.ev (Ev.sub fun b z=>z.elim id fun⟨i,c,q,_⟩=>by simp at q)),?_⟩;unfold Kb at w;cases qF:F (ds.map .fz) [] with
 |bad=>rw[qF] at w;exact w.elim
 |er x Z'=>rw[qF] at w;intro c dx α' H' e' s' k;exact w c dx H' (fun b o h=>e'.kp b o h fun⟨i,c,q,_⟩=>by simp at q) (Wg.sub (fun b z=> .inl z) k)
 |ok x Z'=>
  rw[qF] at w;intro α' H' e' s' v hv;have sm:Nt H H':=fun b o h=>e'.kp b o h fun⟨i,c,q,_⟩=>by simp at q
  cases x with
  |fz d=>exact w v H' sm (DV.ev (Ev.sub fun b z=> .inl z) hv)
  |tp l=>exact w.elim
  |rf i=>
   dsimp only at w;cases qs:sh Z' (.rf i) with
   |none=>rw[qs] at w;exact w.elim
   |some d=>
    rw[qs] at w;cases d with
    |list es=>obtain⟨a,us,ha,h1,hd,ho⟩:=lZ s' qs;obtain⟨xs,q1,_⟩:=uq qs;obtain⟨a',UW,rfl⟩:=hv;rw[ha] at UW;cases UW;refine w a us H' sm ((e'.lv a ⟨i,_,ha,q1,by intro z;cases z⟩).elim (fun⟨i,c,q,_⟩=>by simp at q) id) h1 (hd.ev (Ev.sub fun b z=>z.elim (fun z=> .inl z) fun z=>by rw[z];exact ho))
    |_=>exact w.elim
end
def cL (P:My) (w:MS) (K:Bn) (mg:Str->Option L5) (base:Heap) (CX:xp) (k:Nat) (C m:Str) (ps:List Str) (sp:Sp):Prop:=
 ∃Ca f fd,MG K Mv C=some (some (.ref Ca))/\T2 K Ca/\Meth K Ca m f/\FnOk P w K mg base CX k f fd ps sp/\Binds K fd ps []
def DY (P:My) (w:MS) (K:Bn) (mg:Str->Option L5) (base:Heap) (CX:xp) (k:Nat) (C:Str) (ps:List Str) (sp:Sp):Prop:=
 ∃Ca f fd,MG K Mv C=some (some (.ref Ca))/\mg C=some (.ref Ca)/\Mk K Ca f/\FnOk P w K mg base CX k f fd ps sp/\Binds K fd ps []
def yg (K:Bn) (C m:Str) (sp:Sp) (E:XK) (ta:TE) (t:TA):TE:=fun σ H Q=>∃Ca,MG K Mv C=some (some (.ref Ca))/\zM Ca m sp [] E ta t σ H Q
def Dg (K:Bn) (C:Str) (sp:Sp) (E:XK) (t:TA):TE:=fun σ H Q=>∃Ca,MG K Mv C=some (some (.ref Ca))/\Df Ca sp [] E t σ H Q
section
variable {X:Cx} {CX:xp} {E:XK} {k j:Nat} {C m:Str} {ps:List Str} {sp:Sp} {o e:MR} {es:List MR} {ta:TE} {t:TA} {apos pos p:Pos}
theorem Ko {pl:Sem Bool} (M:cL X.prog X.w X.K X.mg X.base CX k C m ps sp) (hx:jd CX X E) (hr:Og j X.A) (he:PE X o ta) (ha:PA X (e::es) t) (V3:k<=j:=by decide)
  (eC:ML (e::es) X.env=(false,eval e X.env)::ML es X.env:=by rfl) (SJ:(backTo pos (ML es X.env)).any (·.1)=false:=by rfl)
  (ht:eval (.Call (.Attribute o m apos) (e::es) [] pos) X.env=(do
   let ov<-eval o X.env
   standAt apos.atName
   let(f,first)<-holding [ov] (getMethod ov m pl)
   callWith pos f first (backTo pos (ML (e::es) X.env)) (backToKw pos (keywordEach [] X.env))):=by rfl):PE X (.Call (.Attribute o m apos) (e::es) [] pos) (yg X.K C m sp E ta t):=by
 obtain⟨Ca,f,fd,h1,h2,h3,h4,h5⟩:=M;intro pins s σ H Q I ⟨Cb,g1,h⟩;rw[h1] at g1;cases g1;exact EH he h2 h3 h4 (hr.mono V3) h5 .nil hx ha eC SJ ht pins s σ H Q I h
theorem Be {pl:Sem Bool} (M:cL X.prog X.w X.K X.mg X.base CX k C m ps sp) (hx:jd CX X E) (hr:Og j X.A) (he:PE X o ta) (V3:k<=j:=by decide)
  (ht:eval (.Call (.Attribute o m apos) [] [] pos) X.env=(do
   let ov<-eval o X.env
   standAt apos.atName
   let(f,first)<-holding [ov] (getMethod ov m pl)
   callWith pos f first (backTo pos (ML [] X.env)) (backToKw pos (keywordEach [] X.env))):=by rfl):PE X (.Call (.Attribute o m apos) [] [] pos) (yg X.K C m sp E ta rF):=by
 obtain⟨Ca,f,fd,h1,h2,h3,h4,h5⟩:=M;intro pins s σ H Q I ⟨Cb,g1,h⟩;rw[h1] at g1;cases g1;exact Cf he h2 h3 h4 (hr.mono V3) h5 .nil hx ht pins s σ H Q I h
theorem Ka (M:DY X.prog X.w X.K X.mg X.base CX k C ps sp) (hx:jd CX X E) (hr:Og j X.A) (ha:PA X (e::es) t) (V3:k+1<=j:=by decide) (hg:Gl X C:=by rfl)
  (Uv:(C==("__debug__":Str))=false:=by decide) (he:ML (e::es) X.env=(false,eval e X.env)::ML es X.env:=by rfl) (SJ:(backTo pos (ML es X.env)).any (·.1)=false:=by rfl):
  PE X (.Call (.Name C p) (e::es) [] pos) (Dg X.K C sp E t):=by
 obtain⟨Ca,f,fd,h1,h2,h3,h4,h5⟩:=M;intro pins s σ H Q I ⟨Cb,g1,h⟩;rw[h1] at g1;cases g1;exact FY h3 h4 (hr.mono V3) hg h2 h5 .nil hx ha Uv he SJ pins s σ H Q I h
end
section
variable {K:Bn} {E:XK} {C m:Str} {F:g9} {n:Nat} {to:TE} {ta:TA} {fo:bK} {fa:lB} {L:List Str}
theorem yV (hc:jh K C L) (ho:eA K E to fo) (ha:AX K E ta fa):eA K E (yg K C m (fR K n F) E0 to ta) (bc C m F n fo fa):=by obtain⟨Ca,hc,_⟩:=hc;exact fun B σ H α Z ρ Q s sl w=>⟨Ca,hc,Ak hc ho ha B σ H α Z ρ Q s sl w⟩
theorem Fc (hc:jh K C L) (ha:AX K E ta fa):eA K E (Dg K C (fR K n F) E0 ta) (tj C F n fa):=by obtain⟨Ca,hc,_⟩:=hc;exact fun B σ H α Z ρ Q s sl w=>⟨Ca,hc,Dz hc ha B σ H α Z ρ Q s sl w⟩
end
section
variable {ρ ρ1 ρ2:bS} {Z Z1 Z2 Z3 Z4:bv} {x y z:SV} {i n:Nat} {d dx dy:D} {ds:List D} {b:Bool}
theorem bj (h:ρ[i]? =some (some x)):aq i ρ Z= .ok x Z:=by unfold aq;rw[h]
theorem ag {f:FE} {ρ':aK} (h:f (b6 ρ)= .ok (.fz d,ρ')):af f ρ Z= .ok (.fz d) Z:=by unfold af;rw[h]
theorem fm {f:FE} {ρ':aK} (h:f (b6 ρ)= .ok (.ow ds,ρ')):af f ρ Z= .ok (.rf Z.length) (Z++[.lst (ds.map .fz)]):=by unfold af;rw[h];rfl
theorem aQ {f:FT} {ρ':aK} (h:f (b6 ρ)= .ok (b,ρ')):aM f ρ Z= .ok b Z:=by unfold aM;rw[h]
theorem qY {f:FI} {ρ':aK} (h:f (b6 ρ)= .ok (ds,ρ')):oC f ρ Z= .ok ds Z:=by unfold oC;rw[h]
theorem rE {C f:Str} {e:bK} {fs:List (Str×SV)} (he:e ρ Z= .ok (.rf i) Z1) (hc:Z1[i]? =some (.obj C fs)) (hf:fs.lookup f=some x):cx C f e ρ Z= .ok x Z1:=by unfold cx;rw[he,RS.bind_ok];dsimp only;rw[hc];dsimp only;rw[if_pos rfl,hf];rfl
theorem cg {f:D->D->Option RV} {fa fb:bK} (ha:fa ρ Z= .ok x Z1) (hb:fb ρ Z1= .ok y Z2) (hf:lQ f x y Z2= .ok z Z3):iA f fa fb ρ Z= .ok z Z3:=by unfold iA;rw[ha,RS.bind_ok,hb,RS.bind_ok,hf]
theorem bG {f:D->D->Option RV} (h:f dx dy=some (.fz d)):lQ f (.fz dx) (.fz dy) Z= .ok (.fz d) Z:=by unfold lQ;show((RS.M3 Z (f dx dy)).bind fun rv Z1=>kG Z1 rv)=_;rw[h];rfl
theorem re {f:D->D->Option RV} (hx:sh Z x=some dx) (hy:sh Z y=some dy) (h:f dx dy=some (.fz d)):lQ f x y Z= .ok (.fz d) Z:=by unfold lQ;rw[hx,hy];show((RS.M3 Z (f dx dy)).bind fun rv Z1=>kG Z1 rv)=_;rw[h];rfl
theorem Hu {f:D->D->Option RV} (hs:sh Z x=none\/sh Z y=none) (hx:nr 6 Z x=some dx) (hy:nr 6 Z y=some dy) (h:f dx dy=some (.fz d)) (hd:wA d=true):lQ f x y Z= .ok (.fz d) Z:=by
 have e:((RS.M3 Z (nr 6 Z x)).bind fun dx Z1=>(RS.M3 Z1 (nr 6 Z1 y)).bind fun dy Z2=>(RS.M3 Z2 (f dx dy)).bind fun rv Z3=>lz Z3 rv)= .ok (.fz d) Z:=by rw[hx];show((RS.M3 Z (nr 6 Z y)).bind fun dy Z2=>(RS.M3 Z2 (f dx dy)).bind fun rv Z3=>lz Z3 rv)=_;rw[hy];show((RS.M3 Z (f dx dy)).bind fun rv Z3=>lz Z3 rv)=_;rw[h];show(if wA d=true then RS.ok (SV.fz d) Z else RS.bad)=_;rw[if_pos hd]
 unfold lQ;rcases hs with hs|hs
 ·rw[hs];exact e
 ·rw[hs];cases sh Z x<;>exact e
theorem kT:∀ds:List D,aF tO (ds.map .fz)=some ds
 |[]=>rfl
 |d::r=>by rw[Ms];unfold aF;rw[kT r];rfl
theorem gq (h:Z[i]? =some (.lst (ds.map .fz))):sh Z (.rf i)=some (.list ds):=by unfold sh;dsimp only;rw[h];dsimp only;rw[kT];rfl
theorem aE {fa:bK} (h:fa ρ Z= .ok (.fz (.bool b)) Z1):aY fa ρ Z= .ok b Z1:=by unfold aY;rw[h];rfl
theorem c7 {fa fb:jf} {r:RS Bool} (h:fa ρ Z= .ok true Z1) (k:fb ρ Z1=r):g6 fa fb ρ Z=r:=by unfold g6;rw[h,RS.bind_ok,if_pos rfl,k]
theorem cD {fa fb:jf} (h:fa ρ Z= .ok false Z1):g6 fa fb ρ Z= .ok false Z1:=by unfold g6;rw[h,RS.bind_ok,if_neg Mx]
theorem kj {fa fb:jf} (h:fa ρ Z= .ok true Z1):wX fa fb ρ Z= .ok true Z1:=by unfold wX;rw[h,RS.bind_ok,if_pos rfl]
theorem dU {fa fb:jf} {r:RS Bool} (h:fa ρ Z= .ok false Z1) (k:fb ρ Z1=r):wX fa fb ρ Z=r:=by unfold wX;rw[h,RS.bind_ok,if_neg Mx,k]
theorem kP {fa:jf} (h:fa ρ Z= .ok b Z1):oQ fa ρ Z= .ok (!b) Z1:=by unfold oQ;rw[h];rfl
theorem sQ {fa fb:bK} {r:RS SV} (h:aY fa ρ Z= .ok true Z1) (k:fb ρ Z1=r):xW fa fb ρ Z=r:=by unfold xW;rw[h,RS.bind_ok,if_pos rfl,k]
theorem tE {fa fb:bK} (h:aY fa ρ Z= .ok false Z1):xW fa fb ρ Z= .ok (.fz (.bool false)) Z1:=by unfold xW;rw[h,RS.bind_ok,if_neg Mx]
theorem Fk {c:jf} {fa fb:bK} {r:RS SV} (h:c ρ Z= .ok true Z1) (k:fa ρ Z1=r):HN c fa fb ρ Z=r:=by unfold HN;rw[h,RS.bind_ok,if_pos rfl,k]
theorem EY {c:jf} {fa fb:bK} {r:RS SV} (h:c ρ Z= .ok false Z1) (k:fb ρ Z1=r):HN c fa fb ρ Z=r:=by unfold HN;rw[h,RS.bind_ok,if_neg Mx,k]
theorem aC:aJ ρ Z= .ok [] Z:=rfl
theorem ai {fa:bK} {fr:lB} {xs:List SV} (ha:fa ρ Z= .ok x Z1) (hr:fr ρ Z1= .ok xs Z2):am fa fr ρ Z= .ok (x::xs) Z2:=by unfold am;rw[ha,RS.bind_ok,hr,RS.bind_ok]
theorem nJ {fa:lB} (ha:fa ρ Z= .ok (ds.map .fz) Z1) (hl:ds.length<=1000):jZ fa ρ Z= .ok (.fz (.tuple ds)) Z1:=by unfold jZ;rw[ha,RS.bind_ok,L7,if_pos hl];unfold KR;rw[kT];rfl
theorem G9 {fa:lB} {xs:List SV} {l:List AV} (ha:fa ρ Z= .ok xs Z1) (hl:xs.length<=1000) (h1:aF tO xs=none) (h2:aF K3 xs=some l):jZ fa ρ Z= .ok (.tp l) Z1:=by unfold jZ;rw[ha,RS.bind_ok,if_pos hl];unfold KR;rw[h1];dsimp only;rw[h2];rfl
theorem Bh {f:List D->Option RV} {fa:lB} {xs:List SV} (ha:fa ρ Z= .ok xs Z1) (hs:aF (sh Z1) xs=some ds) (h:f ds=some (.fz d)):Bu f fa ρ Z= .ok (.fz d) Z1:=by unfold Bu;rw[ha,RS.bind_ok];unfold EB;rw[hs];show((RS.M3 Z1 (f ds)).bind fun rv Z1=>kG Z1 rv)=_;rw[h];rfl
theorem tS {F:FN} {fa:lB} (ha:fa ρ Z= .ok (ds.map .fz) Z1) (hn:ds.length=n) (hF:F ds= .ok (.fz d)):i8 F n fa ρ Z= .ok (.fz d) Z1:=by unfold i8;rw[ha,RS.bind_ok];unfold wl;rw[L7,if_pos hn,kT];dsimp only;rw[hF];rfl
theorem tZ {F:FN} {fa:lB} {es:List D} (ha:fa ρ Z= .ok (ds.map .fz) Z1) (hn:ds.length=n) (hF:F ds= .ok (.ow es)):i8 F n fa ρ Z= .ok (.rf Z1.length) (Z1++[.lst (es.map .fz)]):=by unfold i8;rw[ha,RS.bind_ok];unfold wl;rw[L7,if_pos hn,kT];dsimp only;rw[hF];rfl
theorem pT {A:Type} {a:A}:jY (RS.ok a Z)= .ok a Z:=rfl
theorem Fj {C m:Str} {F:g9} {fo:bK} {fa:lB} {fs:List (Str×SV)} {xs:List SV} (ho:fo ρ Z= .ok (.rf i) Z1) (hc:Z1[i]? =some (.obj C fs)) (hm:fs.lookup m=none) (ha:fa ρ Z1= .ok xs Z2) (hn:(SV.rf i::xs).length=n) (hF:F (.rf i::xs) Z2= .ok x Z3):bc C m F n fo fa ρ Z= .ok x Z3:=by
 have W0:sK Z1 C m (.rf i)=true:=by unfold sK;dsimp only;rw[hc];dsimp only;rw[hm,decide_eq_true rfl];rfl
 unfold bc;rw[ho,RS.bind_ok,if_pos W0,ha,RS.bind_ok,if_pos hn,hF];rfl
theorem Hl {C:Str} {F:g9} {fa:lB} {xs:List SV} (ha:fa ρ Z= .ok xs Z1) (hn:(SV.rf Z1.length::xs).length=n) (hF:F (.rf Z1.length::xs) (Z1++[.obj C []])= .ok (.fz .none) Z2):tj C F n fa ρ Z= .ok (.rf Z1.length) Z2:=by unfold tj;rw[ha,RS.bind_ok];unfold yO;rw[if_pos hn,hF,RS.bind_ok,if_pos (show Bg (.fz .none)=true from rfl)];rfl
theorem cW {fa fb:bK} (ha:fa ρ Z= .ok (.fz dx) Z1) (hb:fb ρ Z1= .ok (.fz dy) Z2) (h:aG dx dy=some (.fz d)):jk fa fb ρ Z= .ok (.fz d) Z2:=by unfold jk;rw[ha,RS.bind_ok,hb,RS.bind_ok];exact bG h
theorem uu {fo fe:bK} {xs ys:List SV} (ho:fo ρ Z= .ok (.rf i) Z1) (h1:Z1[i]? =some (.lst xs)) (he:fe ρ Z1= .ok x Z2) (h2:Z2[i]? =some (.lst ys)) (hl:ys.length<1000000):rV fo fe ρ Z= .ok (.fz .none) (Z2.set i (.lst (ys++[x]))):=by
 have e1:ku Z1 (.rf i)=some (i,xs):=by unfold ku;dsimp only;rw[h1]
 have e2:ku Z2 (.rf i)=some (i,ys):=by unfold ku;dsimp only;rw[h2]
 unfold rV;rw[ho,RS.bind_ok,e1];show((fe ρ Z1).bind _)=_;rw[he,RS.bind_ok,e2];show(if ys.length<1000000 then _ else _)=_;rw[if_pos hl]
theorem kI {kvs:List (bt×SV)} (h:Z[i]? =some (.Oe kvs)):hG Z (.rf i)=some (i,kvs):=by unfold hG;dsimp only;rw[h]
theorem rm {neg:Bool} {fk fd:bK} {k:bt} {kvs:List (bt×SV)} (hk:fk ρ Z= .ok x Z1) (hd:fd ρ Z1= .ok (.rf i) Z2) (h1:oO x=some k) (h2:Z2[i]? =some (.Oe kvs)):oW neg fk fd ρ Z= .ok (.fz (.bool ((e9 kvs k).isSome !=neg))) Z2:=by unfold oW;rw[hk,RS.bind_ok,hd,RS.bind_ok,h1];show((RS.M3 Z2 (hG Z2 (.rf i))).bind _)=_;rw[kI h2];rfl
theorem kY {fd fk:bK} {k:bt} {kvs:List (bt×SV)} (hd:fd ρ Z= .ok (.rf i) Z1) (hk:fk ρ Z1= .ok x Z2) (h1:oO x=some k) (h2:Z2[i]? =some (.Oe kvs)) (h3:e9 kvs k=some y):bu fd fk ρ Z= .ok y Z2:=by unfold bu;rw[hd,RS.bind_ok,hk,RS.bind_ok,h1];show((RS.M3 Z2 (hG Z2 (.rf i))).bind _)=_;rw[kI h2];show RS.M3 Z2 (e9 kvs k)=_;rw[h3];rfl
theorem ng {fd fk fv:bK} {k:bt} {kvs:List (bt×SV)} (hv:fv ρ Z= .ok y Z1) (hd:fd ρ Z1= .ok (.rf i) Z2) (hk:fk ρ Z2= .ok x Z3) (h1:oO x=some k) (h2:Z3[i]? =some (.Oe kvs)) (hl:kvs.length<1000000):eS fd fk fv ρ Z= .ok (.nx ρ) (Z3.set i (.Oe (cZ kvs k y))):=by unfold eS;rw[hv,RS.bind_ok,hd,RS.bind_ok,hk,RS.bind_ok,h1];show((RS.M3 Z3 (hG Z3 (.rf i))).bind _)=_;rw[kI h2];show(if kvs.length<1000000 then _ else _)=_;rw[if_pos hl]
theorem yj {fd fk:bK} {k:bt} {XQ kvs:List (bt×SV)} (hd:fd ρ Z= .ok (.rf i) Z1) (h0:Z1[i]? =some (.Oe XQ)) (hk:fk ρ Z1= .ok x Z2) (h1:oO x=some k) (h2:Z2[i]? =some (.Oe kvs)) (h3:e9 kvs k=some y):sS fd fk ρ Z= .ok y (Z2.set i (.Oe (ja kvs k))):=by unfold sS;rw[hd,RS.bind_ok,kI h0];show((fk ρ Z1).bind _)=_;rw[hk,RS.bind_ok,h1];show((RS.M3 Z2 (hG Z2 (.rf i))).bind _)=_;rw[kI h2];show((RS.M3 Z2 (e9 kvs k)).bind _)=_;rw[h3];rfl
theorem yR {fd:bK} {kvs:List (bt×SV)} (hd:fd ρ Z= .ok (.rf i) Z1) (h:Z1[i]? =some (.Oe kvs)):mK fd ρ Z= .ok (.rf Z1.length) (Z1++[.lst (kvs.map (·.2))]):=by unfold mK;rw[hd,RS.bind_ok,kI h];rfl
theorem yY {fd:bK} {kvs:List (bt×SV)} {ns:List Int} (hd:fd ρ Z= .ok (.rf i) Z1) (h:Z1[i]? =some (.Oe kvs)) (hk:aF xy (kvs.map (·.1))=some ns) (hl:ns.length<64):mP fd ρ Z= .ok (.rf Z1.length) (Z1++[.lst ((iZ ns).map fun i=>SV.fz (.int i))]):=by unfold mP;rw[hd,RS.bind_ok,kI h];show((RS.M3 Z1 (aF xy (kvs.map (·.1)))).bind _)=_;rw[hk];show(if ns.length<64 then _ else _)=_;rw[if_pos hl]
theorem Gq {fe:bK} {ps:List (bt×SV)} (he:fe ρ Z= .ok x Z1) (h:tR x=some ps):vC fe ρ Z= .ok (.rf Z1.length) (Z1++[.Oe (gm [] ps)]):=by unfold vC;rw[he,RS.bind_ok,h];rfl
variable {fl:VO} {r:RS VO}
theorem gp {f g:eV} (h:f ρ Z= .ok (.nx ρ1) Z1) (k:g ρ1 Z1=r):aL f g ρ Z=r:=by unfold aL;rw[h,RS.bind_ok];exact k
theorem nY {f g:eV} (h:f ρ Z= .ok (.rt x) Z1):aL f g ρ Z= .ok (.rt x) Z1:=by unfold aL;rw[h];rfl
theorem kH {c:jf} {f g:eV} (h:c ρ Z= .ok true Z1) (k:f ρ Z1=r):bR c f g ρ Z=r:=by unfold bR;rw[h,RS.bind_ok,if_pos rfl,k]
theorem ml {c:jf} {f g:eV} (h:c ρ Z= .ok false Z1) (k:g ρ Z1=r):bR c f g ρ Z=r:=by unfold bR;rw[h,RS.bind_ok,if_neg Mx,k]
theorem jT {f:bK} (h:f ρ Z= .ok x Z1):hV f ρ Z= .ok (.rt x) Z1:=by unfold hV;rw[h];rfl
theorem l9 {f:bK} (h:f ρ Z= .ok x Z1):bx f ρ Z= .ok (.nx ρ) Z1:=by unfold bx;rw[h];rfl
theorem xP {f:bK} (h:f ρ Z= .ok x Z1) (e:ρ.set i (some x)=ρ1):dR f (fO i) ρ Z= .ok (.nx ρ1) Z1:=by subst e;unfold dR;rw[h];rfl
theorem kU:cw ρ Z= .ok (.nx ρ) Z:=rfl
theorem xX {C f:Str} {fo fe:bK} {fs:List (Str×SV)} (he:fe ρ Z= .ok x Z1) (ho:fo ρ Z1= .ok (.rf i) Z2) (hc:Z2[i]? =some (.obj C fs)) (hl:fs.length<100):Pl C f fo fe ρ Z= .ok (.nx ρ) (Z2.set i (.obj C (ff f x fs))):=by
 have e:B9 Z2 C (.rf i)=some (i,fs):=by unfold B9;dsimp only;rw[hc];dsimp only;rw[if_pos rfl]
 unfold Pl;rw[he,RS.bind_ok,ho,RS.bind_ok,e];show(if fs.length<100 then _ else _)=_;rw[if_pos hl]
theorem qX {f:bK} (h:f ρ Z= .ok x Z1) (k:frz 4 Z1 x=some (d,Z2)):wo f ρ Z= .ok (.fz d) Z2:=by unfold wo;rw[h,RS.bind_ok];unfold Hk;rw[k]
theorem kr {g:eV} {xs:List SV} {N:Nat} (e:xs.map some++Me (N - xs.length) none=ρ) (h:g ρ Z= .ok (.rt x) Z1):eF N g xs Z= .ok x Z1:=by subst e;unfold eF;rw[h];rfl
theorem mj {g:eV} {xs:List SV} {N:Nat} (e:xs.map some++Me (N - xs.length) none=ρ) (h:g ρ Z= .ok (.nx ρ1) Z1):eF N g xs Z= .ok (.fz .none) Z1:=by subst e;unfold eF;rw[h];rfl
end
section
variable {ρ ρ1 ρ2:bS} {Z Z1 Z2 Z3 Z4:bv} {x y z:SV} {i n:Nat} {d dx dy:D} {ds:List D} {b:Bool}
theorem kL {α:Type} {gt:pL} {ft:jf} {fe:bK} (e:α->D) (f:α->SV) (Z:bv) (I:bS->Prop):∀(xs:List α) (ρ:bS) (acc:List SV),I ρ->acc.length+xs.length<=1000000->(∀x∈xs,∀ρ,I ρ->∃ρ',gt (.fz (e x)) ρ Z= .ok ρ' Z/\ft ρ' Z= .ok true Z/\fe ρ' Z= .ok (f x) Z/\I ρ')->bW gt ft fe (xs.map e) ρ Z acc= .ok (acc++xs.map f) Z
 |[],ρ,acc,_,_,_=>by show RS.ok acc Z=_;rw[N9,ME]
 |x::r,ρ,acc,h0,hl,hs=>by obtain⟨ρ',h1,h2,h3,h4⟩:=hs x Mp ρ h0;rw[Mm] at hl;show((gt (.fz (e x)) ρ Z).bind _)=_;rw[h1,RS.bind_ok,h2,RS.bind_ok,if_pos rfl,h3,RS.bind_ok,if_pos (by omega),kL e f Z I r ρ' _ h4 (by rw[Mg,Pd];omega) fun y hy=>hs y (Mj _ hy),Ni];rfl
theorem tU {n:Nat} {fj:List Nat} {fi:Fz} {gt:pL} {ft:jf} {fe:bK} {xs:List SV} (hi:fi ρ Z= .ok ds Z1) (hc:bW gt ft fe ds (gP n fj ρ) Z1 []= .ok xs Z2):ni n fj fi gt ft fe ρ Z= .ok (.rf Z2.length) (Z2++[.lst xs]):=by unfold ni;rw[hi,RS.bind_ok,hc,pT,RS.bind_ok]
theorem yQ (m:Nat):∀(ds:List D),rY (frz m) Z (ds.map .fz)=some (ds,Z)
 |[]=>rfl
 |d::r=>by rw[Ms];unfold rY;rw[show frz m Z (.fz d)=some (d,Z) by cases m<;>rfl];dsimp only;rw[yQ m r]
theorem kW (h:Z[i]? =some (.lst (ds.map .fz))):frz 4 Z (.rf i)=some (.list ds,Z.set i .dead):=by unfold frz;rw[h];dsimp only;rw[yQ]
theorem xN {fe:bK} (h:fe ρ Z= .ok (.rf i) Z1) (hl:Z1[i]? =some (.lst (ds.map .fz))):jU fe ρ Z= .ok ds (Z1.set i .dead):=by unfold jU;rw[h,RS.bind_ok,kW hl];rfl
def KD (N C:bS->bv->Prop) (T:SV->bv->Prop):RS VO->Prop
 | .ok (.nx ρ) Z=>N ρ Z
 | .ok (.ct ρ) Z=>C ρ Z
 | .ok (.rt v) Z=>T v Z
 |_=>False
structure ON (r:RS VO) (N C:bS->bv->Prop) (T:SV->bv->Prop):Prop where
 out:KD N C T r
variable {f g:eV} {fe:bK} {N C:bS->bv->Prop} {T:SV->bv->Prop}
theorem ON.eq {r r':RS VO} (e:r=r') (h:ON r' N C T):ON r N C T:=by rw[e];exact h
theorem ON.imp {r:RS VO} {N' C':bS->bv->Prop} {T':SV->bv->Prop} (h:ON r N C T) (hN:∀ρ Z,N ρ Z->N' ρ Z) (hC:∀ρ Z,C ρ Z->C' ρ Z) (hT:∀v Z,T v Z->T' v Z):ON r N' C' T':=by
 refine⟨?_⟩;have h:=h.out;cases r with
 |bad=>exact h
 |er x Z=>exact h
 |ok fl Z=>
  cases fl with
  |nx r=>exact hN _ _ h
  |ct r=>exact hC _ _ h
  |rt v=>exact hT _ _ h
  |bk r=>exact h
theorem lU (h:ON (f ρ Z) (fun r o=>ON (g r o) N C T) C T):ON (aL f g ρ Z) N C T:=by
 refine⟨?_⟩;have h:=h.out;unfold aL;cases q:f ρ Z with
 |bad=>rw[q] at h;exact h.elim
 |er x o=>rw[q] at h;exact h.elim
 |ok fl o=>
  rw[q] at h;cases fl with
  |nx r=>exact(show ON (g r o) N C T from h).out
  |ct r=>exact h
  |rt v=>exact h
  |bk r=>exact h.elim
theorem tf {c:jf} (hc:c ρ Z= .ok b Z1) (ht:b=true->ON (f ρ Z1) N C T) (hf:b=false->ON (g ρ Z1) N C T):ON (bR c f g ρ Z) N C T:=by
 unfold bR;rw[hc,RS.bind_ok];cases b with
 |true=>exact ht rfl
 |false=>exact hf rfl
theorem fW {c:jf} (hc:c ρ Z= .ok true Z1) (ht:ON (f ρ Z1) N C T):ON (bR c f g ρ Z) N C T:=tf hc (fun _=>ht) fun h=>by cases h
theorem bp {c:jf} (hc:c ρ Z= .ok false Z1) (ht:ON (g ρ Z1) N C T):ON (bR c f g ρ Z) N C T:=tf hc (fun h=>by cases h) fun _=>ht
theorem DR {gt:pL} (he:fe ρ Z= .ok x Z1) (hg:gt x ρ Z1= .ok ρ1 Z2) (h:N ρ1 Z2):ON (dR fe gt ρ Z) N C T:=by refine⟨?_⟩;unfold dR;rw[he,RS.bind_ok,hg,RS.bind_ok];exact h
theorem ji (he:f ρ Z= .ok (.nx ρ1) Z1) (h:N ρ1 Z1):ON (f ρ Z) N C T:=⟨by rw[he];exact h⟩
theorem Kl (he:f ρ Z= .ok (.rt x) Z1) (h:T x Z1):ON (f ρ Z) N C T:=⟨by rw[he];exact h⟩
theorem cN (he:fe ρ Z= .ok x Z1) (h:N ρ Z1):ON (bx fe ρ Z) N C T:=ji (l9 he) h
theorem nH (he:fe ρ Z= .ok x Z1) (h:T x Z1):ON (hV fe ρ Z) N C T:=Kl (jT he) h
theorem Fv (h:T (.fz .none) Z):ON (oo ρ Z) N C T:=⟨h⟩
theorem fy (h:N ρ Z):ON (cw ρ Z) N C T:=⟨h⟩
theorem cE {gt:pL} (he:fe ρ Z= .ok x Z1) (hg:gt x ρ Z1= .ok ρ1 Z2) (h:ON (g ρ1 Z2) N C T):ON (aL (dR fe gt) g ρ Z) N C T:=lU (DR he hg h)
theorem jX (he:f ρ Z= .ok (.nx ρ1) Z1) (h:ON (g ρ1 Z1) N C T):ON (aL f g ρ Z) N C T:=lU (ji he h)
theorem dJ (he:fe ρ Z= .ok x Z1) (h:ON (g ρ Z1) N C T):ON (aL (bx fe) g ρ Z) N C T:=lU (cN he h)
theorem qO {c:jf} {f1 f2:eV} (hc:c ρ Z= .ok b Z1) (ht:b=true->ON (aL f1 g ρ Z1) N C T) (hf:b=false->ON (aL f2 g ρ Z1) N C T):ON (aL (bR c f1 f2) g ρ Z) N C T:=by
 have e:aL (bR c f1 f2) g ρ Z=if b=true then aL f1 g ρ Z1 else aL f2 g ρ Z1:=by unfold aL bR;rw[hc,RS.bind_ok];cases b<;>rfl
 refine .eq e ?_;cases b with
 |true=>exact ht rfl
 |false=>exact hf rfl
theorem fG {c:jf} {f1 f2:eV} (hc:c ρ Z= .ok true Z1) (ht:ON (aL f1 g ρ Z1) N C T):ON (aL (bR c f1 f2) g ρ Z) N C T:=qO hc (fun _=>ht) fun h=>by cases h
theorem dL {c:jf} {f1 f2:eV} (hc:c ρ Z= .ok false Z1) (ht:ON (aL f2 g ρ Z1) N C T):ON (aL (bR c f1 f2) g ρ Z) N C T:=qO hc (fun h=>by cases h) fun _=>ht
theorem A9 (he:fe ρ Z= .ok x Z1) (h:T x Z1):ON (aL (hV fe) g ρ Z) N C T:=lU (nH he h)
theorem mf (h:T (.fz .none) Z):ON (aL oo g ρ Z) N C T:=lU (Fv h)
theorem cK (h:ON (g ρ Z) N C T):ON (aL cw g ρ Z) N C T:=lU (fy h)
theorem xI {f1 f2:eV} (h:ON (aL f1 (aL f2 g) ρ Z) N C T):ON (aL (aL f1 f2) g ρ Z) N C T:=by
 refine .eq ?_ h;unfold aL;cases f1 ρ Z with
 |bad=>rfl
 |er x o=>rfl
 |ok fl o=>cases fl<;>rfl
theorem yp {gt:pL} {b:eV} (I:Nat->bS->bv->Prop):∀(ds:List D) (k:Nat) (ρ:bS) (Z:bv),I k ρ Z->(∀i d ρ Z,ds[i]? =some d->I (k+i) ρ Z->∃ρ1 Z1,gt (.fz d) ρ Z= .ok ρ1 Z1/\ON (b ρ1 Z1) (I (k+i+1)) (I (k+i+1)) T)->ON (oJ gt b ds ρ Z) (I (k+ds.length)) C T
 |[],k,ρ,Z,h0,_=>⟨h0⟩
 |d::r,k,ρ,Z,h0,hs=>by
  obtain⟨ρ1,Z1,h1,h2⟩:=hs 0 d ρ Z rfl h0;have h2:=h2.out;have rest:∀ρ' Z',I (k+1) ρ' Z'->ON (oJ gt b r ρ' Z') (I (k+(r.length+1))) C T:=fun ρ' Z' h=>by
   have e:k+(r.length+1)=k+1+r.length:=by omega
   rw[e];refine yp I r (k+1) ρ' Z' h fun i d' Xx Z'' hi hI=> ?_;have e:k+1+i=k+(i+1):=by omega
   rw[e] at hI⊢;exact hs (i+1) d' Xx Z'' (by simpa using hi) hI
  refine⟨?_⟩;show KD _ _ _ ((gt (.fz d) ρ Z).bind _);rw[h1,RS.bind_ok];cases q:b ρ1 Z1 with
  |bad=>rw[q] at h2;exact h2.elim
  |er x o=>rw[q] at h2;exact h2.elim
  |ok fl o=>
   rw[q] at h2;cases fl with
   |nx r=>exact(rest _ _ h2).out
   |ct r=>exact(rest _ _ h2).out
   |rt v=>exact h2
   |bk r=>exact h2.elim
theorem Bk {fi:Fz} {gt:pL} {b:eV} (I:Nat->bS->bv->Prop) (hi:fi ρ Z= .ok ds Z1) (h0:I 0 ρ Z1) (hs:∀i d ρ Z,ds[i]? =some d->I i ρ Z->∃ρ1 Z1,gt (.fz d) ρ Z= .ok ρ1 Z1/\ON (b ρ1 Z1) (I (i+1)) (I (i+1)) T) (hN:∀ρ' Z',I ds.length ρ' Z'->N ρ' Z'):ON (vH fi gt b ρ Z) N C T:=by have:=yp (C:=C) (T:=T) I ds 0 ρ Z1 h0 (by simpa using hs);rw[Tb] at this;refine .eq ?_ (this.imp hN (fun _ _ h=>h) fun _ _ h=>h);unfold vH;rw[hi,RS.bind_ok]
theorem Dm {n:Nat} {g:eV} {xs:List SV} (hρ:xs.map some++Me (n - xs.length) none=ρ) (h:ON (g ρ Z) (fun _ Z'=>T (.fz .none) Z') (fun _ _=>False) T):∃x Z',eF n g xs Z= .ok x Z'/\T x Z':=by
 have h:=h.out;unfold eF;rw[hρ];cases q:g ρ Z with
 |bad=>rw[q] at h;exact h.elim
 |er x o=>rw[q] at h;exact h.elim
 |ok fl o=>
  rw[q] at h;cases fl with
  |nx r=>exact⟨_,_,rfl,h⟩
  |ct r=>exact h.elim
  |rt v=>exact⟨_,_,rfl,h⟩
  |bk r=>exact h.elim
theorem d6 {n:Nat} {g:eV} {xs:List SV} {v:SV} {W:bv->Prop} (hρ:xs.map some++Me (n - xs.length) none=ρ) (h:ON (g ρ Z) (fun _ Z'=>SV.fz .none=v/\W Z') (fun _ _=>False) (fun r Z'=>r=v/\W Z')):∃Z',eF n g xs Z= .ok v Z'/\W Z':=by obtain⟨x,Z',h1,h2,h3⟩:=Dm (T:=fun r Z'=>r=v/\W Z') hρ h;exact⟨Z',by rw[h1,h2],h3⟩
end
end L10
namespace L10
open PySem PySem.SeqAt PySem.Spec PySem.W PyProof.Rows L2 L3
end L10
namespace L10
open PySem PyProof.Rows L2 L3
end L10
namespace L10
open PySem PySem.Spec PyProof.Rows L2 L3
noncomputable def lh (P:My) (w:MS) (d:L8) (ob:Obj) (kvs:List (bt×V)):HO:= .ext fun h=>h.get? d=some ob/\kvs.length<=Mq/\(d==Oi)=false/\∃vs,KV kvs vs/\h.DictOf (bZ P w) d vs
theorem Jy {P:My} {w:MS} {H:Hp} {h:Heap} {d:L8} {ob:Obj} {kvs:List (bt×V)} (h1:h.get? d=some ob) (h2:ObjOk P w H' h d (.dK kvs)):ObjOk P w H h d (lh P w d ob kvs):=by obtain⟨z,y,vs,r,dd⟩:=h2;refine⟨⟨h1,z,y,vs,r,dd⟩,⟨ob,h1⟩,?_⟩;rintro g1 g2 ⟨a,z,y,vs,r,o,es,ep,e,c⟩ k;exact⟨k _ a,z,y,vs,r,o,es,ep,k _ e,c⟩
noncomputable def Lj (P:My) (w:MS) (d:L8) (ob:Obj) (kvs:List (bt×V)):It:=
 ⟨fun i H=>H d=some (lh P w d ob kvs)/\i<kvs.length,fun i H x H'=>H'=H/\∃k,kvs[i]? =some (k,x),fun i H=>H d=some (lh P w d ob kvs)/\kvs.length<=i⟩
theorem A6 {κ:Type}:∀{kvs:List (κ×V)} {vs:List (κ×L5)} {i:Nat} {k:κ} {x:V},KV kvs vs->kvs[i]? =some (k,x)->∃u,vs[i]? =some (k,u)/\RelV x u
 |_,_,_,_,_,.nil,e=>by simp at e
 |_,(k',u')::_,0,k,x,.cons h _,e=>by simp at e;subst e;obtain⟨h1,h2⟩:=h;dsimp only at h1 h2;subst h1;exact⟨_,rfl,h2⟩
 |_,_,i+1,k,x,.cons _ t,e=>by obtain⟨u,h1,h2⟩:=A6 (i:=i) t (by simpa using e);exact⟨u,by simpa using h1,h2⟩
theorem AM {P:My} {w:MS} {K:Bn} {tg:MR} (d it:L8) (ob:Obj) (es:Array Xf) (ep:Nat) (hob:ob.data= .dict es ep) (kvs:List (bt×V)):Turn P w K tg (Lj P w d ob kvs) [it] it (fun i h=>h.IsValIter it d i kvs.length ep) where
 mem:=by simp
 obj:=fun i h st b hb=>by
  have e:b=it:=by simpa using hb
  subst e;obtain⟨o,e,c,d⟩:=st;exact⟨o,e,fun v z=>by rw[d] at z;cases z⟩
 keep:=fun i h h' st k=>st.at fun o e=>k it (by simp) o e
 item:=by
  intro X hP hw hK hc i pins s σ H E I hf st hg;subst hP hw hK;obtain⟨hd,hi⟩:=hg;obtain⟨⟨h1,z,y,vs,rel,o,Wh,Ul,e,c⟩,_,_⟩:=(show ObjOk X.prog X.w H s.heap d (lh X.prog X.w d ob kvs) from I.Nw d _ hd);have eo:o=ob:=by rw[h1] at e;cases e;rfl
  subst eo;obtain⟨c1,c2,c3⟩:=c;have ee:Ul=ep:=by rw[hob] at c2;cases c2;rfl
  subst ee;have da:s.heap.DictAt (bZ X.prog X.w) d vs Ul:=⟨o,Wh,e,c1,c2,c3⟩;obtain⟨⟨k,x⟩,hx⟩:∃p,kvs[i]? =some p:=⟨kvs[i],Mf hi⟩;obtain⟨u,hu,ru⟩:=A6 rel hx;obtain⟨f0,f1,f2,f3,f4,f5⟩:=hf it (by simp);have st:s.heap.IsValIter it d i vs.length Ul:=by rw[<-rel.length];exact st
  refine wpAny_pyNext_values_item st da hu fun h' TV sb=> ?_;have I1:Inv X pins σ H {s with heap:=h'}:=I.turned (t':=s.toks) (fun b o hb e=>(sb.2 b hb).trans e) f0 f1 f3 f4 f5;have TV:h'.IsValIter it d (i+1) kvs.length Ul:=by rw[rel.length];exact TV
  obtain⟨o',e',c',d'⟩:=id TV;exact⟨u,rfl,yq (s:={s with heap:=h'}) e' c' d' (by decide) ⟨x,H,I1,ru,⟨rfl,k,hx⟩,TV,fun b hb=>(hf b hb).1⟩⟩
 done:=by
  intro X hP hw hK hc i pins s σ H E I hf st hg;subst hP hw hK;obtain⟨hd,hi⟩:=hg;obtain⟨⟨h1,z,y,vs,rel,o,Wh,Ul,e,c⟩,_,_⟩:=(show ObjOk X.prog X.w H s.heap d (lh X.prog X.w d ob kvs) from I.Nw d _ hd);have eo:o=ob:=by rw[h1] at e;cases e;rfl
  subst eo;obtain⟨c1,c2,c3⟩:=c;have ee:Ul=ep:=by rw[hob] at c2;cases c2;rfl
  subst ee;have da:s.heap.DictAt (bZ X.prog X.w) d vs Ul:=⟨o,Wh,e,c1,c2,c3⟩;obtain⟨f0,f1,f2,f3,f4,f5⟩:=hf it (by simp);have hl:=rel.length;have st:s.heap.IsValIter it d i vs.length Ul:=by rw[<-rel.length];exact st
  exact wpAny_pyNext_values_end (I.ok.hd hc) st da (List.getElem?_eq_none (by omega)) fun h' eb=>⟨rfl,I.turned (t':=s.toks) (fun b o hb e=>eb b o hb e) f0 f1 f3 f4 f5⟩
 self:=fun _ _ _ _ _ st h=>wpAny_pyIter_valiter st h
def Ha (P:My) (w:MS) (tv:TE):TI:=fun σ H R=>tv σ H fun x H1=>∃p d kvs,x= .ref p/\H1 p=some (yH p d)/\H1 d=some (.dK kvs)/\∀ob,R (Lj P w d ob kvs) (bA H1 d (lh P w d ob kvs))
section
variable {X:Cx} {tg:MR}
theorem Fg {l:MR} {tl:TE} (hl:PE X l tl):PI X tg l (Ha X.prog X.w tl):=by
 intro pins s σ H R I h;refine c8 (hl pins s σ H _ I h) fun v s1 ⟨x,H1,I1,r1,q1⟩=> ?_;obtain⟨p,d,kvs,e,hp,hd,q⟩:=q1;subst e;cases r1;obtain⟨vw,_,_⟩:ObjOk X.prog X.w H1 s1.heap p (yH p d):=I1.Nw p _ hp;have od:ObjOk X.prog X.w H1 s1.heap d (.dK kvs):=I1.Nw d _ hd;obtain⟨z,y,vs,rel,ob,es,ep,e,c1,c2,c3⟩:=id od;have da:s1.heap.DictAt (bZ X.prog X.w) d vs ep:=⟨ob,es,e,c1,c2,c3⟩;refine wpAny_pyIter_values vw da ?_;have k:∀b o,s1.heap.get? b=some o->(s1.heap.push {cls:= .type "dict_valueiterator",data:= .fields #[.ref d,.int 0 0,.int vs.length 0,.int ep 0]}).get? b=some o:=fun b o e=>Heap.get?_push_of_some _ e;have I2:=I1.kept (t':=s1.toks) k;have I3:=I2.write (x:=d) (e:=d) (o:=lh X.prog X.w d ob kvs) (t':=s1.toks) (h':=s1.heap.push {cls:= .type "dict_valueiterator",data:= .fields #[.ref d,.int 0 0,.int vs.length 0,.int ep 0]}) (by rw[hd];trivial) (.inl rfl) (fun b u _ e=>e) ⟨ob,k _ _ e⟩ (Jy (k _ _ e) (show ObjOk X.prog X.w H1 _ d (.dK kvs) from⟨z,y,vs,rel,ob,es,ep,k _ _ e,c1,c2,c3⟩));refine⟨s1.heap.objs.size,[s1.heap.objs.size],_,_,_,rfl,I3,AM d _ ob es ep c2 kvs,⟨_,Heap.get?_push_size _ rfl,rfl,by rw[rel.length];rfl⟩,fun b hb=> ?_,q ob⟩;have e:b=s1.heap.objs.size:=by simpa using hb
 subst e;have hn:=I1.Nw.fresh (Mh s1.heap.objs.size);refine I1.Tf (Mh _) ?_;rw[aO (fun z=>by rw[z,hd] at hn;cases hn)];exact hn
def Kq (P:My) (w:MS) (t:TE):TE:=fun σ H Q=>t σ H fun x H1=>∃d ob kvs,H1 d=some (lh P w d ob kvs)/\Q x (bA H1 d (.dK kvs))
theorem HY {l:MR} {tl:TE} (hl:PE X l tl):PE X l (Kq X.prog X.w tl):=by intro pins s σ H Q I h;refine c8 (hl pins s σ H _ I h) fun v s1 ⟨x,H1,I1,r1,d,ob,kvs,hd,q⟩=> ?_;obtain⟨⟨h1,z,y,vs,rel,dd⟩,_,_⟩:=(show ObjOk X.prog X.w H1 s1.heap d (lh X.prog X.w d ob kvs) from I1.Nw d _ hd);exact⟨x,_,I1.write (x:=d) (e:=d) (o:= .dK kvs) (t':=s1.toks) (h':=s1.heap) (by rw[hd];trivial) (.inl rfl) (fun b u _ e=>e) ⟨ob,h1⟩ ⟨z,y,vs,rel,dd⟩,r1,q⟩
end
end L10
namespace L10
open PySem PyProof.Rows L2 L3
section
variable {O O':ci} {K:Bn} {H H':Hp} {a b:L8} {xs:List V} {φ:Heap->Prop}
def Fb (a:L8) (O:ci) (H:Hp) (O':ci) (H':Hp):Prop:=∀b o,b≠a->H b=some o->¬O b->H' b=some o/\¬O' b
theorem Ru.R0 (hx:H a=some (.ext φ)) (h:Ru O K H b xs) (e:Fb a O H O' H'):Ru O' K H' b xs:=by
 obtain⟨h,k⟩:=h;by_cases z:O b
 ·exact⟨PB.same (kX H') (k z),fun _=>k z⟩
 ·rcases h with(h|⟨o,h⟩)|h
  ·obtain⟨h1,h2⟩:=e b _ (fun y=>by rw[y,hx] at h;cases h) h z;exact⟨.inl (.inl h1),fun y=>absurd y h2⟩
  ·obtain⟨h1,h2⟩:=e b _ (fun y=>by rw[y,hx] at h;cases h) h z;exact⟨.inl (.inr ⟨o,h1⟩),fun y=>absurd y h2⟩
  ·exact⟨.inr h,fun _=> .inr h⟩
theorem Qj.R0 (hx:H a=some (.ext φ)) (h:Qj O K H b xs) (e:Fb a O H O' H'):Qj O' K H' b xs:=by
 obtain⟨h,k⟩:=h;by_cases z:O b
 ·exact⟨(kX H').tup (k z),fun _=>k z⟩
 ·rcases h with(h|⟨o,h⟩)|h
  ·obtain⟨h1,h2⟩:=e b _ (fun y=>by rw[y,hx] at h;cases h) h z;exact⟨.inl (.inl h1),fun y=>absurd y h2⟩
  ·obtain⟨h1,h2⟩:=e b _ (fun y=>by rw[y,hx] at h;cases h) h z;exact⟨.inl (.inr ⟨o,h1⟩),fun y=>absurd y h2⟩
  ·exact⟨.inr h,fun _=> .inr h⟩
mutual
theorem DV.R0 (hx:H a=some (.ext φ)) (e:Fb a O H O' H'):∀{v:V} {d:D},L3.DV O K H v d->L3.DV O' K H' v d
 |_,_,.OT=> .OT
 |_,_,.bl b=> .bl b
 |_,_,.int i=> .int i
 |_,_,.str x=> .str x
 |_,_,.tup h hs=> .tup (Qj.R0 hx h e) (Nz.R0 hx e hs)
 |_,_,.lst h hs=> .lst (Ru.R0 hx h e) (Nz.R0 hx e hs)
theorem Nz.R0 (hx:H a=some (.ext φ)) (e:Fb a O H O' H'):∀{vs:List V} {ds:List D},L3.Nz O K H vs ds->L3.Nz O' K H' vs ds
 |_,_,.nil=> .nil
 |_,_,.cons h hs=> .cons (DV.R0 hx e h) (Nz.R0 hx e hs)
end
end
section
variable {B O O':ci} {K:Bn} {E:XK} {H H' H1 H2:Hp} {α α' α1 α2:List L8} {Z Z' Z1 Z2:bv} {σ:L2.St} {ρ:bS} {v:V} {φ:Heap->Prop} {a b:L8}
theorem TK.R0 {x:AV} (hx:H a=some (.ext φ)) (e:Fb a O H O' H') (h:TK O K H α v x):TK O' K H' α v x:=by
 cases x with
 |fz d=>exact DV.R0 hx e h
 |rf i=>exact h
theorem OG.R0 {x:SV} (hx:H a=some (.ext φ)) (e:Fb a O H O' H') (h:OG O K H α v x):OG O' K H' α v x:=by
 cases x with
 |fz d=>exact DV.R0 hx e h
 |rf i=>exact h
 |tp l=>obtain⟨a,xs,h1,h2,h3⟩:=h;exact⟨a,xs,h1,Qj.R0 hx h2 e,Paired.Ph h3 fun _ _ q=>TK.R0 hx e q⟩
theorem Uk.R0 {c:Cell} (hx:H a=some (.ext φ)) (e:Fb a O H O' H') (ha:∀o,H b=some o->H' b=some o) (h:Uk O K H α b c):Uk O' K H' α b c:=by
 cases c with
 |lst xs=>obtain⟨vs,h1,h2⟩:=h;exact⟨vs,ha _ h1,Paired.Ph h2 fun _ _ q=>OG.R0 hx e q⟩
 |Oe kvs=>obtain⟨ws,h1,h2⟩:=h;exact⟨ws,ha _ h1,Paired.Ph h2 fun _ _ q=>⟨q.1,OG.R0 hx e q.2⟩⟩
 |obj C fs=>obtain⟨Ca,dx,ws,h0,h1,h2⟩:=h;exact⟨Ca,dx,ws,h0,ha _ h1,Paired.Ph h2 fun _ _ q=>⟨q.1,OG.R0 hx e q.2⟩⟩
 |dead=>trivial
theorem NA.pin {i:Nat} {c:Cell} {o:HO} (ha:α[i]? =some a) (h:Z[i]? =some c) (hc:c≠ .dead):NA α Z H α (Z.set i .dead) (bA H a o):=
 ⟨fun _ _ h=>h,fun b o' q n=>by have z:b≠a:=fun e=>n ⟨i,c,by rw[e];exact ha,h,hc⟩;rw[aO z];exact q,fun b z=> .inl (pB z)⟩
theorem mX {o:HO} (h:H b≠none):bA H a o b≠none:=by
 by_cases z:b=a
 ·subst z;rw[aH];simp
 ·rw[aO z];exact h
theorem MF.pin (s:MF B K H α Z) {i:Nat} {c:Cell} {o:HO} (ha:α[i]? =some a) (h:Z[i]? =some c) (hc:c≠ .dead):MF B K (bA H a o) α (Z.set i .dead):=by
 have e:NA α Z H α (Z.set i .dead) (bA H a o):=NA.pin ha h hc;refine⟨by rw[Nc];exact s.len,s.nd,fun b h=>mX (s.bn b h),s.ba,fun j b h=>mX (s.al j b h),fun j b d h1 h2=> ?_⟩;rcases cA h2 with⟨rfl,rfl⟩|⟨QR,h2⟩
 ·exact trivial
 ·exact(s.R8 j b d h1 h2).ev e.ev e.pre fun u q=>by rw[aO (fun z=>QR (s.nd j i a (by rw[<-z];exact h1) ha))];exact q
theorem Dw {i:Nat} {c:Cell} (s:MF B K H α Z) (ha:α[i]? =some a) (h:Lv α (Z.set i c) b):b=a\/Lv α Z b:=by
 obtain⟨j,d,h1,h2,h3⟩:=h;rcases cA h2 with⟨rfl,rfl⟩|⟨_,h2⟩
 ·rw[ha] at h1;cases h1;exact .inl rfl
 ·exact .inr ⟨j,d,h1,h2,h3⟩
theorem Ei {i:Nat} {c:Cell} {o:HO} (s:MF B K H α Z) (ha:α[i]? =some a):Fb a (ow B α Z) H (ow B α (Z.set i c)) (bA H a o):=fun b u hb h n=>by
 refine⟨by rw[aO hb];exact h,fun z=> ?_⟩;rcases z with z|z
 ·exact n (.inl z)
 ·rcases Dw s ha z with z|z
  ·exact hb z
  ·exact n (.inr z)
theorem MF.Wd (s:MF B K H α Z) {i:Nat} {ws:List (bt×V)} {kvs:List (bt×SV)} (ha:α[i]? =some a) (hx:H a=some (.ext φ)) (pr:pE (ow B α Z) K H α ws kvs):MF B K (bA H a (.dK ws)) α (Z.set i (.Oe kvs)):=by
 have e:Fb a (ow B α Z) H (ow B α (Z.set i (.Oe kvs))) (bA H a (.dK ws)):=Ei s ha;refine⟨by rw[Nc];exact s.len,s.nd,fun b h=>mX (s.bn b h),s.ba,fun j b h=>mX (s.al j b h),fun j b d h1 h2=> ?_⟩;rcases cA h2 with⟨rfl,rfl⟩|⟨QR,h2⟩
 ·rw[ha] at h1;cases h1;exact⟨ws,aH,Paired.Ph pr fun _ _ q=>⟨q.1,OG.R0 hx e q.2⟩⟩
 ·exact(s.R8 j b d h1 h2).R0 hx e fun u q=>by rw[aO (fun z=>QR (s.nd j i a (by rw[<-z];exact h1) ha))];exact q
theorem Ae {own:List Str} {fv:List (Str×Nat)} {g:TG} {tc:TT} {te:TE} {gt:pL} {ft:jf} {fe:bK} {n:Nat} {fj:List Nat} {J:It} {Q:VK} {ds:List D} (hn:own.length=n) (hf:fv.map (·.2)=fj)
  (hg:GD K E0 g gt) (ht:wL K E0 tc ft) (he:eA K E0 te fe) (s1:MF B K H1 α1 Z1) (V4:Oz (ow B α1 Z1) K H1 α1 σ ρ) (it:wC K J (ow B α1 Z1) H1 ds) (w1:WS K E B H1 α1 Z1 (PQ B K Q) ((jY (bW gt ft fe ds (gP n fj ρ) Z1 [])).bind fun xs Z2=> .ok (.rf Z2.length) (Z2++[.lst xs]))):
  ∀D,H1 D=none->D9 J D (ip own fv σ) g tc te H1 fun H'=>Q (.ref D) H':=by
 intro Dd hD;have Yb:Oz (ow B α1 Z1) K H1 α1 (ip own fv σ) (gP n fj ρ):=zH hn hf V4;cases qr:bW gt ft fe ds (gP n fj ρ) Z1 [] with
 |er x Zf=>rw[qr] at w1;exact w1.elim
 |bad=>rw[qr] at w1;exact w1.elim
 |ok xs Zf=>
  rw[qr] at w1;have w1:WS K E B H1 α1 Z1 (PQ B K Q) (.ok (.rf Zf.length) (Zf++[.lst xs])):=w1;have hB:¬B Dd:=fun z=>s1.bn Dd z hD;have XX:∀{α2:List L8} {Z2:bv} {H':Hp},NA α1 Z1 H1 α2 Z2 H'->Ev (ow B α1 Z1) H1 (ow (bL B Dd) α2 Z2) H':=fun e b o h n=>⟨e.kp b o h fun z=>n (.inr z),fun z=>by
   rcases z with(z|z)|z
   ·exact n (.inl z)
   ·rw[z,hD] at h;cases h
   ·exact(e.lv b z).elim (fun q=>n (.inr q)) fun q=>by rw[h] at q;cases q⟩
  refine⟨fun i m σ' H'=>m=ds.length - i/\i<=ds.length/\∃α2 Z2 ρc acc ys,NA α1 Z1 H1 α2 Z2 H'/\MF (bL B Dd) K H' α2 Z2/\Oz (ow (bL B Dd) α2 Z2) K H' α2 σ' ρc/\H' Dd=some (.lst ys)/\Ov (ow (bL B Dd) α2 Z2) K H' α2 ys acc/\bW gt ft fe (ds.drop i) ρc Z2 acc= .ok xs Zf,
   ⟨_,rfl,MN _,α1,Z1,gP n fj ρ,[],[],NA.same (b8 hD _),s1.hide hD,?_,aH,.nil,qr⟩,?_⟩
  ·exact⟨Yb.1,fun j x hx=>let⟨v,h1,h2⟩:=Yb.2 j x hx;⟨v,h1,h2.ev (XX (NA.same (b8 hD _))) fun _ _ h=>h⟩⟩
  ·rintro i m σ2 H2 ⟨rfl,hi,α2,Z2,ρ2,acc,ys,e2,s2,UD,hy,vy,qP⟩
   obtain⟨go,stop⟩:=it (ow (bL B Dd) α2 Z2) H2 (XX e2) s2.Sa;by_cases Pw:i<ds.length
   ·obtain⟨g1,g2⟩:=go i Pw
    refine .inr ⟨g1,fun σ5 H5=>i+1<=ds.length/\∃α2 Z2 ρc acc ys,NA α1 Z1 H1 α2 Z2 H5/\MF (bL B Dd) K H5 α2 Z2/\Oz (ow (bL B Dd) α2 Z2) K H5 α2 σ5 ρc/\H5 Dd=some (.lst ys)/\Ov (ow (bL B Dd) α2 Z2) K H5 α2 ys acc/\bW gt ft fe (ds.drop (i+1)) ρc Z2 acc= .ok xs Zf,
     fun σ5 H5 ⟨h1,h2⟩=>⟨ds.length - (i+1),by omega,rfl,h1,h2⟩,fun x H3 y=> ?_⟩
    obtain⟨s3,d,hd,dv⟩:=g2 x H3 y;have ed:ds.drop i=d::ds.drop (i+1):=by obtain⟨_,q⟩:=Md.mp hd;rw[NT Pw,q]
    rw[ed] at qP;unfold bW at qP;have e3:NA α2 Z2 H2 α2 Z2 H3:=NA.same s3;have kD:∀{αx αy:List L8} {Zx Zy:bv} {Hx Hy:Hp} {o:HO},MF (bL B Dd) K Hx αx Zx->NA αx Zx Hx αy Zy Hy->Hx Dd=some o->Hy Dd=some o:=fun sx ex h=>ex.kp _ _ h fun⟨i,c,q,_⟩=>sx.ba Dd (.inr rfl) i q;refine hg (bL B Dd) σ2 H3 α2 Z2 ρ2 x (.fz d) _ (s2.grow s3) (UD.Oy e3) dv ?_;cases qg:gt (.fz d) ρ2 Z2 with
    |er z Zz=>rw[qg] at qP;cases qP
    |bad=>rw[qg] at qP;cases qP
    |ok ρ4 Z4=>
     rw[qg] at qP;intro α4 H4 e4 s4 σ4 Wa;refine ht (bL B Dd) σ4 H4 α4 Z4 ρ4 _ s4 Wa ?_;have qP:((ft ρ4 Z4).bind fun b Z2=>if b=true then(fe ρ4 Z2).bind fun x Z3=>(if acc.length<1000000 then bW gt ft fe (ds.drop (i+1)) ρ4 Z3 (acc++[x]) else .bad) else bW gt ft fe (ds.drop (i+1)) ρ4 Z2 acc)= .ok xs Zf:=qP;cases qt:ft ρ4 Z4 with
     |er z Zz=>rw[qt] at qP;cases qP
     |bad=>rw[qt] at qP;cases qP
     |ok b Z5=>
      rw[qt] at qP;intro α5 H5 e5 s5;have UU:=Wa.Oy e5;have Vu:=e3.trans (e4.trans e5);cases b with
      |false=>have qP:bW gt ft fe (ds.drop (i+1)) ρ4 Z5 acc= .ok xs Zf:=qP;exact⟨Pw,α5,Z5,ρ4,acc,ys,e2.trans Vu,s5,UU,kD s2 Vu hy,Ov.Oy Vu vy,qP⟩
      |true=>
       have qP:((fe ρ4 Z5).bind fun x Z3=>(if acc.length<1000000 then bW gt ft fe (ds.drop (i+1)) ρ4 Z3 (acc++[x]) else .bad))= .ok xs Zf:=qP;rw[if_pos rfl];refine he (bL B Dd) σ4 H5 α5 Z5 ρ4 _ s5 UU ?_;cases qe:fe ρ4 Z5 with
       |er z Zz=>rw[qe] at qP;cases qP
       |bad=>rw[qe] at qP;cases qP
       |ok x6 Z6=>
        rw[qe] at qP;intro α6 H6 e6 s6 v6 hv6;have qP:(if acc.length<1000000 then bW gt ft fe (ds.drop (i+1)) ρ4 Z6 (acc++[x6]) else .bad)= .ok xs Zf:=qP;by_cases TM:acc.length<1000000
        ·rw[if_pos TM] at qP;have V5:=Vu.trans e6;have Ye:H6 Dd=some (.lst ys):=kD s2 V5 hy;have XG:=Ov.Oy V5 vy;have em:Ev (ow (bL B Dd) α6 Z6) H6 (ow (bL B Dd) α6 Z6) (bA H6 Dd (.lst (ys++[v6]))):=Ev.mut (.inl (.inr rfl)) _;have X0:=UU.Oy e6;refine⟨ys,Ye,sC (by rw[XG.length];exact TM),Pw,α6,Z6,ρ4,acc++[x6],ys++[v6],(e2.trans V5).dd hD,s6.Wi Ye,⟨X0.1,fun j x hx=>let⟨v,h1,h2⟩:=X0.2 j x hx;⟨v,h1,h2.ev em fun _ _ h=>h⟩⟩,aH,vg (Paired.Ph XG fun _ _ r=>r.ev em fun _ _ h=>h) (hv6.ev em fun _ _ h=>h),qP⟩
        ·rw[if_neg TM] at qP;cases qP
   ·have e:i=ds.length:=by omega
    subst e;rw[Oa (Mh _)] at qP;have qP:RS.ok acc Z2= .ok xs Zf:=qP;cases qP;refine .inl ⟨stop,?_⟩;refine w1 (α2++[Dd]) H2 ⟨fun i a h=>eK (e2.pre i a h),e2.kp,fun b z=>(oa s2.len z).elim (e2.lv b) fun z=> .inr (by rw[z];exact hD)⟩ (s2.adopt hy vy hB) (.ref Dd) ⟨Dd,by rw[<-s2.len];exact aN,rfl⟩
noncomputable def qp (n:Nat) (fj:List Nat) (fd:bK) (gt:pL) (ft:jf) (fe:bK):bK:=fun ρ Z=>(fd ρ Z).bind fun o Z1=>(RS.M3 Z1 (hG Z1 o)).bind fun p Z1=>(RS.M3 Z1 (aF tO (p.2.map (·.2)))).bind fun ds Z1=>(jY (bW gt ft fe ds (gP n fj ρ) (Z1.set p.1 .dead) [])).bind fun xs Z2=> .ok (.rf Z2.length) (Tz (Z2++[Cell.lst xs]) p.1 (Cell.Oe p.2))
theorem Ax {P:My} {wW:MS} {own:List Str} {fv:List (Str×Nat)} {td:TE} {g:TG} {tc:TT} {te:TE} {fd:bK} {gt:pL} {ft:jf} {fe:bK} {n:Nat} {fj:List Nat} (hn:own.length=n) (hf:fv.map (·.2)=fj)
  (hd:eA K E td fd) (hg:GD K E0 g gt) (ht:wL K E0 tc ft) (he:eA K E0 te fe):eA K E (Kq P wW (sV own fv (Ha P wW (Iy K "dict" CV td)) g tc te)) (qp n fj fd gt ft fe):=by
 intro B σ H α Z ρ Q s sl w;refine hd B σ H α Z ρ _ s sl (w.bind.imp fun o α1 Z1 H1 e1 s1 w1 u hu=> ?_);obtain⟨⟨i,kvs⟩,q2,w1⟩:=WS.M3 w1;obtain⟨ds,qd,w1⟩:=WS.M3 w1;obtain⟨qi,a,ws,ha,rfl,g1,g2⟩:=kq s1 hu q2;refine⟨.inr (.inr (.inl ⟨rfl,.inl ⟨ws,g1⟩⟩)),a,ws,rfl,rfl,g1,fun p hp=> ?_⟩;have sm:Nt H1 (bA H1 p (yH p a)):=b8 hp _;have s2:=s1.grow sm;refine⟨p,a,ws,rfl,aH,sm _ _ g1,fun ob=> ?_⟩;have nd:(Cell.Oe kvs)≠ .dead:=by intro z;cases z
 have s3:MF B K (bA (bA H1 p (yH p a)) a (lh P wW a ob ws)) α1 (Z1.set i .dead):=s2.pin ha qi nd;have e3:NA α1 Z1 H1 α1 (Z1.set i .dead) (bA (bA H1 p (yH p a)) a (lh P wW a ob ws)):=(NA.same sm).trans (NA.pin ha qi nd);have na:¬ow B α1 (Z1.set i .dead) a:=s2.UC ha;have Rg:L3.Nz (ow B α1 (Z1.set i .dead)) K (bA (bA H1 p (yH p a)) a (lh P wW a ob ws)) (ws.map (·.2)) ds:=by have:=Ov.Oy e3 (rA g2);rw[tT qd] at this;exact xj this
 have Xz:(bA (bA H1 p (yH p a)) a (lh P wW a ob ws)) a=some (lh P wW a ob ws):=aH;have it:wC K (Lj P wW a ob ws) (ow B α1 (Z1.set i .dead)) (bA (bA H1 p (yH p a)) a (lh P wW a ob ws)) ds:=by
  intro O' H' e nn;have h1:=(e a _ Xz na).1;have T5:=Rg.ev e;have hl:ws.length=ds.length:=by have:=Rg.length;rwa [L7] at this
  refine⟨fun j hj=>⟨⟨h1,by omega⟩,?_⟩,h1,by omega⟩;rintro y TY ⟨rfl,k,hy⟩;obtain⟨d,q1,q2⟩:=T5.Ut (v:=y) (i:=j) (by rw[Ml,hy];rfl);exact⟨Nt.refl _,d,q1,q2⟩
 refine Ae (E:=E) (Q:=fun x H'=>∃d ob kvs,H' d=some (lh P wW d ob kvs)/\Q x (bA H' d (.dK kvs))) hn hf hg ht he s3 ((sl.Oy e1).Oy e3) it ?_;dsimp only at w1;cases qr:bW gt ft fe ds (gP n fj ρ) (Z1.set i .dead) [] with
 |er x Zf=>rw[qr] at w1;exact w1.elim
 |bad=>rw[qr] at w1;exact w1.elim
 |ok xs Zf=>
  rw[qr] at w1;have w1:WS K E B H1 α1 Z1 (PQ B K Q) (.ok (.rf Zf.length) (Tz (Zf++[Cell.lst xs]) i (Cell.Oe kvs))):=w1;intro α' H' e s' v hv;have na':¬Lv α1 (Z1.set i .dead) a:=fun z=>na (.inr z);have hda:=e.kp a _ Xz na';refine⟨a,ob,ws,hda,?_⟩;have UW:=e.pre i a ha;have pr:pE (ow B α' (Zf++[.lst xs])) K H' α' ws kvs:=Paired.Ph g2 fun _ _ q=>⟨q.1,(q.2.Oy e3).Oy e⟩;have lva:Lv α1 Z1 a:=⟨i,_,ha,qi,nd⟩;refine w1 α' (bA H' a (.dK ws)) ⟨e.pre,fun b o h nl=> ?_,fun b z=> ?_⟩ (s'.Wd UW hda pr) v hv
  ·have hb:b≠a:=fun z=>nl (by rw[z];exact lva);rw[aO hb];exact e.kp b o (e3.kp b o h nl) fun z=>nl (pB z)
  ·rcases Dw s' UW z with rfl|z
   ·exact .inl lva
   ·rcases e.lv b z with z|z
    ·exact .inl (pB z)
    ·refine .inr ?_
     cases q:H1 b with
     |none=>rfl
     |some o=>
      have:=sm b o q;by_cases hb:b=a
      ·rw[hb,aH] at z;cases z
      ·rw[aO hb,this] at z;cases z
theorem Bw {n i:Nat} {fj:List Nat} {fd:bK} {gt:pL} {ft:jf} {fe:bK} {xs:List SV} {kvs:List (bt×SV)} {ds:List D} (h:fd ρ Z= .ok (.rf i) Z1) (hk:Z1[i]? =some (.Oe kvs)) (hd:kvs.map (·.2)=ds.map .fz) (hc:bW gt ft fe ds (gP n fj ρ) (Z1.set i .dead) []= .ok xs Z2):qp n fj fd gt ft fe ρ Z= .ok (.rf Z2.length) (Tz (Z2++[Cell.lst xs]) i (Cell.Oe kvs)):=by unfold qp;rw[h,RS.bind_ok,kI hk];show((RS.M3 Z1 (aF tO (kvs.map (·.2)))).bind _)=_;rw[hd,kT];show((jY (bW gt ft fe ds (gP n fj ρ) (Z1.set i .dead) [])).bind _)=_;rw[hc,pT,RS.bind_ok]
end
end L10
namespace PySem
open Sem (wp)
open PyProof.Rows
section
variable {prog:My} {w:MS} {A:MO} {E:L5->Ma->Prop} {s:Ma} {t:L8} {xs:Array (Int×Tok)}
theorem CF {vs:List L5} {ns:List Int} {Q:L5->Ma->Prop} (hh:A.handled=none) (hl:s.heap.IsList t vs.toArray) (hi:IntsAre vs ns) (QR:0<ns.length)
  (h:∀h' M (u:Tok) tk,(∀b o,s.heap.get? b=some o->h'.get? b=some o)->M∈ns->(∀a,a∈ns->a<=M)->Q (.int M u) {s with heap:=h',toks:=tk}):
  wpAny (model prog w) A (call (.builtin "max") [.ref t]) Q E s:=by
 obtain⟨xs,e⟩:=hi.allInts.items;have SU:ns=xs.toList.map (·.1):=by rw[<-hi.numsOf,<-nums_intItems,<-e]
 have hsz:0<xs.size:=by have h3:=QR;rw[SU,L7,M7] at h3;exact h3
 rw[e] at hl;refine max_intList hh hl hsz fun v h' tk hv hk=> ?_;obtain⟨t,rfl⟩:=intItems_at hv;obtain⟨h1,h2⟩:=argBest_gt (numAt xs) (xs.size - 1);refine h _ _ t tk hk ?_ fun a ha=> ?_
 ·rw[SU,numAt_eq];exact getD_mem (by rw[L7,M7];omega)
 ·rw[SU] at ha;obtain⟨j,hj,rfl⟩:=mem_getD ha;rw[L7,M7] at hj;rw[<-numAt_eq];exact h2 j (by omega)
end
end PySem
namespace L10
open PySem PySem.Spec PyProof.Rows L2 L3
def Gu (K:Bn):List V->Hp->VK->Prop:=fun xs H Q=>∃(a:L8) (ns:List Int),xs=[.ref a]/\PU K H a (ns.map V.int)/\0<ns.length/\∀M,M∈ns->(∀i,i∈ns->i<=M)->Q (.int M) H
theorem tz {X:Cx} (hc:X.calm=true):Oq X (.builtin "max") (Gu X.K):=by intro pins s σ H xs us Q I r h;obtain⟨a,ns,rfl,hx,hn,q⟩:=h;obtain⟨u,rfl,r1⟩:=iy r;cases r1;obtain⟨MY,r2,ht,_⟩:=I.list hx;exact CF (I.ok.hd hc) ht.isList (jN r2) hn fun h' M u tk hk h1 h2=>⟨.int M,H,I.kept hk,⟨_,rfl⟩,q M h1 h2⟩
noncomputable def ze:List D->Option RV
 |[.list ds]=>(match kA ds with
  |some ns=>if 0<ns.length then some (.fz (.int (wY ns))) else none
  |none=>none)
 |_=>none
theorem yu {K:Bn}:yK K (Gu K) ze:=by
 intro O H xs ds rv Q n hp e q;unfold ze at e;split at e
 ·split at e
  ·rename_i ns hs
   split at e
   ·rename_i hn
    cases e;cases hp with
    |cons h1 h2=>cases h2;obtain⟨a,vs,rfl,g1,g2⟩:=xk h1;rw[mW g2 hs] at g1;refine⟨a,ns,rfl,g1.sq,hn,fun M m1 m2=> ?_⟩;obtain⟨k1,k2⟩:=xb hn;have:M=wY ns:=Vw (k2 M m1) (m2 _ k1);subst this;exact q.at (.int _)
   ·cases e
  ·cases e
 ·cases e
end L10
namespace L10
open PySem PyProof.Rows L2 L3
section
variable {B O O':ci} {K:Bn} {E:XK} {H H' H1 H2:Hp} {α α' α1 α2:List L8} {Z Z' Z1 Z2:bv} {σ:L2.St} {ρ:bS} {v:V}
noncomputable def BC (n:String) (fa:bK):bK:=fun ρ Z=>(fa ρ Z).bind fun x Z1=>(RS.M3 Z1 (nr 6 Z1 x)).bind fun d Z1=>(RS.M3 Z1 (AD d)).bind fun t Z1=> .ok (.fz (.bool (FB n t))) Z1
theorem Et {n:String} {ta:TE} {fa:bK} (hn:n= "int"\/n= "bool"\/n= "str"\/n= "list"\/n= "tuple") (ha:eA K E ta fa):eA K E (Fs (GF K) (lx ta (lx (tC (.ty n)) rF))) (BC n fa):=by intro B σ H α Z ρ Q s sl w;refine ha B σ H α Z ρ _ s sl (w.bind.imp fun x α1 Z1 H1 e1 s1 w1 v hv=> ?_);obtain⟨d,q,w1⟩:=WS.M3 w1;obtain⟨t,qt,w1⟩:=WS.M3 w1;exact⟨v,n,t,FB n t,rfl,Km (DV.x (jy s1 6 hv q)) qt,Gs hn qt,WS.now s1 w1 (.bl _) (.bl _)⟩
theorem BG {n:String} {fa:bK} {x:SV} {d:D} {t:String} (h:fa ρ Z= .ok x Z1) (hd:nr 6 Z1 x=some d) (ht:AD d=some t):BC n fa ρ Z= .ok (.fz (.bool (FB n t))) Z1:=by unfold BC;rw[h,RS.bind_ok,hd];show((RS.M3 Z1 (AD d)).bind _)=_;rw[ht];rfl
noncomputable def mv:List (bK×bK)->bS->bv->RS (List (bt×SV))
 |[],_,Z=> .ok [] Z
 |(fk,fv)::r,ρ,Z=>(fk ρ Z).bind fun x Z1=>(RS.M3 Z1 (oO x)).bind fun k Z1=>(fv ρ Z1).bind fun y Z2=>(mv r ρ Z2).bind fun ps Z3=> .ok ((k,y)::ps) Z3
def tY (K:Bn) (E:XK) (SS:List (TE×TE)) (fs:List (bK×bK)):Prop:=
 ∀(B:ci) (σ:L2.St) (H:Hp) (α:List L8) (Z:bv) (ρ:bS) (Q:List (V×V)->Hp->Prop),MF B K H α Z->Oz (ow B α Z) K H α σ ρ->WS K E B H α Z (fun ps α' Z' H'=>∀vs,Paired (fun(p:V×V) (q:bt×SV)=>p.1=kV q.1/\OG (ow B α' Z') K H' α' p.2 q.2) vs ps->Q vs H') (mv fs ρ Z)->vh SS σ H Q
theorem Ep:tY K E [] []:=fun B σ H α Z ρ Q s sl w=>WS.now s w [] .nil
theorem mB {tk tv:TE} {SS:List (TE×TE)} {fk fv:bK} {fs:List (bK×bK)} (hk:eA K E tk fk) (hv:eA K E tv fv) (hr:tY K E SS fs):tY K E ((tk,tv)::SS) ((fk,fv)::fs):=by intro B σ H α Z ρ Q s sl w;refine hk B σ H α Z ρ _ s sl (w.bind.imp fun x α1 Z1 H1 e1 s1 w1 v XJ=> ?_);obtain⟨k,q,w1⟩:=WS.M3 w1;have ev:=mG q XJ;refine hv B σ H1 α1 Z1 ρ _ s1 (sl.Oy e1) (w1.bind.imp fun y α2 Z2 H2 e2 s2 w2 u hu=> ?_);refine hr B σ H2 α2 Z2 ρ _ s2 ((sl.Oy e1).Oy e2) (w2.bind.imp fun ps α3 Z3 H3 e3 s3 w3 vs U7=> ?_);exact WS.now s3 w3 _ (.cons ⟨ev,hu.Oy e3⟩ U7)
noncomputable def vQ (fs:List (bK×bK)):bK:=fun ρ Z=>(jY (mv fs ρ Z)).bind fun ps Z1=>if ps.length<=15 then .ok (.rf Z1.length) (Z1++[.Oe (gm [] ps)]) else .bad
theorem wK:∀{vs:List (V×V)} {ps:List (bt×SV)},Paired (fun(p:V×V) (q:bt×SV)=>p.1=kV q.1/\OG O K H α p.2 q.2) vs ps->∃kvs:List (bt×V),vs=kvs.map (fun kv=>(kV kv.1,kv.2))/\pE O K H α kvs ps
 |_,_,.nil=>⟨[],rfl,.nil⟩
 |(x,y)::_,(k,z)::_,.cons h t=>by obtain⟨kvs,rfl,h2⟩:=wK t;obtain⟨h3,h4⟩:=h;dsimp only at h3;subst h3;exact⟨(k,y)::kvs,rfl,.cons ⟨rfl,h4⟩ h2⟩
theorem MF.Ww {p:L8} {c:Cell} (s:MF (bL B p) K H α Z) (hc:c≠ .dead) (hq:H p≠none) (hv:Uk (ow (bL B p) α Z) K H α p c) (hB:¬B p):MF B K H (α++[p]) (Z++[c]):=by
 have eo:ow (bL B p) α Z=ow B (α++[p]) (Z++[c]):=vR s.len hc;have hn:∀i:Nat,α[i]?≠some p:=s.ba p (.inr rfl);have ev:Ev (ow (bL B p) α Z) H (ow B (α++[p]) (Z++[c])) H:=by rw[eo];exact fun b o h n=>⟨h,n⟩
 refine⟨by rw[Mg,Mg,s.len];rfl,fun i j a h1 h2=> ?_,fun a h=>s.bn a (.inl h),fun a h i z=> ?_,fun i a h=> ?_,fun i a c' h1 h2=> ?_⟩
 ·rcases bC h1 with g1|⟨e1,e2⟩<;>rcases bC h2 with g2|⟨e3,e4⟩
  ·exact s.nd i j a g1 g2
  ·rw[e4] at g1;exact absurd g1 (hn i)
  ·rw[e2] at g2;exact absurd g2 (hn j)
  ·omega
 ·rcases bC z with z|⟨_,rfl⟩
  ·exact s.ba a (.inl h) i z
  ·exact hB h
 ·rcases bC h with h|⟨_,rfl⟩
  ·exact s.al i a h
  ·exact hq
 ·rcases bC h2 with h2|⟨e2,rfl⟩
  ·rcases bC h1 with h1|⟨e1,rfl⟩
   ·exact(s.R8 i a c' h1 h2).ev ev (fun _ _ h=>eK h) fun _ q=>q
   ·have:=(Md.mp h2).1;rw[<-s.len] at this;omega
  ·rcases bC h1 with h1|⟨e1,rfl⟩
   ·have:=(Md.mp h1).1;rw[s.len] at this;omega
   ·exact hv.ev ev (fun _ _ h=>eK h) fun _ q=>q
theorem Cs {ps:List (bt×SV)} {kvs:List (bt×V)} (h:pE O K H α kvs ps):kvs.length=ps.length:=h.length
theorem C4 {SS:List (TE×TE)} {fs:List (bK×bK)} (h:tY K E SS fs):eA K E (GQ SS) (vQ fs):=by
 intro B σ H α Z ρ Q s sl w p hp;have hB:¬B p:=fun z=>s.bn p z hp;have s1:MF (bL B p) K (bA H p (.dK [])) α Z:=s.hide hp;have V4:Oz (ow (bL B p) α Z) K (bA H p (.dK [])) α σ ρ:=by
  have ev:Ev (ow B α Z) H (ow (bL B p) α Z) (bA H p (.dK [])):=fun b o h n=>by
   have hb:b≠p:=fun z=>by rw[z,hp] at h;cases h
   refine⟨by rw[aO hb];exact h,fun z=> ?_⟩;rcases z with(z|z)|z
   ·exact n (.inl z)
   ·exact hb z
   ·exact n (.inr z)
  exact⟨sl.1,fun j x hx=>let⟨v,h1,h2⟩:=sl.2 j x hx;⟨v,h1,h2.ev ev fun _ _ h=>h⟩⟩
 unfold vQ at w;cases qr:mv fs ρ Z with
 |er x Zf=>rw[qr] at w;exact w.elim
 |bad=>rw[qr] at w;exact w.elim
 |ok ps Zf=>
  rw[qr] at w;have w:WS K E B H α Z (PQ B K Q) (if ps.length<=15 then .ok (.rf Zf.length) (Zf++[.Oe (gm [] ps)]) else .bad):=w;refine h (bL B p) σ _ α Z ρ _ s1 V4 ?_;rw[qr];intro α' H' e' s' vs U7;have hpp:H' p=some (.dK []):=e'.kp p _ aH fun⟨i,c,q,_⟩=>s1.ba p (.inr rfl) i q;obtain⟨kvs,rfl,pr⟩:=wK U7;by_cases hl:ps.length<=15
  ·rw[if_pos hl] at w;refine⟨hpp,kvs,rfl,by rw[Cs pr];exact hl,?_⟩;have em:Ev (ow (bL B p) α' Zf) H' (ow (bL B p) α' Zf) (bA H' p (.dK (gk [] kvs))):=Ev.mut (.inl (.inr rfl)) _;have pr2:pE (ow (bL B p) α' Zf) K (bA H' p (.dK (gk [] kvs))) α' (gk [] kvs) (gm [] ps):=ui (Paired.Ph pr fun _ _ q=>⟨q.1,q.2.ev em fun _ _ h=>h⟩) .nil;have s2:=(s'.Wi (o':= .dK (gk [] kvs)) hpp).Ww (c:= .Oe (gm [] ps)) (by intro z;cases z) (by rw[aH];simp) ⟨_,aH,pr2⟩ hB;have e2:NA α Z H α' Zf (bA H' p (.dK (gk [] kvs))):=((NA.same (b8 hp _)).trans e').dd hp;exact w (α'++[p]) _ ⟨fun i a h=>eK (e2.pre i a h),e2.kp,fun b z=>(oa s'.len z).elim (e2.lv b) fun z=> .inr (by rw[z];exact hp)⟩ s2 (.ref p) ⟨p,by rw[<-s'.len];exact aN,rfl⟩
  ·rw[if_neg hl] at w;exact w.elim
theorem FC:mv [] ρ Z= .ok [] Z:=rfl
theorem mi {fk fv:bK} {fs:List (bK×bK)} {x y:SV} {k:bt} {ps:List (bt×SV)} {Z3:bv} (hk:fk ρ Z= .ok x Z1) (q:oO x=some k) (hv:fv ρ Z1= .ok y Z2) (hr:mv fs ρ Z2= .ok ps Z3):mv ((fk,fv)::fs) ρ Z= .ok ((k,y)::ps) Z3:=by unfold mv;rw[hk,RS.bind_ok,q];show((fv ρ Z1).bind _)=_;rw[hv,RS.bind_ok,hr,RS.bind_ok]
theorem Fn {fs:List (bK×bK)} {ps:List (bt×SV)} (h:mv fs ρ Z= .ok ps Z1) (hl:ps.length<=15):vQ fs ρ Z= .ok (.rf Z1.length) (Z1++[.Oe (gm [] ps)]):=by unfold vQ;rw[h,pT,RS.bind_ok,if_pos hl]
end
end L10
namespace L3
open PySem PySem.Spec PyProof.Rows L2
def Kc:List V->Hp->VK->Prop:=fun xs H Q=>∃i:Int,xs=[.int i]/\Q (.int (if i<0 then -i else i)) H
theorem Ag {X:Cx}:Oq X (.builtin "abs") Kc:=by intro pins s σ H xs us Q I r h;obtain⟨i,rfl,q⟩:=h;obtain⟨u,rfl,r1⟩:=iy r;obtain⟨t,rfl⟩:=(show∃t,u=L5.int i t from r1);exact call_abs_int fun u tk=>⟨.int _,H,I.tok tk,⟨_,rfl⟩,q⟩
noncomputable def wZ:List D->Option RV
 |[.int i]=>some (.fz (.int (if i<0 then -i else i)))
 |_=>none
theorem Js {K:Bn}:yK K Kc wZ:=by
 intro O H xs ds rv Q n hp e q;unfold wZ at e;split at e
 ·cases e
  cases hp with
  |cons h1 h2=>cases h2;cases h1;exact⟨_,rfl,q.at (.int _)⟩
 ·cases e
theorem J7:M6 "abs"=some (.builtin "abs"):=boot_abs
end L3
namespace L3
open PySem L2
structure NI (K:Bn) (f:L8) (n:Str) (t:Oj):Prop where
 a:MG K Mv n=some (some (.ref f))
 F:∃fd,O9 K n n t f fd
structure MI (K:Bn) (C f:L8) (m q:Str) (t:Oj):Prop where
 a:M9 K (.ref C) m=some (some (.ref f))
 i:QX K (.ref f)=true
 F:∃fd,O9 K m q t f fd
structure CI (K:Bn) (C:L8) (n:Str) (fs:List Str):Prop where
 a:MG K Mv n=some (some (.ref C))
 pg:OY K C Str.empty=true
 hd:PF K C=true
 po:QY K C=true
 sa:M9 K (.ref C) "__setattr__"=some (some (.builtin "object.__setattr__"))
 mm:Rq K C=true
 kc:Ol K (.ref C)=true
 fl:∀x∈fs,Qy K C x
def BA (n q:Str) (t:Oj) (ps:List Str):Prop:=∀(kV doc pm:L5) (an:Option L8) (N5 ct:L5) (us:List L5),us.length=ps.length->bindArgs (OQ n q (mJ t) (gi t) (bi t) .none kV doc pm an N5 ct) ⟨us,[]⟩=pure (ps.zip us)
section
variable {P:My} {w:MS} {K:Bn} {mg:Str->Option L5} {base h:Heap} {f C:L8} {n m q:Str} {t:Oj} {ps fs:List Str} {lv k:Nat} {sp sp':Sp}
theorem CI.cls (c:CI K C n fs):T2 K C:=⟨c.pg,c.hd,c.po,c.sa⟩
theorem CI.cf (c:CI K C n fs):L10.jh K n fs:=⟨C,c.a,c.cls,c.fl⟩
theorem NI.Ry (i:NI K f n t) (X:K.In h) (G:h.Ns Mv mg) (hb:BA n n t ps) (ok:∀fd,O9 K n n t f fd->FnOk P w K mg base dr lv f fd ps sp):zC P w K mg base lv n ps sp:=
 let⟨fd,z⟩:=i.F;⟨f,fd,ok fd z,z.binds hb,z.kp,PN X G i.a⟩
theorem MI.Rc (i:MI K C f m q t) (c:CI K C n fs) (hb:BA m q t ps) (ok:∀fd,O9 K m q t f fd->FnOk P w K mg base dr lv f fd ps sp):L10.cL P w K mg base dr lv n m ps sp:=
 let⟨fd,z⟩:=i.F;⟨C,f,fd,c.a,c.cls,⟨i.a,i.i,z.kp⟩,ok fd z,z.binds hb⟩
theorem MI.mak (i:MI K C f "__init__" q t) (c:CI K C n fs) (X:K.In h) (G:h.Ns Mv mg) (hb:BA "__init__" q t ps) (ok:∀fd,O9 K "__init__" q t f fd->FnOk P w K mg base dr lv f fd ps sp):L10.DY P w K mg base dr lv n ps sp:=
 let⟨fd,z⟩:=i.F;⟨C,f,fd,c.a,PN X G c.a,⟨c.mm,i.a,i.i,c.kc⟩,ok fd z,z.binds hb⟩
theorem NI.law {fa:L8} {x:Str} (i:NI K f "law" t) (X:K.In h) (G:h.Ns Mv mg) (Zr:mg "law"=some (.ref fa)) (hb:BA "law" "law" t [x]) (ok:∀base fd,O9 K "law" "law" t f fd->FnOk P w K mg base dr lv f fd [x] sp):∃fd:Nk,(∀(s:Ma) (v:L5),Rh s fd ⟨[v],[]⟩ [(x,v)])/\∀base:Heap,K.In base->base.Ns Mv mg->FnOk P w K mg base dr lv fa fd [x] sp:=by have e:=Zr.symm.trans (PN X G i.a);cases e;obtain⟨fd,z⟩:=i.F;obtain⟨oc,od,kV,doc,pm,an,N5,ct,U5,rfl,lk,Ui⟩:=z.ex;exact⟨_,fun s v=> .of_eq (hb kV doc pm an N5 ct [v] rfl),fun base _ _=>ok base _ z⟩
theorem G4 {A:MO} {k:Nat} (hr:Og k A):A.units+65<cLine:=by have:=hr.un;omega
theorem CK {X:Cx} {E:XK} {b:List Oj} {u:TS} {g:FS} (p:SO K E u g) (h:RZ X b u):∃t,RZ X b t/\SO K E t g:=⟨_,h,p⟩
theorem AA {X:Cx} {E:XK} {b:List Oj} {u:TS} {g:L10.eV} (p:L10.sO K E u g) (h:RZ X b u):∃t,RZ X b t/\L10.sO K E t g:=⟨_,h,p⟩
theorem mw {x qual:Str} {st:Oj} {fd:Nk} {N:List Str} {n m:Nat} {g:FS} {FF:FN} (F:O9 K x qual st f fd) (S:PK N ps (bi st)) (hn:ps.length=n) (hm:N.length=m) (hF:FF=gb m g)
  (P2:∀(N5:L5) (A:MO) (outer:List Env) (s:Ma) (H:Hp) (E:XK),N.Nodup->Og k (A.deeper (M4 qual (bi st) s.heap.objs.size f N5))->(A.deeper (M4 qual (bi st) s.heap.objs.size f N5)).units+64<cLine->(A.deeper (M4 qual (bi st) s.heap.objs.size f N5)).units+1<cLine->(A.deeper (M4 qual (bi st) s.heap.objs.size f N5)).units+65<cLine->
   ∃t,RZ (pS dr P w K mg base N qual (bi st) f N5 A outer s H E).Vi (gi st) t/\SO K E t g):FnOk P w K mg base dr (k+1) f fd ps (ou K n FF):=
 LR F S hn hm hF fun N5 A outer s H E hr=>P2 N5 A outer s H E S.nd hr hr.units (GN hr) (G4 hr)
theorem gR {x qual:Str} {st:Oj} {fd:Nk} {N:List Str} {n m:Nat} {g:L10.eV} {FF:L10.g9} (F:O9 K x qual st f fd) (S:PK N ps (bi st)) (hn:ps.length=n) (hm:N.length=m) (hF:FF=L10.eF m g)
  (P2:∀(N5:L5) (A:MO) (outer:List Env) (s:Ma) (H:Hp) (E:XK),N.Nodup->Og k (A.deeper (M4 qual (bi st) s.heap.objs.size f N5))->(A.deeper (M4 qual (bi st) s.heap.objs.size f N5)).units+64<cLine->(A.deeper (M4 qual (bi st) s.heap.objs.size f N5)).units+1<cLine->(A.deeper (M4 qual (bi st) s.heap.objs.size f N5)).units+65<cLine->
   ∃t,RZ (pS dr P w K mg base N qual (bi st) f N5 A outer s H E).Vi (gi st) t/\L10.sO K E t g):FnOk P w K mg base dr (k+1) f fd ps (L10.fR K n FF):=
 L10.LS F S hn hm hF fun N5 A outer s H E hr=>P2 N5 A outer s H E S.nd hr hr.units (GN hr) (G4 hr)
theorem Kd {W:L8} {MY:Array L5} {nn:Nat} {ss:Array (Option L5)} {xs:List V} {ds:List D} (l:K.lookup W=some ⟨.type "tuple",none,.seq MY nn,ss⟩) (hs:MY.size<=Mq) (hv:Vals xs MY.toList) (hd:∀O H,Nz O K H xs ds):∀O H,DV O K H (.ref W) (.tuple ds):=fun O H=>
 .tup (xs:=xs) ⟨.inr ⟨_,_,_,l,⟨rfl,rfl⟩,rfl,hs,hv⟩,fun _=> .inr ⟨_,_,_,l,⟨rfl,rfl⟩,rfl,hs,hv⟩⟩ (hd O H)
end
end L3
namespace M02
inductive Vd (E:List (Nat×Nat)) (r0:Nat):Bool->Nat->Prop
 |base:Vd E r0 true r0
 |col {r c:Nat}:Vd E r0 true r->(r,c)∈E->Vd E r0 false c
 |row {r c:Nat}:Vd E r0 false c->(r,c)∈E->Vd E r0 true r
def has (n c:Nat):Prop:=n.testBit c=true
structure Nums (E:List (Nat×Nat)) (R C:Nat) (ns:List Nat):Prop where
 len:ns.length=R
 lt:∀n∈ns,n<2^C
 own:∀r c,(r,c)∈E->has (ns.getD r 0) c
 snd:∀r,r<R->∀c,has (ns.getD r 0) c->Vd E r false c
abbrev NF:=List Nat×List Nat
structure aeN (E:List (Nat×Nat)) (r0:Nat) (s:NF):Prop where
 a:r0∈s.1
 n:∀x∈s.1,Vd E r0 true x
 f:∀x∈s.2,Vd E r0 false x
 d:s.2.Nodup
 d1:s.1.Nodup
structure adf (R C:Nat) (ss:List (Nat×Nat)):Prop where
 r1:1<=R
 r6:R<=6
 c1:1<=C
 c6:C<=6
 l1:1<=ss.length
 l12:ss.length<=12
 nd:ss.Nodup
 inn:∀s∈ss,s.1<R/\s.2<C
end M02
namespace STP
open PySem L2 L3
noncomputable def lP:FS:=(bz (jW (ar (au iz (au aG (aa 0) (pC (.int 2))) (pC .none))) (dG (au aG (aa 0) (pC (.int 2)))) dH)
 (dG (eN (L10.B4 0) (ae (dk 2 [] (gX (au aG (aa 0) (pC (.int 0)))) (gT 2 (JH (gN 0) (JH (gN 1) KP))) (ar (au bQ (au aG (aa 1) (pC (.int 0))) (pC (.str "layer")))) (au aG (aa 1) (pC (.int 1)))) ao))))
noncomputable def cU:FN:=gb 1 lP
noncomputable def j7:FS:=(bz (de (au aG (au aG (au aG (aa 0) (pC (.int 1))) (aa 1)) (aa 2)) (gN 3))
 (bz (jW (ar (au bQ (au aG (aa 3) (pC (.int 0))) (pC (.str "below")))) (dG (au aG (au aG (au aG (aa 0) (pC (.int 1))) (pC (.int 0))) (aa 2))) dH)
 (dG (aa 3))))
noncomputable def iQ:FN:=gb 4 j7
noncomputable def je:FS:=(dG (dk 1 [1] (gX (au aG (aa 0) (pC (.int 2)))) (gN 0) (ar (eN Dh (ae (dk 1 [0] (gX (aa 1)) (gN 0) fw (au pY (aa 0) (au aG (aa 1) (pC (.int 0))))) ao))) (aa 0)))
noncomputable def bI:FN:=gb 2 je
noncomputable def jH:FS:=(bz (md (gX (au aG (aa 0) (pC (.int 2)))) (gN 2) (jW (ar (au bQ (eN oZ (ae (au aG (aa 2) (pC (.int 0))) ao)) (eN L9.gh (ae (aa 1) ao)))) (dG (au cS (cY (ae (aW (ae (pC (.str "letter")) (ae (au aG (aa 2) (pC (.int 1))) ao))) ao)) (au eI (cY (ae (pC (.tuple [(.str "none")])) ao)) (au oU (eN dN (ae (aa 1) ao)) (pC (.int 1)))))) dH))
 (dG (dk 1 [0] (gX (aa 1)) (gN 0) fw (au aG (au aG (au aG (aa 1) (pC (.int 1))) (pC (.int 0))) (aa 0)))))
noncomputable def fX:FN:=gb 3 jH
open L10
noncomputable def jV:eV:=(aL (Pl "Hand" "bed" (aq 0) (af (aa 1)))
 (aL (Pl "Hand" "acts" (aq 0) (vC (af (au aG (aa 2) (pC (.int 0))))))
 (aL (Pl "Hand" "waiting" (aq 0) (af (au aG (aa 2) (pC (.int 1)))))
 (aL (Pl "Hand" "once" (aq 0) (af (au aG (aa 2) (pC (.int 2)))))
 (Pl "Hand" "sent" (aq 0) (af (cY ao)))))))
noncomputable def dX:g9:=eF 3 jV
noncomputable def lA:eV:=(hV (jZ (am (Bu iG (am (ni 1 [0] (jU (mP (cx "Hand" "acts" (aq 0)))) (fO 0) lD (jZ (am (af (aa 0)) (am (bu (cx "Hand" "acts" (aq 1)) (af (aa 0))) aJ)))) aJ)) (am (cx "Hand" "waiting" (aq 0)) (am (cx "Hand" "once" (aq 0)) aJ)))))
noncomputable def bJ:g9:=eF 1 lA
noncomputable def iJ:eV:=(hV (xW (iA iz (cx "Hand" "waiting" (aq 0)) (af (pC .none))) (iA pY (af (aa 1)) (jk (cx "Hand" "waiting" (aq 0)) (af (pC (.int 0)))))))
noncomputable def cB:g9:=eF 2 iJ
noncomputable def kB:eV:=(hV (iA pY (af (aa 1)) (mK (cx "Hand" "acts" (aq 0)))))
noncomputable def cc:g9:=eF 2 kB
noncomputable def kb:eV:=(aL (bR (g6 (aM (ar (au bQ (au aG (aa 2) (pC (.int 0))) (pC (.str "letter"))))) (oQ (aY (bc "Hand" "has_act" cc 2 (aq 0) (am (af (aa 2)) aJ))))) (bx (rV (cx "Hand" "sent" (aq 0)) (af (aW (ae (au aG (aa 2) (pC (.int 1))) (ae (pC (.str "down")) ao)))))) cw)
 (eS (cx "Hand" "acts" (aq 0)) (af (aa 1)) (af (aa 2))))
noncomputable def bB:g9:=eF 3 kb
noncomputable def nT:eV:=(aL (dR (sS (cx "Hand" "acts" (aq 0)) (af (aa 1))) (fO 2))
 (bR (g6 (aM (ar (au bQ (au aG (aa 2) (pC (.int 0))) (pC (.str "letter"))))) (oQ (aY (bc "Hand" "has_act" cc 2 (aq 0) (am (af (aa 2)) aJ))))) (bx (rV (cx "Hand" "sent" (aq 0)) (af (aW (ae (au aG (aa 2) (pC (.int 1))) (ae (pC (.str "up")) ao)))))) cw))
noncomputable def jl:g9:=eF 3 nT
noncomputable def lu:eV:=(aL (dR (jk (cx "Hand" "waiting" (aq 0)) (af (pC (.int 0)))) (fO 1))
 (aL (dR (jk (cx "Hand" "waiting" (aq 0)) (af (pC (.int 2)))) (fO 2))
 (aL (Pl "Hand" "waiting" (aq 0) (af (pC .none)))
 (aL (dR (wo (HN (aM (ar (au bQ (aa 2) (pC (.tuple [(.str "chord")]))))) (i8 fX 2 (am (cx "Hand" "bed" (aq 0)) (am (af (aa 1)) aJ))) (af (cY (ae (aW (ae (pC (.str "layer")) (ae (au aG (aa 2) (pC (.int 2))) ao))) ao))))) (fO 3))
 (vH (oC (A8 (ae (aa 1) (ae (aa 3) ao)))) (EW 2 (jm (fO 4) (jm (fO 5) vj))) (bx (bc "Hand" "come" bB 3 (aq 0) (am (af (aa 4)) (am (af (aa 5)) aJ)))))))))
noncomputable def cy:g9:=eF 6 lu
noncomputable def fN:eV:=(aL (bR (wX (aY (iA nF (cx "Hand" "waiting" (aq 0)) (af (pC .none)))) (wX (aY (iA oN (jk (cx "Hand" "waiting" (aq 0)) (af (pC (.int 2)))) (af (pC (.tuple [(.str "chord")]))))) (aY (iA oN (i8 cU 1 (am (bc "Hand" "stands" bJ 1 (aq 0) aJ) aJ)) (af (pC (.int 0))))))) (hV (af (pC (.bool false)))) cw)
 (hV (iA oN (i8 bI 2 (am (cx "Hand" "bed" (aq 0)) (am (iA cS (jk (cx "Hand" "waiting" (aq 0)) (af (pC (.int 0)))) (af (aW (ae (aa 1) ao)))) aJ))) (af (cY ao)))))
noncomputable def dI:g9:=eF 2 fN
noncomputable def g7:eV:=(aL (dR (iA cS (jk (cx "Hand" "waiting" (aq 0)) (af (pC (.int 0)))) (af (aW (ae (aa 1) ao)))) (fO 2))
 (aL (Pl "Hand" "waiting" (aq 0) (jZ (am (af (aa 2)) (am (jk (cx "Hand" "waiting" (aq 0)) (af (pC (.int 1)))) (am (af (pC (.tuple [(.str "chord")]))) aJ)))))
 (bR (aY (iA bQ (ni 1 [] (jU (i8 bI 2 (am (cx "Hand" "bed" (aq 0)) (am (af (aa 2)) aJ)))) (fO 0) lD (af (eN dN (ae (au aG (aa 0) (pC (.int 0))) ao)))) (af (cY (ae (eN dN (ae (aa 2) ao)) ao))))) (bx (bc "Hand" "decide" cy 1 (aq 0) aJ)) cw)))
noncomputable def dB:g9:=eF 3 g7
noncomputable def jz:eV:=(aL (dR (i8 cU 1 (am (bc "Hand" "stands" bJ 1 (aq 0) aJ) aJ)) (fO 2))
 (aL (dR (i8 iQ 3 (am (cx "Hand" "bed" (aq 0)) (am (af (aa 2)) (am (af (aa 1)) aJ)))) (fO 3))
 (aL (dR (af (au aG (aa 3) (pC (.int 0)))) (fO 4))
 (aL (bR (aM (ar (au lr (aa 4) (aW (ae (pC (.str "layer")) (ae (pC (.str "once")) ao)))))) (Pl "Hand" "once" (aq 0) (af (pC .none))) cw)
 (bR (aM (ar (au bQ (aa 4) (pC (.str "tap"))))) (Pl "Hand" "waiting" (aq 0) (af (aW (ae (aW (ae (aa 1) ao)) (ae (pC (.int 0)) (ae (aa 3) ao)))))) (bR (g6 (aM (ar (au bQ (aa 4) (pC (.str "letter"))))) (g6 (aM (ar (au bQ (aa 2) (pC (.int 0))))) (aY (iA oN (i8 bI 2 (am (cx "Hand" "bed" (aq 0)) (am (af (aW (ae (aa 1) ao))) aJ))) (af (cY ao)))))) (Pl "Hand" "waiting" (aq 0) (af (aW (ae (aW (ae (aa 1) ao)) (ae (pC (.int 0)) (ae (pC (.tuple [(.str "chord")])) ao)))))) (bR (aM (ar (au bQ (aa 4) (pC (.str "once"))))) (aL (bx (bc "Hand" "come" bB 3 (aq 0) (am (af (aa 1)) (am (af (pC (.tuple [(.str "none")]))) aJ))))
 (Pl "Hand" "once" (aq 0) (af (au aG (aa 3) (pC (.int 1)))))) (bx (bc "Hand" "come" bB 3 (aq 0) (am (af (aa 1)) (am (af (aa 3)) aJ)))))))))))
noncomputable def fU:g9:=eF 5 jz
noncomputable def jS:eV:=(aL (bR (wX (aY (oW false (af (aa 1)) (cx "Hand" "acts" (aq 0)))) (aY (bc "Hand" "is_waiting" cB 2 (aq 0) (am (af (aa 1)) aJ)))) oo cw)
 (aL (bR (aY (bc "Hand" "makes_chord" dI 2 (aq 0) (am (af (aa 1)) aJ))) (aL (bx (bc "Hand" "put_to_chord" dB 2 (aq 0) (am (af (aa 1)) aJ)))
 oo) cw)
 (aL (bR (aY (iA iz (cx "Hand" "waiting" (aq 0)) (af (pC .none)))) (bx (bc "Hand" "decide" cy 1 (aq 0) aJ)) cw)
 (bx (bc "Hand" "begin" fU 2 (aq 0) (am (af (aa 1)) aJ))))))
noncomputable def ik:g9:=eF 2 jS
noncomputable def jc:eV:=(aL (dR (jk (cx "Hand" "waiting" (aq 0)) (af (pC (.int 2)))) (fO 2))
 (bR (aM (ar (au bQ (aa 2) (pC (.tuple [(.str "chord")]))))) (bx (bc "Hand" "decide" cy 1 (aq 0) aJ)) (aL (Pl "Hand" "waiting" (aq 0) (af (pC .none)))
 (bx (bc "Hand" "come" bB 3 (aq 0) (am (af (aa 1)) (am (af (aW (ae (pC (.str "letter")) (ae (au aG (aa 2) (pC (.int 1))) ao)))) aJ)))))))
noncomputable def gH:g9:=eF 3 jc
noncomputable def km:eV:=(aL (bR (aY (bc "Hand" "is_waiting" cB 2 (aq 0) (am (af (aa 1)) aJ))) (bx (bc "Hand" "settle" gH 2 (aq 0) (am (af (aa 1)) aJ))) cw)
 (bR (aY (oW false (af (aa 1)) (cx "Hand" "acts" (aq 0)))) (bx (bc "Hand" "go" jl 2 (aq 0) (am (af (aa 1)) aJ))) cw))
noncomputable def iR:g9:=eF 2 km
noncomputable def iq:eV:=(aL (bR (aY (iA nF (cx "Hand" "waiting" (aq 0)) (af (pC .none)))) oo cw)
 (aL (dR (iA cS (jk (cx "Hand" "waiting" (aq 0)) (af (pC (.int 1)))) (af (pC (.int 1)))) (fO 1))
 (aL (Pl "Hand" "waiting" (aq 0) (jZ (am (jk (cx "Hand" "waiting" (aq 0)) (af (pC (.int 0)))) (am (af (aa 1)) (am (jk (cx "Hand" "waiting" (aq 0)) (af (pC (.int 2)))) aJ)))))
 (bR (aY (iA bQ (af (aa 1)) (jk (cx "Hand" "bed" (aq 0)) (af (pC (.int 3)))))) (bx (bc "Hand" "decide" cy 1 (aq 0) aJ)) cw))))
noncomputable def gn:g9:=eF 2 iq
noncomputable def xA:eV:=(aL (dR (tj "Hand" dX 3 (am (af (aa 0)) (am (af (aa 1)) aJ))) (fO 3))
 (aL (bR (aM (ar (au bQ (au aG (aa 2) (pC (.int 0))) (pC (.str "turn"))))) (bx (bc "Hand" "wait_on" gn 1 (aq 3) aJ)) (bR (aM (ar (au bQ (au aG (aa 2) (pC (.int 0))) (pC (.str "down"))))) (bx (bc "Hand" "press" ik 2 (aq 3) (am (af (au aG (aa 2) (pC (.int 1)))) aJ))) (bx (bc "Hand" "lift" iR 2 (aq 3) (am (af (au aG (aa 2) (pC (.int 1)))) aJ)))))
 (hV (jZ (am (cx "Hand" "sent" (aq 3)) (am (bc "Hand" "stands" bJ 1 (aq 3) aJ) aJ))))))
noncomputable def oi:g9:=eF 4 xA
end STP
local macro_rules| `(tactic|walk_at "px")=> `(tactic|simp only[L3.gb,L3.bz,L3.jW,L3.de,L3.dG,L3.abC,L3.gO,L3.dH,L3.md,L3.aay,L3.abD,L3.Zj,L3.ZE,L3.aaH,L3.YB,L3.YK,L3.au,L3.pUn,L3.xV,L3.BM,L3.BF,L3.pC,L3.eN,L3.eh,L3.aW,L3.cY,L3.ar,L3.aer,L3.pOr,L3.adP,L3.Ii,L3.JX,L3.sN,L3.aby,
 L3.ig,L3.qOr,L3.yh,L3.fw,L3.ao,L3.ae,L3.lJ,L3.gX,L3.abE,L3.BW,L3.abH,L3.abT,L3.gT,L3.KP,L3.JH,L3.gIx,L3.lL,L3.ab5,L3.dk,L3.W9,L3.V6,L3.ac9,L3.AD,
 L3.aaS,L3.aaT,L3.Zc,L3.aaK,L3.Zm,L3.aar,L3.Zp,L3.ZU,L3.ZI,L3.aaQ,L3.XU,L3.YM,L3.Yn,L3.X2,L3.YV,L3.Yy,L3.W4,L3.W8,L3.WO,L3.vP,L3.zL,L3.YJ,L3.WQ,L3.Xb,L3.nW,L3.wJ,L3.abN,L3.abF,L3.Res.bind_ok,L3.aU,L3.df,L3.X8,L3.X9,L3.WB,L3.j9,L3.Wl,
 L3.gj,L3.kF,L3.iG,L3.oZ,L3.negD,L3.uZ,L3.GP,L3.oH,L3.DH,L3.gZ,L3.xS,L3.jG,L3.nh,L3.UT,L3.Uz,
 Ms,N9,Qf,Od,ME,Na,List.replicate_zero,Mm,NH,SR,Qe,T9,Ua,Nat.reduceSub,Nat.reduceAdd,Nat.reduceLeDiff,Nat.reduceLT,Tb,Xn,MN,reduceIte,Option.map_some,Option.map_none,Bool.not_true,Bool.not_false,Q7,if_true,if_false,ite_true,ite_false])
local macro_rules| `(tactic|walk_at "nm")=> `(tactic|first|((simp only[T9,Ua]);rfl)|rfl)
local macro_rules| `(tactic|walk_at "evf")=> `(tactic|first|with_reducible assumption|with_reducible exact L3.gZ _ _|with_reducible exact L3.xS _ _|with_reducible exact L3.uZ _ _|with_reducible exact L3.GP _ _|with_reducible exact L3.oH _ _|with_reducible exact L3.DH _ _|with_reducible exact L3.DI _ _|with_reducible exact L3.aam _ _|with_reducible exact L3.jG _ _|with_reducible exact L3.nh _ _|with_reducible exact L3.UT _ _|with_reducible exact L3.Uz _ _|with_reducible exact L3.Yv _ _|with_reducible exact L3.YL _ _|with_reducible exact L3.ma _ _|with_reducible exact L3.Yx _ _|with_reducible exact L3.zj _ _|with_reducible exact L3.Yh _ _|with_reducible exact L3.nk _ _|with_reducible exact L3.Xr _ _|with_reducible exact L3.Xp _ _|with_reducible exact L3.YC _ _|with_reducible exact L3.aav _ _|with_reducible exact L3.ij|with_reducible exact L3.iE|with_reducible exact L3.ld|with_reducible exact L3.HQ|with_reducible exact L3.Kh|with_reducible exact L3.JV|with_reducible exact L3.gj _|with_reducible exact L3.kF _|(with_reducible rfl))
local macro_rules| `(tactic|walk_at "ev")=> `(tactic|first
 |with_reducible exact L3.az
 |((with_reducible apply L3.ah);rfl)
 |((with_reducible apply L3.gW);rfl)
 |with_reducible exact L3.aA
 |with_reducible exact L3.XW
 |((with_reducible apply L3.aw);(·walk_at "ev");(·walk_at "ev");(·rfl);(·rfl);(·walk_at "evf"))
 |((with_reducible apply L3.abi);(·walk_at "ev");(·rfl);(·rfl))
 |((with_reducible apply L3.aj);(·walk_at "ev");(·walk_at "ev"))
 |((with_reducible apply L3.aZ);(·walk_at "ev");(·rfl))
 |((with_reducible apply L3.cG);(·walk_at "ev");(·rfl);(·first|walk_at "evf"|rfl))
 |((with_reducible apply L3.fJ);(·walk_at "ev");(·rfl);(·rfl);(·with_reducible assumption))
 |((with_reducible apply L3.eX);(·walk_at "ev");(·rfl);(·exact Mc rfl))
 |((with_reducible apply L3.i9);(·walk_at "ev");(·rfl);(·exact Mc rfl))
 |((with_reducible apply L3.Z7);(·walk_at "ev");(·rfl);(·rfl))
 |((with_reducible apply L3.wb);(·walk_at "ev");(·rfl))
 |((with_reducible apply L3.G3);(·walk_at "ev");(·walk_at "ev");(·walk_at "ev");(·rfl);(·first|with_reducible assumption|rfl))
 |((with_reducible apply L3.E8);(·walk_at "ev"))
 |((with_reducible apply L3.jR);(·walk_at "ev");(·intro _;walk_at "ev"))
 |((with_reducible apply L3.aaJ);(·walk_at "ev");(·intro _;walk_at "ev"))
 |((with_reducible apply L3.Yw);(·walk_at "ev"))
 |((with_reducible apply L3.Vj);(·walk_at "ev");(·intro _;walk_at "ev"))
 |((with_reducible apply L3.WA);(·walk_at "ev");(·intro _;walk_at "ev"))
 |((with_reducible apply L3.my);(·walk_at "ev");(·rfl);(·first|with_reducible assumption|rfl))
 |((with_reducible apply L3.fZ);(·walk_at "ev");(·rfl);(·rfl))
 |((with_reducible apply L3.Yd);(·walk_at "ev");(·rfl);(·rfl))
 |((with_reducible apply L3.kd);(·rfl);(·walk_at "ev");(·rfl);(·rfl);(·first|with_reducible assumption|(simp only[NH,Mm,L3.cJ] at*;omega));(·walk_at "nm"))
 |((with_reducible apply L3.ZV);(·rfl);(·walk_at "ev");(·rfl);(·rfl);(·with_reducible assumption);(·with_reducible assumption);(·with_reducible assumption);(·walk_at "nm"))
 |((with_reducible apply L3.ra);(·walk_at "ev");(·rfl);(·walk_at "nm"))
 |((with_reducible apply L3.tH);(·walk_at "ev"))
 |((with_reducible apply L3.uh);(·walk_at "ev");(·rfl)))
local macro_rules| `(tactic|walk_at "evb")=> `(tactic|first
 |((with_reducible apply L3.ZN);(·walk_at "ev");(·walk_at "ev");(·rfl);(·rfl);(·walk_at "evf"))
 |((with_reducible apply L3.Yt);(·walk_at "ev");(·rfl);(·rfl);(·with_reducible assumption))
 |((with_reducible apply L3.aat);(·walk_at "ev");(·rfl);(·first|walk_at "evf"|rfl))
 |walk_at "ev")
local macro_rules| `(tactic|walk_at "ev")=> `(tactic|first
 |with_reducible assumption
 |((with_reducible apply L3.Vj);(·walk_at "ev");(·intro _;walk_at "evb"))
 |((with_reducible apply L3.WA);(·walk_at "ev");(·intro _;walk_at "evb"))
 |((with_reducible apply L3.CJ);(·walk_at "ev");(·walk_at "ev");(·walk_at "ev");(·rfl);(·rfl);(·rfl);(·walk_at "evf");(·intro _;walk_at "evf"))
 |((with_reducible apply L3.zI);(·walk_at "ev");(·rfl);(·rfl);(·rfl)))
local macro_rules| `(tactic|walk_at "go")=> `(tactic|first
 |((with_reducible apply L3.bT);(·walk_at "ev");(·rfl);(·walk_at "nm");try walk_at "go")
 |((with_reducible apply L3.t6);(·walk_at "ev");try walk_at "go")
 |((with_reducible apply L3.aaP);try walk_at "go")
 |((with_reducible apply L3.dC);try walk_at "go")
 |((with_reducible apply L3.fT);(·walk_at "ev");(·rfl))
 |((with_reducible apply L3.iO);(·walk_at "ev"))
 |((with_reducible apply L3.aao);(·walk_at "ev");(·rfl);(·walk_at "nm"))
 |((with_reducible apply L3.k6);(·walk_at "ev"))
 |((with_reducible apply L3.eZ);(·walk_at "ev");(·rfl))
 |((with_reducible apply L3.wH);(·walk_at "ev"))
 |(with_reducible apply L3.yF))
local macro_rules| `(tactic|walk_at "evp")=> `(tactic|((apply Eq.trans);(·walk_at "ev");(·rfl)))
local macro_rules| `(tactic|walk_at "sv")=> `(tactic|first
 |with_reducible assumption
 |((with_reducible apply L10.bj);rfl)
 |((with_reducible apply STP.ny);rfl)
 |((with_reducible apply STP.hU);rfl)
 |((with_reducible apply STP.cr);rfl)
 |((with_reducible apply STP.zV);rfl)
 |((with_reducible apply STP.uP);rfl)
 |with_reducible exact L10.aC
 |((with_reducible apply L10.ai);(·walk_at "sv");(·walk_at "sv"))
 |((with_reducible apply L10.ag);walk_at "ev")
 |((with_reducible apply L10.aQ);walk_at "ev")
 |((with_reducible apply L10.cW);(·walk_at "sv");(·walk_at "sv");(·walk_at "evf"))
 |((with_reducible apply L10.cg);(·walk_at "sv");(·walk_at "sv");(·(with_reducible apply L10.bG);walk_at "evf"))
 |((with_reducible apply L10.aE);walk_at "sv")
 |((with_reducible apply L10.kP);walk_at "sv"))
namespace STP
open PySem L2 L3
noncomputable def dh (c:Nat):Str:=⟨#[97+c]⟩
inductive Mn where
 |Mr (c:Nat)
 |Nq (n:Int)
 |Qw (c:Nat) (n:Int)
 |once (n:Int)
 |none
 |below
 deriving DecidableEq
noncomputable def mD:Mn->D
 | .Mr c=> .tuple [.str "letter",.str (dh c)]
 | .Nq n=> .tuple [.str "layer",.int n]
 | .Qw c n=> .tuple [.str "tap",.str (dh c),.int n]
 | .once n=> .tuple [.str "once",.int n]
 | .none=> .tuple [.str "none"]
 | .below=> .tuple [.str "below"]
def VM (L nL:Int):Mn->Prop
 | .Mr c=>c<26
 | .Nq n=>1<=n/\n<nL
 | .Qw c n=>c<26/\1<=n/\n<nL
 | .once n=>1<=n/\n<nL
 | .none=>True
 | .below=>L≠0
noncomputable def Mn.UH:Mn->Bool
 | .Mr _=>true
 |_=>false
structure Bd where
 n:Int
 ls:List (List Mn)
 cs:List (List Nat×Nat)
 wt:Int
noncomputable def cP (l:List Mn):D:= .tuple (l.map mD)
noncomputable def cF (c:List Nat×Nat):D:= .tuple [.tuple (aD c.1),.str (dh c.2)]
noncomputable def bD (b:Bd):D:= .tuple [.int b.n,.tuple (b.ls.map cP),.tuple (b.cs.map cF),.int b.wt]
def VL (n nL:Int) (ls:List (List Mn)):Prop:=∀(i:Nat) l,ls[i]? =some l->(l.length:Int)=n/\∀m∈l,VM i nL m
noncomputable def nt (l0:List Mn) (k:Nat):Bool:=(l0[k]?.map Mn.UH).getD false
def VC (l0:List Mn) (c:List Nat×Nat):Prop:=2<=c.1.length/\c.1.Pairwise (·<·)/\(∀k∈c.1,nt l0 k=true)/\c.2<26
structure VB (b:Bd):Prop where
 n1:1<=b.n
 n5:b.n<=5
 l1:1<=b.ls.length
 l3:b.ls.length<=3
 vl:VL b.n b.ls.length b.ls
 c4:b.cs.length<=4
 vc:∀c∈b.cs,VC (b.ls.headD []) c
 cu:b.cs.Pairwise fun a c=>a.1≠c.1
 w1:1<=b.wt
 w4:b.wt<=4
noncomputable def wn:Mn->Nat
 | .Mr _=>0
 | .Nq _=>1
 | .Qw _ _=>2
 | .once _=>3
 | .none=>4
 | .below=>5
noncomputable def ws:Nat->Str
 |0=> "letter"
 |1=> "layer"
 |2=> "tap"
 |3=> "once"
 |4=> "none"
 |_=> "below"
noncomputable def wd (m:Mn):Str:=ws (wn m)
theorem mr (m:Mn):wn m<6:=by cases m<;>exact Mc rfl
theorem kl (m:Mn):aG (mD m) (.int 0)=some (.fz (.str (wd m))):=by cases m<;>exact ij
theorem Dl (m:Mn):Mb.strOk (wd m)=true:=(by decide+kernel:∀i,i<6->Mb.strOk (ws i)=true) _ (mr m)
theorem p7:∀i,i<6->∀j,j<6->(ws i==ws j)=decide (i=j):=by decide+kernel
theorem wz (m:Mn) (j:Nat) (hj:j<6):bQ (.str (wd m)) (.str (ws j))=some (.fz (.bool (decide (wn m=j)))):=by rw[K7 (Dl m) ((by decide+kernel:∀i,i<6->Mb.strOk (ws i)=true) j hj)];unfold wd;rw[p7 _ (mr m) _ hj]
noncomputable def Mn.V8:Mn->Bool
 | .below=>true
 |_=>false
noncomputable def Mn.RI:Mn->Bool
 | .Nq _=>true
 |_=>false
noncomputable def Mn.YH:Mn->Bool
 | .Qw _ _=>true
 |_=>false
noncomputable def Mn.Uj:Mn->Bool
 | .once _=>true
 |_=>false
theorem gA (m:Mn):bQ (.str (wd m)) (.str "letter")=some (.fz (.bool m.UH)):=(wz m 0 (by decide)).trans (by cases m<;>rfl)
theorem Da (m:Mn):bQ (.str (wd m)) (.str "below")=some (.fz (.bool m.V8)):=(wz m 5 (by decide)).trans (by cases m<;>rfl)
theorem vN (m:Mn):bQ (.str (wd m)) (.str "layer")=some (.fz (.bool m.RI)):=(wz m 1 (by decide)).trans (by cases m<;>rfl)
theorem xT (m:Mn):bQ (.str (wd m)) (.str "tap")=some (.fz (.bool m.YH)):=(wz m 2 (by decide)).trans (by cases m<;>rfl)
theorem zQ (m:Mn):bQ (.str (wd m)) (.str "once")=some (.fz (.bool m.Uj)):=(wz m 3 (by decide)).trans (by cases m<;>rfl)
theorem Kp (m:Mn):lr (.str (wd m)) (.tuple [.str "layer",.str "once"])=some (.fz (.bool (!(m.RI||m.Uj)))):=by
 have h:∀a:Str,Mb.strOk a=true->lr (.str a) (.tuple [.str "layer",.str "once"])=some (.fz (.bool (!(("layer":Str)==a||("once":Str)==a)))):=fun a ha=>by show(if(ju (.str a)&&(Mb.strOk "layer"&&(Mb.strOk "once"&&true)))=true then some (RV.fz (.bool (!(Mb.eqv (.str "layer") (.str a)||(Mb.eqv (.str "once") (.str a)||false))))) else none)=_;rw[show ju (.str a)=true by unfold ju;rw[show Mb.canLay0 (.str a)=true from ha];rfl,show Mb.strOk "layer"=true by decide+kernel,show Mb.strOk "once"=true by decide+kernel,SD];rfl
 rw[h _ (Dl m)];unfold wd;rw[show(("layer":Str)==ws (wn m))=_ from p7 1 (by decide) _ (mr m),show(("once":Str)==ws (wn m))=_ from p7 3 (by decide) _ (mr m)];cases m<;>rfl
def LB:Mn->Prop
 | .Mr c=>c<26
 | .Qw c _=>c<26
 |_=>True
theorem VM.lb {L nL:Int} {m:Mn} (h:VM L nL m):LB m:=by
 cases m with
 |Mr c=>exact h
 |Qw c n=>exact h.1
 |_=>trivial
theorem nR {c:Nat} (h:c<26):Mb.strOk (dh c)=true:=by show((#[97+c]:Array Nat).all fun c=>decide (c<0x110000))=true;simp;omega
theorem Fm {c d:Nat} (h:dh c=dh d):c=d:=by
 have:(97+c)=97+d:=by have h2:=congrArg (fun z:Str=>z.cps.toList) h;exact List.head_eq_of_cons_eq h2
 omega
theorem qI {m:Mn} (h:LB m):Mb.canLay0 (mD m)=true:=by
 cases m with
 |Mr c=>show(Mb.strOk "letter"&&(Mb.strOk (dh c)&&true))=true;rw[nR h,show Mb.strOk "letter"=true by decide+kernel];rfl
 |Nq n=>show(Mb.strOk "layer"&&(true&&true))=true;decide+kernel
 |Qw c n=>show(Mb.strOk "tap"&&(Mb.strOk (dh c)&&(true&&true)))=true;rw[nR h,show Mb.strOk "tap"=true by decide+kernel];rfl
 |once n=>show(Mb.strOk "once"&&(true&&true))=true;decide+kernel
 |none=>show(Mb.strOk "none"&&true)=true;decide+kernel
 |below=>show(Mb.strOk "below"&&true)=true;decide+kernel
theorem wG {m:Mn} (h:LB m):ju (mD m)=true:=by unfold ju;rw[qI h];cases m<;>rfl
noncomputable def mR:Mn->List D
 | .Mr c=>[.str (dh c)]
 | .Nq n=>[.int n]
 | .Qw c n=>[.str (dh c),.int n]
 | .once n=>[.int n]
 | .none=>[]
 | .below=>[]
theorem Hh (m:Mn):mD m= .tuple (.str (wd m)::mR m):=by cases m<;>rfl
theorem J6 (a b:Mn):decide (wd a=wd b)=decide (wn a=wn b):=by have h:=p7 _ (mr a) _ (mr b);unfold wd;rw[<-h];rfl
theorem yt (c d:Nat):decide (dh c=dh d)=decide (c=d):=decide_eq_decide.mpr ⟨Fm,fun h=>by rw[h]⟩
theorem HM (a b:Mn) (h:wn a=wn b):Mb.eqvAll (mR a) (mR b)=decide (a=b):=by
 cases a<;>cases b<;>first|cases h|skip
 ·show(decide (dh _=dh _)&&true)=_;rw[yt,P9];exact decide_eq_decide.mpr ⟨fun h=>by rw[h],fun h=>by cases h;rfl⟩
 ·show(decide (_=_)&&true)=_;rw[P9];exact decide_eq_decide.mpr ⟨fun h=>by rw[h],fun h=>by cases h;rfl⟩
 ·show(decide (dh _=dh _)&&(decide (_=_)&&true))=_;rw[yt,P9,<-Bool.decide_and];exact decide_eq_decide.mpr ⟨fun h=>by rw[h.1,h.2],fun h=>by cases h;exact⟨rfl,rfl⟩⟩
 ·show(decide (_=_)&&true)=_;rw[P9];exact decide_eq_decide.mpr ⟨fun h=>by rw[h],fun h=>by cases h;rfl⟩
 ·rfl
 ·rfl
theorem DF (a b:Mn):Mb.eqv (mD a) (mD b)=decide (a=b):=by
 rw[Hh,Hh];show(decide (wd a=wd b)&&Mb.eqvAll (mR a) (mR b))=_;rw[J6];by_cases h:wn a=wn b
 ·rw[decide_eq_true h,Q0,HM a b h]
 ·rw[decide_eq_false h,QC,decide_eq_false fun z=>h (by rw[z])]
theorem Ih {a b:Mn} (ha:LB a) (hb:LB b):bQ (mD a) (mD b)=some (.fz (.bool (decide (a=b)))):=by unfold bQ;rw[wG ha,qI hb,NX,if_pos rfl,DF]
theorem tW:∀{l:List Mn},(∀m∈l,LB m)->Mb.canLayAll0 (l.map mD)=true
 |[],_=>rfl
 |m::r,h=>by show(Mb.canLay0 (mD m)&&Mb.canLayAll0 (r.map mD))=true;rw[qI (h m Mp),tW fun x hx=>h x (Mj _ hx)];rfl
theorem uo (a:Mn):∀l:List Mn,((l.map mD).any fun e=>Mb.eqv e (mD a))=decide (a∈l)
 |[]=>rfl
 |m::r=>by rw[Ms,OL,uo a r,DF,<-Bool.decide_or];exact decide_eq_decide.mpr (by rw[MH];exact⟨fun h=>h.imp (fun z=>z.symm) id,fun h=>h.imp (fun z=>z.symm) id⟩)
theorem EF {a:Mn} {l:List Mn} (ha:LB a) (hl:∀m∈l,LB m):pY (mD a) (.list (l.map mD))=some (.fz (.bool (decide (a∈l)))):=by show(if(ju (mD a)&&Mb.canLayAll0 (l.map mD))=true then _ else _)=_;rw[wG ha,tW hl,NX,if_pos rfl,uo]
theorem Dq {a:Mn} {l:List Mn} (ha:LB a) (hl:∀m∈l,LB m):lr (mD a) (.list (l.map mD))=some (.fz (.bool (!decide (a∈l)))):=by show(if(ju (mD a)&&Mb.canLayAll0 (l.map mD))=true then _ else _)=_;rw[wG ha,tW hl,NX,if_pos rfl,uo]
theorem yN {α:Type} {gt:FG} {ft:FT} {fe:FE} (e:α->D) (g:α->Option D) (I:aK->Prop) (xs:List α) {ρ:aK} (h0:I ρ) (hl:xs.length<=1000) (hs:∀x∈xs,∀ρ,I ρ->∃ρ',j9 gt ft fe (e x) ρ= .ok (g x,ρ')/\I ρ'):jq (dm gt ft fe (xs.map e) ρ [])= .ok (xs.filterMap g):=by
 have h:∀(xs:List α) (acc:List D) (ρ:aK),I ρ->acc.length+xs.length<=1000->(∀x∈xs,∀ρ,I ρ->∃ρ',j9 gt ft fe (e x) ρ= .ok (g x,ρ')/\I ρ')->dm gt ft fe (xs.map e) ρ acc= .ok (acc++xs.filterMap g):=by
  intro xs
  induction xs with
  |nil=>intro acc ρ _ _ _;show Res.ok acc=_;rw[Ub,ME]
  |cons x r ih=>
   intro acc ρ hI hl hs;rw[Mm] at hl;obtain⟨ρ',h1,h2⟩:=hs x Mp ρ hI;rw[Ms,qG h1 (by omega)];have hle:(acc++(g x).toList).length+r.length<=1000:=by
    rw[Mg];cases g x with
    |none=>rw[Tx,NH];omega
    |some y=>rw[Option.toList_some,Pd];omega
   rw[ih _ ρ' h2 hle fun y hy=>hs y (Mj _ hy),Ni];cases q:g x with
   |none=>rw[Qa q];rfl
   |some y=>rw[Qb q];rfl
 rw[h xs [] ρ h0 (by simpa using hl) hs];rfl
theorem zU {d:D} {cp:aK} (hc:df cp=cp):df (some (PV.fz d)::cp)=some (.fz d)::cp:=by show yw _::df cp=_;rw[hc];rfl
theorem iS {α:Type} {ft:FT} {fe:FE} {cp:aK} (e f:α->D) (p:α->Bool) (xs:List α) (hl:xs.length<=1000) (hc:df cp=cp) (ht:∀x∈xs,ft (some (.fz (e x))::cp)= .ok (p x,some (.fz (e x))::cp)) (he:∀x∈xs,p x=true->fe (some (.fz (e x))::cp)= .ok (.fz (f x),some (.fz (e x))::cp)):jq (dm (gN 0) ft fe (xs.map e) (none::cp) [])= .ok ((xs.filter p).map f):=by
 rw[yN e (fun x=>if p x=true then some (f x) else none) (fun ρ=>∃o,ρ=o::cp) xs ⟨none,rfl⟩ hl ?_]
 ·congr 1
  clear hl ht he
  induction xs with
  |nil=>rfl
  |cons x r ih=>
   cases q:p x with
   |true=>rw[Qb (b:=f x) (by rw[if_pos q]),List.filter_cons_of_pos q,ih];rfl
   |false=>rw[Qa (by rw[if_neg (by rw[q];simp)]),List.filter_cons_of_neg (by rw[q];simp),ih]
 ·rintro x hx ρ ⟨o,rfl⟩
  cases q:p x with
  |true=>exact⟨_,E2 rfl ((ht x hx).trans (by rw[q])) (he x hx q) rfl (zU hc),_,rfl⟩
  |false=>exact⟨_,J8 rfl ((ht x hx).trans (by rw[q])) (zU hc),_,rfl⟩
theorem x0 {α:Type} (xs:List α):xs.filter (fun _=>true)=xs:=List.filter_eq_self.mpr fun _ _=>rfl
theorem mH {α:Type} {fe:FE} {cp:aK} (e f:α->D) (xs:List α) (hl:xs.length<=1000) (hc:df cp=cp) (he:∀x∈xs,fe (some (.fz (e x))::cp)= .ok (.fz (f x),some (.fz (e x))::cp)):jq (dm (gN 0) fw fe (xs.map e) (none::cp) [])= .ok (xs.map f):=by rw[iS e f (fun _=>true) xs hl hc (fun _ _=>rfl) fun x hx _=>he x hx,x0]
theorem rj {α:Type} (p:α->Bool):∀l:List α,o0 (l.map fun c=>Mb.bool (p c))=some (l.map p)
 |[]=>rfl
 |c::r=>by show(o0 (r.map fun c=>Mb.bool (p c))).map (p c::·)=_;rw[rj p r];rfl
theorem Dc {α:Type} (p:α->Bool) (l:List α):Dh [.list (l.map fun c=>Mb.bool (p c))]=some (.fz (.bool (l.all p))):=by show(o0 _).map (fun bs=>RV.fz (.bool (bs.all id)))=_;rw[rj];show some (RV.fz (.bool _))=_;rw[List.all_map];rfl
theorem kC:∀ns:List Int,kA (ns.map Mb.int)=some ns
 |[]=>rfl
 |n::r=>by show(kA (r.map Mb.int)).map (n::·)=_;rw[kC r];rfl
abbrev Ac:=Nat->Option Mn
abbrev Wq:=Option (List Nat×Int×Option (Nat×Int))
structure NS where
 ac:Ac
 wt:Wq
 oc:Option Int
noncomputable def ez (ac:Ac):List (Nat×Mn):=(Mz 5).filterMap fun k=>(ac k).map fun a=>(k,a)
noncomputable def pD (p:Nat×Mn):D:= .tuple [nd p.1,mD p.2]
noncomputable def iB:Option (Nat×Int)->D
 |some (c,n)=>mD (.Qw c n)
 |none=> .tuple [.str "chord"]
noncomputable def fE:Wq->D
 |some (ks,a,w)=> .tuple [.tuple (aD ks),.int a,iB w]
 |none=> .none
noncomputable def lm:Option Int->D
 |some o=> .int o
 |none=> .none
noncomputable def eW (s:NS):D:= .tuple [.tuple ((ez s.ac).map pD),fE s.wt,lm s.oc]
inductive Qc where
 |down (k:Nat)
 |up (k:Nat)
 |turn
noncomputable def dg:Qc->D
 | .down k=> .tuple [.str "down",nd k]
 | .up k=> .tuple [.str "up",nd k]
 | .turn=> .tuple [.str "turn",.int 0]
theorem jF {ac:Ac} {p:Nat×Mn}:p∈ez ac↔p.1<5/\ac p.1=some p.2:=by
 unfold ez;rw[N8];constructor
 ·rintro⟨k,h1,h2⟩
  cases q:ac k with
  |none=>rw[q] at h2;cases h2
  |some a=>rw[q] at h2;cases h2;exact⟨NO.mp h1,q⟩
 ·rintro⟨h1,h2⟩;exact⟨p.1,NO.mpr h1,by rw[h2];rfl⟩
theorem pi (ac:Ac):(ez ac).length<=5:=SG _ _
noncomputable def wQ:Nat×Mn->Option Int
 |(_,.Nq n)=>some n
 |_=>none
noncomputable def mC (ac:Ac):Int:=(((ez ac).filterMap wQ).foldl lj none).getD 0
noncomputable def ii (ac:Ac):Option Int->Int
 |some o=>o
 |none=>mC ac
theorem CW (ac:Ac):jq (dm (gT 2 (JH (gN 0) (JH (gN 1) KP))) (ar (au bQ (au aG (aa 1) (pC (.int 0))) (pC (.str "layer")))) (au aG (aa 1) (pC (.int 1))) ((ez ac).map pD) [none,none] [])= .ok (((ez ac).filterMap wQ).map .int):=by
 rw[yN pD (fun p=>(wQ p).map .int) (fun ρ=>∃o1 o2,ρ=[o1,o2]) (ez ac) ⟨none,none,rfl⟩ (MQ (pi ac) (by decide)) ?_,Uc];rintro⟨k,a⟩ _ ρ ⟨o1,o2,rfl⟩;have e1:=kl a;have e2:=vN a;have ft:ar (au bQ (au aG (aa 1) (pC (.int 0))) (pC (.str "layer"))) [some (.fz (nd k)),some (.fz (mD a))]= .ok (a.RI,[some (.fz (nd k)),some (.fz (mD a))]):=by walk_at "ev"
 refine⟨[some (.fz (nd k)),some (.fz (mD a))],?_,_,_,rfl⟩;cases a with
 |Nq n=>exact E2 (ρ1:=[some (.fz (nd k)),some (.fz (mD (.Nq n)))]) rfl ft (aw (rv:= .fz (.int n)) (ah rfl) az rfl rfl iE) rfl rfl
 |_=>exact J8 rfl ft rfl
theorem p8 (s:NS):cU [eW s]= .ok (.fz (.int (ii s.ac s.oc))):=by
 refine lH (ρ:=[some (.fz (eW s))]) rfl ?_;have e2:aG (eW s) (.int 2)=some (.fz (lm s.oc)):=ld;have e0:aG (eW s) (.int 0)=some (.fz (.tuple ((ez s.ac).map pD))):=ij;unfold lP;cases q:s.oc with
 |some o=>
  rw[q] at e2;have e3:iz (lm (some o)) .none=some (.fz (.bool true)):=rfl;walk_at "go"
  ·intro _;exact fT (by walk_at "ev") rfl rfl
  ·intro h;cases h
 |none=>
  rw[q] at e2;have e3:iz (lm none) .none=some (.fz (.bool false)):=rfl;walk_at "go"
  ·intro h;cases h
  ·intro _;refine dC (eZ (pv:= .fz (.int (mC s.ac))) (rv:= .fz (.int (mC s.ac))) (cG (rv:= .fz (.int (mC s.ac))) (ds:=[.list (((ez s.ac).filterMap wQ).map .int)]) (aj (cX (ds:=(ez s.ac).map pD) (cs:=[]) (by walk_at "ev") rfl (CW s.ac)) aA) rfl ?_) rfl rfl);show(kA _).map _=_;rw[kC];rfl
noncomputable def i4 (b:Bd) (L k:Nat):Mn:=((b.ls[L]?.getD [])[k]?).getD .none
noncomputable def look (b:Bd) (L:Int) (k:Nat):Mn:=if(i4 b L.toNat k).V8=true then i4 b 0 k else i4 b L.toNat k
section
variable {b:Bd} (vb:VB b)
include vb
theorem Hd {L k:Nat} (hL:L<b.ls.length) (hk:(k:Int)<b.n):∃l,b.ls[L]? =some l/\l[k]? =some (i4 b L k):=by
 have h1:=vb.vl L _ (Mf hL);have h2:k<(b.ls[L]).length:=by omega
 refine⟨_,Mf hL,?_⟩;unfold i4;rw[Mf hL,P7,Mf h2];rfl
theorem uj {L k:Nat} (hL:L<b.ls.length) (hk:(k:Int)<b.n):VM L b.ls.length (i4 b L k):=by obtain⟨l,h1,h2⟩:=Hd vb hL hk;exact(vb.vl L l h1).2 _ (Nb h2)
theorem sX {L k:Nat} (hL:L<b.ls.length) (hk:(k:Int)<b.n):∃d,aG (.tuple (b.ls.map cP)) (nd L)=some (.fz d)/\aG d (nd k)=some (.fz (mD (i4 b L k))):=by obtain⟨l,h1,h2⟩:=Hd vb hL hk;exact⟨cP l,Gj (by rw[Ml,h1];rfl),Gj (by rw[Ml,h2];rfl)⟩
theorem Eh {L:Int} {k:Nat} (h0:0<=L) (hL:L<b.ls.length) (hk:(k:Int)<b.n):iQ [bD b,.int L,nd k]= .ok (.fz (mD (look b L k))):=by
 obtain⟨n,rfl⟩:∃n:Nat,L=(n:Int):=⟨L.toNat,by omega⟩;have hl:=vb.l1;obtain⟨d,e2,e3⟩:=sX vb (L:=n) (k:=k) (by omega) hk;obtain⟨d',e4,e5⟩:=sX vb (L:=0) (k:=k) (by omega) hk;have e1:aG (bD b) (.int 1)=some (.fz (.tuple (b.ls.map cP))):=iE;have e6:=kl (i4 b n k);have e7:=Da (i4 b n k);have e8:aG (.tuple (b.ls.map cP)) (.int 0)=some (.fz d'):=e4;have hv:look b (n:Int) k=if(i4 b n k).V8=true then i4 b 0 k else i4 b n k:=rfl
 rw[hv];generalize i4 b n k=m at e3 e6 e7 hv;generalize i4 b 0 k=m0 at e5 hv;refine lH (ρ:=[some (.fz (bD b)),some (.fz (nd n)),some (.fz (nd k)),none]) rfl ?_;unfold j7;walk_at "go"
 ·intro q;rw[if_pos q];exact fT (by walk_at "ev") rfl rfl
 ·intro q;rw[if_neg (by rw[q];simp)];exact dC (eZ (pv:= .fz (mD m)) (by walk_at "ev") rfl rfl)
theorem pH {L:Int} {k:Nat} (h0:0<=L) (hL:L<b.ls.length) (hk:(k:Int)<b.n):VM L b.ls.length (look b L k)/\look b L k≠ .below:=by
 have hl:=vb.l1;have v0:=uj vb (L:=0) (k:=k) (by omega) hk;have v:=uj vb (L:=L.toNat) (k:=k) (by omega) hk;have n0:i4 b 0 k≠ .below:=fun z=>by rw[z] at v0;exact v0 rfl
 rw[OI h0] at v;unfold look;split
 ·refine⟨?_,n0⟩
  generalize i4 b 0 k=m at v0 n0;cases m with
  |below=>exact absurd rfl n0
  |_=>exact v0
 ·rename_i q;refine⟨v,fun z=> ?_⟩;rw[z] at q;exact q rfl
omit vb in
theorem C6 (ks:List Nat) (hk:ks.length<=5) (c:List Nat×Nat):ar (eN Dh (ae (dk 1 [0] (gX (aa 1)) (gN 0) fw (au pY (aa 0) (au aG (aa 1) (pC (.int 0))))) ao)) [some (.fz (cF c)),some (.fz (.tuple (aD ks)))]= .ok (ks.all fun k=>decide (k∈c.1),[some (.fz (cF c)),some (.fz (.tuple (aD ks)))]):=by
 have e:jq (dm (gN 0) fw (au pY (aa 0) (au aG (aa 1) (pC (.int 0)))) (aD ks) [none,some (.fz (cF c))] [])= .ok (ks.map fun k=> .bool (decide (k∈c.1))):=mH nd (fun k=> .bool (decide (k∈c.1))) ks (by omega) rfl fun k _=>by have e0:aG (cF c) (.int 0)=some (.fz (.tuple (aD c.1))):=ij;exact aw (rv:= .fz (.bool (decide (k∈c.1)))) (ah rfl) (by walk_at "ev") rfl rfl (nk _ _)
 exact aZ (cG (rv:= .fz (.bool (ks.all fun k=>decide (k∈c.1)))) (ds:=[.list (ks.map fun k=> .bool (decide (k∈c.1)))]) (aj (cX (cs:=[cF c]) (ds:=aD ks) (by walk_at "ev") rfl e) aA) rfl (Dc _ _)) rfl
noncomputable def ck (b:Bd) (ks:List Nat):List (List Nat×Nat):=b.cs.filter fun c=>ks.all fun k=>decide (k∈c.1)
theorem yT {ks:List Nat} (hk:ks.length<=5):bI [bD b,.tuple (aD ks)]= .ok (.ow ((ck b ks).map cF)):=by have e2:aG (bD b) (.int 2)=some (.fz (.tuple (b.cs.map cF))):=ld;have h4:=vb.c4;refine lH (ρ:=[some (.fz (bD b)),some (.fz (.tuple (aD ks)))]) rfl ?_;unfold je;exact eZ (pv:= .ow ((ck b ks).map cF)) (cX (cs:=[.tuple (aD ks)]) (ds:=b.cs.map cF) (by walk_at "ev") rfl (iS cF cF (fun c=>ks.all fun k=>decide (k∈c.1)) b.cs (by omega) rfl (fun c _=>C6 ks hk c) fun c _ _=>ah rfl)) rfl rfl
noncomputable def gr (ks:List Nat):List Nat:=(iZ (ks.map RH)).map S6
omit vb in
theorem pW (ks:List Nat):(gr ks).Perm ks:=by have h:=(fL (ks.map RH)).map S6;rw[MV] at h;exact h.trans (by rw[show(S6∘RH)=id from funext fun x=>rfl,List.map_id])
omit vb in
theorem EC (ks:List Nat):(iZ (ks.map RH)).map Mb.int=aD (gr ks):=by unfold gr aD;rw[MV];refine Pq fun x hx=> ?_;obtain⟨n,_,rfl⟩:=Nd.mp ((fL _).mem_iff.mp hx);rfl
omit vb in
theorem yc (ks:List Nat):(gr ks).Pairwise (·<=·):=by
 have h:∀l:List Int,l.Pairwise (·<=·)->(l.map S6).Pairwise (·<=·):=fun l h=>by rw[PZ];exact h.imp fun h=>by omega
 exact h _ (eU _)
omit vb in
theorem Gb (ks:List Nat):(gr ks).length=ks.length:=(pW ks).length_eq
omit vb in
theorem oA {ks:List Nat} (h:ks.length<64):L9.gh [.tuple (aD ks)]=some (.ow (aD (gr ks))):=by
 have e:aD ks=(ks.map RH).map Mb.int:=by rw[MV];rfl
 show(match kA (aD ks) with
  |some ns=>if ns.length<64 then some (RV.ow ((iZ ns).map .int)) else none
  |none=>none)=_
 rw[e,kC];dsimp only;rw[if_pos (by rw[L7];exact h),EC]
noncomputable def p9 (b:Bd) (ks:List Nat):List Mn:=match b.cs.find? fun c=>decide (c.1=gr ks) with
 |some c=> .Mr c.2::Me (ks.length - 1) .none
 |none=>ks.map (i4 b 0)
omit vb in
theorem zS (b:Bd) {ks:List Nat} (h:1<=ks.length):(p9 b ks).length=ks.length:=by
 unfold p9;split
 ·rw[Mm,MJ];omega
 ·rw[L7]
omit vb in
theorem JM (n:Nat) (d:D):(Me n [d]).flatten=Me n d:=by
 induction n with
 |zero=>rfl
 |succ n ih=>rw[Na,NW,ih];rfl
theorem HE {ks:List Nat} (h1:1<=ks.length) (h5:ks.length<=5) (hk:∀k∈ks,(k:Int)<b.n):fX [bD b,.tuple (aD ks)]= .ok (.ow ((p9 b ks).map mD)):=by
 have e2:aG (bD b) (.int 2)=some (.fz (.tuple (b.cs.map cF))):=ld;have e1:aG (bD b) (.int 1)=some (.fz (.tuple (b.ls.map cP))):=iE;have hl:=vb.l1;have ZR:=oA (ks:=ks) (by omega);refine lH (ρ:=[some (.fz (bD b)),some (.fz (.tuple (aD ks))),none]) rfl ?_;unfold jH;have rt:∀c:List Nat×Nat,(au cS (cY (ae (aW (ae (pC (.str "letter")) (ae (au aG (aa 2) (pC (.int 1))) ao))) ao)) (au eI (cY (ae (pC (.tuple [(.str "none")])) ao)) (au oU (eN dN (ae (aa 1) ao)) (pC (.int 1))))) [some (.fz (bD b)),some (.fz (.tuple (aD ks))),some (.fz (cF c))]= .ok (.ow ((Mn.Mr c.2::Me (ks.length - 1) Mn.none).map mD),[some (.fz (bD b)),some (.fz (.tuple (aD ks))),some (.fz (cF c))]):=fun c=>by
  have q1:aG (cF c) (.int 1)=some (.fz (.str (dh c.2))):=iE;have q2:eI (.list [.tuple [.str "none"]]) (.int (((aD ks).length:Int) - 1))=some (.ow (Me (ks.length - 1) (.tuple [.str "none"]))):=by rw[cJ,show((ks.length:Int) - 1)=((ks.length - 1:Nat):Int) by omega];exact(IX (by omega) (by decide)).trans (by rw[JM])
  have q3:cS (.list [mD (.Mr c.2)]) (.list (Me (ks.length - 1) (.tuple [.str "none"])))=some (.ow ((Mn.Mr c.2::Me (ks.length - 1) Mn.none).map mD)):=by show(if 1+(Me (ks.length - 1) (Mb.tuple [.str "none"])).length<=1000000 then some (RV.ow ([mD (.Mr c.2)]++Me (ks.length - 1) (Mb.tuple [.str "none"]))) else none)=_;rw[MJ,if_pos (by omega),Ms,List.map_replicate];rfl
  exact aw (dx:= .list [mD (.Mr c.2)]) (rv:= .ow ((Mn.Mr c.2::Me (ks.length - 1) Mn.none).map mD)) (by walk_at "ev") (aw (rv:= .ow (Me (ks.length - 1) (.tuple [.str "none"]))) (by walk_at "ev") (aw (rv:= .fz (.int (((aD ks).length:Int) - 1))) (by walk_at "ev") az rfl rfl (xS _ _)) rfl rfl q2) rfl rfl q3
 have loop:∀(cs:List (List Nat×Nat)) (o:Option PV),(∀c,cs.find? (fun c=>decide (c.1=gr ks))=some c->pf (gN 2) (jW (ar (au bQ (eN oZ (ae (au aG (aa 2) (pC (.int 0))) ao)) (eN L9.gh (ae (aa 1) ao)))) (dG (au cS (cY (ae (aW (ae (pC (.str "letter")) (ae (au aG (aa 2) (pC (.int 1))) ao))) ao)) (au eI (cY (ae (pC (.tuple [(.str "none")])) ao)) (au oU (eN dN (ae (aa 1) ao)) (pC (.int 1)))))) dH) (cs.map cF) [some (.fz (bD b)),some (.fz (.tuple (aD ks))),o]= .ok (.rt (.ow ((Mn.Mr c.2::Me (ks.length - 1) Mn.none).map mD))))/\
   (cs.find? (fun c=>decide (c.1=gr ks))=none->∃o',pf (gN 2) (jW (ar (au bQ (eN oZ (ae (au aG (aa 2) (pC (.int 0))) ao)) (eN L9.gh (ae (aa 1) ao)))) (dG (au cS (cY (ae (aW (ae (pC (.str "letter")) (ae (au aG (aa 2) (pC (.int 1))) ao))) ao)) (au eI (cY (ae (pC (.tuple [(.str "none")])) ao)) (au oU (eN dN (ae (aa 1) ao)) (pC (.int 1)))))) dH) (cs.map cF) [some (.fz (bD b)),some (.fz (.tuple (aD ks))),o]= .ok (.nx [some (.fz (bD b)),some (.fz (.tuple (aD ks))),o'])):=by
  intro cs
  induction cs with
  |nil=>exact fun o=>⟨fun c h=>(by cases h),fun _=>⟨o,rfl⟩⟩
  |cons c r ih=>
   intro o;have q0:aG (cF c) (.int 0)=some (.fz (.tuple (aD c.1))):=ij
   have Vq:ar (au bQ (eN oZ (ae (au aG (aa 2) (pC (.int 0))) ao)) (eN L9.gh (ae (aa 1) ao))) [some (.fz (bD b)),some (.fz (.tuple (aD ks))),some (.fz (cF c))]= .ok (decide (c.1=gr ks),[some (.fz (bD b)),some (.fz (.tuple (aD ks))),some (.fz (cF c))]):=
    aZ (aw (rv:= .fz (.bool (decide (c.1=gr ks)))) (cG (rv:= .ow (aD c.1)) (by walk_at "ev") rfl rfl) (cG (rv:= .ow (aD (gr ks))) (by walk_at "ev") rfl ZR) rfl rfl (ma _ _)) rfl
   rw[NG];by_cases h:c.1=gr ks
   ·rw[decide_eq_true h] at Vq⊢;refine⟨fun c' hc=> ?_,fun hc=>(by cases hc)⟩;cases hc;show((gN 2 (.fz (cF c)) [some (.fz (bD b)),some (.fz (.tuple (aD ks))),o]).bind fun ρ1=>_)=_;rw[BW,Res.bind_ok];show((jW _ _ _ [some (.fz (bD b)),some (.fz (.tuple (aD ks))),some (.fz (cF c))]).bind _)=_;rw[Lo Vq,uh (rt c) rfl];rfl
   ·rw[decide_eq_false h] at Vq⊢
    have st:pf (gN 2) (jW (ar (au bQ (eN oZ (ae (au aG (aa 2) (pC (.int 0))) ao)) (eN L9.gh (ae (aa 1) ao)))) (dG (au cS (cY (ae (aW (ae (pC (.str "letter")) (ae (au aG (aa 2) (pC (.int 1))) ao))) ao)) (au eI (cY (ae (pC (.tuple [(.str "none")])) ao)) (au oU (eN dN (ae (aa 1) ao)) (pC (.int 1)))))) dH) ((c::r).map cF) [some (.fz (bD b)),some (.fz (.tuple (aD ks))),o]=pf (gN 2) (jW (ar (au bQ (eN oZ (ae (au aG (aa 2) (pC (.int 0))) ao)) (eN L9.gh (ae (aa 1) ao)))) (dG (au cS (cY (ae (aW (ae (pC (.str "letter")) (ae (au aG (aa 2) (pC (.int 1))) ao))) ao)) (au eI (cY (ae (pC (.tuple [(.str "none")])) ao)) (au oU (eN dN (ae (aa 1) ao)) (pC (.int 1)))))) dH) (r.map cF) [some (.fz (bD b)),some (.fz (.tuple (aD ks))),some (.fz (cF c))]:=by show((gN 2 (.fz (cF c)) [some (.fz (bD b)),some (.fz (.tuple (aD ks))),o]).bind fun ρ1=>_)=_;rw[BW,Res.bind_ok];show((jW _ _ _ [some (.fz (bD b)),some (.fz (.tuple (aD ks))),some (.fz (cF c))]).bind _)=_;rw[K9 Vq];rfl
    rw[st];exact ih _
 obtain⟨l1,l2⟩:=loop b.cs none;have fo:gX (au aG (aa 0) (pC (.int 2))) [some (.fz (bD b)),some (.fz (.tuple (aD ks))),none]= .ok (b.cs.map cF,[some (.fz (bD b)),some (.fz (.tuple (aD ks))),none]):=by walk_at "ev"
 unfold p9;cases q:b.cs.find? fun c=>decide (c.1=gr ks) with
 |some c=>exact .eq (Dp ((xY fo).trans (l1 c q))) ⟨rfl⟩
 |none=>obtain⟨o',l2⟩:=l2 q;refine .eq (yi ((xY fo).trans l2)) ?_;refine eZ (pv:= .ow ((ks.map (i4 b 0)).map mD)) (cX (cs:=[bD b]) (ds:=aD ks) (by walk_at "ev") rfl ?_) rfl rfl;rw[MV];refine mH nd (mD∘i4 b 0) ks (by omega) rfl fun k WX=> ?_;obtain⟨d,q1,q2⟩:=sX vb (L:=0) (k:=k) (by omega) (hk k WX);have q1:aG (.tuple (b.ls.map cP)) (.int 0)=some (.fz d):=q1;exact aw (rv:= .fz (mD (i4 b 0 k))) (by walk_at "ev") (ah rfl) rfl rfl q2
end
end STP
namespace STP
open PySem L2 L3
open L10
noncomputable def iC (p:Nat×Mn):bt×SV:=(.inl (p.1:Int),.fz (mD p.2))
noncomputable def gU (ac:Ac) (k:Nat) (o:Option Mn):Ac:=fun j=>if j=k then o else ac j
theorem dW {ac:Ac} {k:Nat} {o:Option Mn}:gU ac k o k=o:=by unfold gU;rw[if_pos rfl]
theorem gx {ac:Ac} {k j:Nat} {o:Option Mn} (h:j≠k):gU ac k o j=ac j:=by unfold gU;rw[if_neg h]
theorem CY (ac:Ac):(ez ac).Pairwise fun p q=>p.1<q.1:=by
 unfold ez;refine Xo _ (fun a a' h p hp q hq=> ?_) (Qm (n:=5));cases e:ac a with
 |none=>rw[e] at hp;cases hp
 |some x=>
  cases e':ac a' with
  |none=>rw[e'] at hq;cases hq
  |some y=>rw[e] at hp;rw[e'] at hq;cases hp;cases hq;exact h
theorem qj (ac:Ac):((ez ac).map (·.1)).Nodup:=by rw[M5,PZ];exact(CY ac).imp fun h=>MD h
theorem yo {l:List (Nat×Mn)} (h:(l.map (·.1)).Nodup):l.Nodup:=by rw[M5,PZ] at h;exact h.imp fun h e=>h (by rw[e])
theorem rb {l:List (Nat×Mn)} {ac:Ac} (h:(l.map (·.1)).Nodup) (hm:∀p,p∈l↔p.1<5/\ac p.1=some p.2):l.Perm (ez ac):=
 (Se (yo h) (yo (qj ac))).mpr fun p=>(hm p).trans jF.symm
section
variable {ps:List (Nat×Mn)} {ac:Ac} (hp:ps.Perm (ez ac))
include hp
theorem io {p:Nat×Mn}:p∈ps↔p.1<5/\ac p.1=some p.2:=hp.mem_iff.trans jF
theorem B3:(ps.map (·.1)).Nodup:=(hp.map (·.1)).nodup_iff.mpr (qj ac)
theorem rJ:ps.length<=5:=by rw[hp.length_eq];exact pi ac
theorem ie {k:Nat} (hk:k<5):e9 (ps.map iC) (.inl (k:Int))=(ac k).map fun a=>SV.fz (mD a):=by
 unfold e9;cases q:(ps.map iC).find? fun kv=>decide (kv.1=(.inl (k:Int):bt)) with
 |none=>
  cases e:ac k with
  |none=>rfl
  |some a=>have:=Ud.mp q (iC (k,a)) (Nd.mpr ⟨(k,a),(io hp).mpr ⟨hk,e⟩,rfl⟩);exact absurd (decide_eq_true rfl) this
 |some kv=>
  obtain⟨p,h1,rfl⟩:=Nd.mp (PY q);have h2:=of_decide_eq_true (Va (p:=fun kv:bt×SV=>decide (kv.1=(.inl (k:Int):bt))) q);have h3:p.1=k:=by have:=Sum.inl.inj h2;omega
  rw[<-h3,((io hp).mp h1).2];rfl
theorem yy {k:Nat} {a:Mn} (hk:k<5):∃qs:List (Nat×Mn),cZ (ps.map iC) (.inl (k:Int)) (.fz (mD a))=qs.map iC/\qs.Perm (ez (gU ac k (some a))):=by
 unfold cZ;have ek:∀p:Nat×Mn,((iC p).1=(.inl (k:Int):bt))↔p.1=k:=fun p=>⟨fun h=>by have:=Sum.inl.inj h;omega,fun h=>by rw[<-h];rfl⟩;split
 ·rename_i h
  refine⟨ps.map fun p=>if p.1=k then(k,a) else p,?_,rb ?_ fun p=> ?_⟩
  ·rw[MV,MV]
   refine Pq fun p _=> ?_;show(if(iC p).1=(.inl (k:Int):bt) then((iC p).1,SV.fz (mD a)) else iC p)=iC (if p.1=k then(k,a) else p);by_cases e:p.1=k
   ·rw[if_pos ((ek p).mpr e),if_pos e,(ek p).mpr e];rfl
   ·rw[if_neg (fun z=>e ((ek p).mp z)),if_neg e]
  ·rw[MV,show ps.map ((·.1)∘fun p:Nat×Mn=>if p.1=k then(k,a) else p)=ps.map (·.1) from Pq fun p _=>by
    show(if p.1=k then(k,a) else p).1=p.1;split
    ·rename_i e;exact e.symm
    ·rfl]
   exact B3 hp
  ·obtain⟨q0,hq0,Zi⟩:=N2.mp h
   obtain⟨p0,h0,rfl⟩:=Nd.mp hq0;have h1:p0.1=k:=(ek p0).mp (of_decide_eq_true Zi);rw[Nd];constructor
   ·rintro⟨r,hr,rfl⟩
    split
    ·exact⟨hk,dW⟩
    ·rename_i e;have:=(io hp).mp hr;exact⟨this.1,by rw[gx e];exact this.2⟩
   ·rintro⟨h2,h3⟩
    by_cases e:p.1=k
    ·rw[e,dW] at h3;refine⟨p0,h0,?_⟩;rw[if_pos h1,<-e,Mw h3]
    ·rw[gx e] at h3;exact⟨p,(io hp).mpr ⟨h2,h3⟩,by rw[if_neg e]⟩
 ·rename_i h
  have hn:∀p∈ps,p.1≠k:=fun p WN e=>h (N2.mpr ⟨iC p,Nd.mpr ⟨p,WN,rfl⟩,decide_eq_true ((ek p).mpr e)⟩);refine⟨ps++[(k,a)],by rw[MZ];rfl,rb ?_ fun p=> ?_⟩
  ·rw[MZ,P0];refine⟨B3 hp,NC.mpr ⟨Nu,QE⟩,fun x hx y hy=> ?_⟩;obtain⟨p,h1,rfl⟩:=Nd.mp hx;rw[MC.mp hy];exact hn p h1
  ·rw[Nh,MC]
   constructor
   ·rintro(h1|rfl)
    ·have:=(io hp).mp h1;exact⟨this.1,by rw[gx (hn p h1)];exact this.2⟩
    ·exact⟨hk,dW⟩
   ·rintro⟨h1,h2⟩
    by_cases e:p.1=k
    ·rw[e,dW] at h2;exact .inr (by rw[<-e,Mw h2])
    ·rw[gx e] at h2;exact .inl ((io hp).mpr ⟨h1,h2⟩)
theorem wu {k:Nat}:∃qs:List (Nat×Mn),ja (ps.map iC) (.inl (k:Int))=qs.map iC/\qs.Perm (ez (gU ac k none)):=by
 have ek:∀p:Nat×Mn,((iC p).1=(.inl (k:Int):bt))↔p.1=k:=fun p=>⟨fun h=>by have:=Sum.inl.inj h;omega,fun h=>by rw[<-h];rfl⟩;refine⟨ps.filter fun p=>decide (p.1≠k),?_,rb ?_ fun p=> ?_⟩
 ·unfold ja;rw[List.filter_map];congr 1;refine List.filter_congr fun p _=> ?_;exact decide_eq_decide.mpr (not_congr (ek p))
 ·exact aa1 ((QT).map _) (B3 hp)
 ·rw[Ng,io hp,decide_eq_true_eq]
  constructor
  ·rintro⟨⟨h1,h2⟩,h3⟩;exact⟨h1,by rw[gx h3];exact h2⟩
  ·rintro⟨h1,h2⟩
   by_cases e:p.1=k
   ·rw[e,dW] at h2;cases h2
   ·rw[gx e] at h2;exact⟨⟨h1,h2⟩,e⟩
theorem vD:aF xy ((ps.map iC).map (·.1))=some (ps.map fun p=>(p.1:Int)):=by
 clear hp
 induction ps with
 |nil=>rfl
 |cons p r ih=>rw[Ms,Ms];unfold aF;rw[ih];rfl
theorem vE:iZ (ps.map fun p=>(p.1:Int))=(ez ac).map fun p=>(p.1:Int):=by refine k8 ((fL _).trans (hp.map _)) (eU _) ?_;rw[PZ];exact(CY ac).imp fun h=>by omega
end
abbrev Sn:=List (Nat×Bool)
noncomputable def gY (ac:Ac) (a:Mn):Bool:=decide (a∈(ez ac).map (·.2))
noncomputable def kg (ac:Ac):Mn->Sn
 | .Mr c=>if gY ac (.Mr c)=true then[] else[(c,true)]
 |_=>[]
noncomputable def AY (ac:Ac):Mn->Sn
 | .Mr c=>if gY ac (.Mr c)=true then[] else[(c,false)]
 |_=>[]
noncomputable def dS (p:NS×Sn) (k:Nat) (a:Mn):NS×Sn:=({p.1 with ac:=gU p.1.ac k (some a)},p.2++kg p.1.ac a)
noncomputable def go (p:NS×Sn) (k:Nat):NS×Sn:=match p.1.ac k with
 |some a=>({p.1 with ac:=gU p.1.ac k none},p.2++AY (gU p.1.ac k none) a)
 |none=>p
noncomputable def eE (p:NS×Sn) (qs:List (Nat×Mn)):NS×Sn:=qs.foldl (fun p q=>dS p q.1 q.2) p
noncomputable def eG (b:Bd) (ks:List Nat):Option (Nat×Int)->List Mn
 |some (_,n)=>[.Nq n]
 |none=>p9 b ks
noncomputable def bN (b:Bd) (p:NS×Sn):NS×Sn:=match p.1.wt with
 |none=>p
 |some (ks,_,w)=>eE ({p.1 with wt:=none},p.2) (ks.zip (eG b ks w))
noncomputable def oS:Wq->Nat->Bool
 |some (ks,_,_),k=>decide (k∈ks)
 |none,_=>false
noncomputable def mN (b:Bd) (s:NS) (k:Nat):Bool:=match s.wt with
 |some (ks,_,none)=>decide (ii s.ac s.oc=0)&& !(ck b (ks++[k])).isEmpty
 |_=>false
noncomputable def j0 (b:Bd) (p:NS×Sn) (k:Nat):NS×Sn:=match p.1.wt with
 |some (ks,g,_)=>if(ck b (ks++[k])).map (·.1.length)=[(ks++[k]).length] then bN b ({p.1 with wt:=some (ks++[k],g,none)},p.2) else({p.1 with wt:=some (ks++[k],g,none)},p.2)
 |none=>p
noncomputable def cR (s:NS) (m:Mn):NS:=if(m.RI||m.Uj)=true then s else{s with oc:=none}
noncomputable def lG (b:Bd) (L:Int) (p:NS×Sn) (k:Nat):Mn->NS×Sn
 | .Qw c n=>({p.1 with wt:=some ([k],0,some (c,n))},p.2)
 | .Mr c=>if(decide (L=0)&& !(ck b [k]).isEmpty)=true then({p.1 with wt:=some ([k],0,none)},p.2) else dS p k (.Mr c)
 | .once n=>({(dS p k .none).1 with oc:=some n},(dS p k .none).2)
 |m=>dS p k m
noncomputable def vX (b:Bd) (p:NS×Sn) (k:Nat):NS×Sn:=
 lG b (ii p.1.ac p.1.oc) (cR p.1 (look b (ii p.1.ac p.1.oc) k),p.2) k (look b (ii p.1.ac p.1.oc) k)
noncomputable def g8 (b:Bd) (p:NS×Sn) (k:Nat):NS×Sn:=
 if((p.1.ac k).isSome||oS p.1.wt k)=true then p else if mN b p.1 k=true then j0 b p k else vX b (bN b p) k
noncomputable def bU (b:Bd) (p:NS×Sn) (k:Nat):NS×Sn:=match p.1.wt with
 |some (_,_,none)=>bN b p
 |some (_,_,some (c,_))=>dS ({p.1 with wt:=none},p.2) k (.Mr c)
 |none=>p
noncomputable def sd (b:Bd) (p:NS×Sn) (k:Nat):NS×Sn:=go (if oS p.1.wt k=true then bU b p k else p) k
noncomputable def gv (b:Bd) (p:NS×Sn):NS×Sn:=match p.1.wt with
 |none=>p
 |some (ks,g,w)=>if g+1=b.wt then bN b ({p.1 with wt:=some (ks,g+1,w)},p.2) else({p.1 with wt:=some (ks,g+1,w)},p.2)
noncomputable def dj (b:Bd) (s:NS):Qc->NS×Sn
 | .down k=>g8 b (s,[]) k
 | .up k=>sd b (s,[]) k
 | .turn=>gv b (s,[])
noncomputable def sf (b:Bd) (s:NS):List (Str×SV):=[("bed",.fz (bD b)),("acts",.rf 1),("waiting",.fz (fE s.wt)),("once",.fz (lm s.oc)),("sent",.rf 2)]
noncomputable def i7 (p:Nat×Bool):D:= .tuple [.str (dh p.1),.str (if p.2=true then "down" else "up")]
noncomputable def eC (b:Bd) (s:NS) (sn:Sn) (ps:List (Nat×Mn)) (J:bv):bv:= .obj "Hand" (sf b s):: .Oe (ps.map iC):: .lst ((sn.map i7).map .fz)::J
def HS (b:Bd) (p:NS×Sn) (Z:bv):Prop:=∃ps J,ps.Perm (ez p.1.ac)/\Z=eC b p.1 p.2 ps J
section
variable {b:Bd} {s:NS} {sn:Sn} {ps:List (Nat×Mn)} {J:bv} {ρ:bS} {i:Nat} {Z:bv} {p:NS×Sn} {k:Nat} {a:Mn}
theorem Jx:(sf b s).lookup ("bed":Str)=some (.fz (bD b)):=by unfold sf;rw[Oh]
theorem En:(sf b s).lookup ("acts":Str)=some (.rf 1):=by unfold sf;rw[Mu,show(("acts":Str)== "bed")=false by decide+kernel];dsimp only;rw[Oh]
theorem F9:(sf b s).lookup ("waiting":Str)=some (.fz (fE s.wt)):=by unfold sf;rw[Mu,show(("waiting":Str)== "bed")=false by decide+kernel];dsimp only;rw[Mu,show(("waiting":Str)== "acts")=false by decide+kernel];dsimp only;rw[Oh]
theorem Ft:(sf b s).lookup ("once":Str)=some (.fz (lm s.oc)):=by unfold sf;rw[Mu,show(("once":Str)== "bed")=false by decide+kernel];dsimp only;rw[Mu,show(("once":Str)== "acts")=false by decide+kernel];dsimp only;rw[Mu,show(("once":Str)== "waiting")=false by decide+kernel];dsimp only;rw[Oh]
theorem E5:(sf b s).lookup ("sent":Str)=some (.rf 2):=by unfold sf;rw[Mu,show(("sent":Str)== "bed")=false by decide+kernel];dsimp only;rw[Mu,show(("sent":Str)== "acts")=false by decide+kernel];dsimp only;rw[Mu,show(("sent":Str)== "waiting")=false by decide+kernel];dsimp only;rw[Mu,show(("sent":Str)== "once")=false by decide+kernel];dsimp only;rw[Oh]
noncomputable def Lw (m:Str):Bool:=(m== "bed"||m== "acts"||m== "waiting"||m== "once"||m== "sent")==false
theorem KB {m:Str} (h:Lw m=true):(sf b s).lookup m=none:=by unfold Lw at h;simp only[beq_iff_eq,QF] at h;obtain⟨⟨⟨⟨h1,h2⟩,h3⟩,h4⟩,h5⟩:=h;unfold sf;rw[Mu,h1];dsimp only;rw[Mu,h2];dsimp only;rw[Mu,h3];dsimp only;rw[Mu,h4];dsimp only;rw[Mu,h5];rfl
theorem ny (h:ρ[i]? =some (some (.rf 0))):cx "Hand" "bed" (aq i) ρ (eC b s sn ps J)= .ok (.fz (bD b)) (eC b s sn ps J):=rE (bj h) rfl Jx
theorem hU (h:ρ[i]? =some (some (.rf 0))):cx "Hand" "acts" (aq i) ρ (eC b s sn ps J)= .ok (.rf 1) (eC b s sn ps J):=rE (bj h) rfl En
theorem cr (h:ρ[i]? =some (some (.rf 0))):cx "Hand" "waiting" (aq i) ρ (eC b s sn ps J)= .ok (.fz (fE s.wt)) (eC b s sn ps J):=rE (bj h) rfl F9
theorem zV (h:ρ[i]? =some (some (.rf 0))):cx "Hand" "once" (aq i) ρ (eC b s sn ps J)= .ok (.fz (lm s.oc)) (eC b s sn ps J):=rE (bj h) rfl Ft
theorem uP (h:ρ[i]? =some (some (.rf 0))):cx "Hand" "sent" (aq i) ρ (eC b s sn ps J)= .ok (.rf 2) (eC b s sn ps J):=rE (bj h) rfl E5
theorem qA (w:Wq):ff "waiting" (.fz (fE w)) (sf b s)=sf b {s with wt:=w}:=by unfold sf;unfold ff;rw[if_neg (by decide+kernel)];unfold ff;rw[if_neg (by decide+kernel)];unfold ff;rw[if_pos rfl]
theorem rG (o:Option Int):ff "once" (.fz (lm o)) (sf b s)=sf b {s with oc:=o}:=by unfold sf;unfold ff;rw[if_neg (by decide+kernel)];unfold ff;rw[if_neg (by decide+kernel)];unfold ff;rw[if_neg (by decide+kernel)];unfold ff;rw[if_pos rfl]
theorem k7 (w:Wq) {fe:bK} (h:ρ[i]? =some (some (.rf 0))) (he:fe ρ Z= .ok (.fz (fE w)) (eC b s sn ps J)):Pl "Hand" "waiting" (aq i) fe ρ Z= .ok (.nx ρ) (eC b {s with wt:=w} sn ps J):=
 (xX he (bj h) rfl (by exact Mc rfl)).trans (by rw[qA];rfl)
theorem ym (o:Option Int) {fe:bK} (h:ρ[i]? =some (some (.rf 0))) (he:fe ρ Z= .ok (.fz (lm o)) (eC b s sn ps J)):Pl "Hand" "once" (aq i) fe ρ Z= .ok (.nx ρ) (eC b {s with oc:=o} sn ps J):=
 (xX he (bj h) rfl (by exact Mc rfl)).trans (by rw[rG];rfl)
theorem cz {m:Str} {F:g9} {n:Nat} {fa:lB} {xs:List SV} {x:SV} {Z':bv} (hs:HS b p Z) (hm:Lw m=true) (h:ρ[i]? =some (some (.rf 0))) (ha:fa ρ Z= .ok xs Z) (hn:(SV.rf 0::xs).length=n) (hF:F (.rf 0::xs) Z= .ok x Z'):bc "Hand" m F n (aq i) fa ρ Z= .ok x Z':=by obtain⟨ps,J,hp,rfl⟩:=hs;exact Fj (bj h) rfl (KB hm) ha hn hF
theorem vV (ps:List (Nat×Mn)):(ps.map iC).map (·.2)=((ps.map (·.2)).map mD).map SV.fz:=by rw[MV,MV,MV];rfl
def AK (ac:Ac):Prop:=∀k a,ac k=some a->k<5/\LB a
theorem Cw (hs:HS b p Z) (hA:AK p.1.ac) (ha:LB a):∃Z',cc [.rf 0,.fz (mD a)] Z= .ok (.fz (.bool (gY p.1.ac a))) Z'/\HS b p Z':=by
 obtain⟨ps,J,hp,rfl⟩:=hs;have e1:gY p.1.ac a=decide (a∈ps.map (·.2)):=decide_eq_decide.mpr (hp.map (·.2)).symm.mem_iff;have lb:∀m∈ps.map (·.2),LB m:=fun m hm=>by obtain⟨q,h1,rfl⟩:=Nd.mp hm;exact(hA _ _ ((io hp).mp h1).2).2
 refine⟨eC b p.1 p.2 ps (J++[.lst ((ps.map iC).map (·.2))]),?_,ps,_,hp,rfl⟩;rw[e1];exact kr (ρ:=[some (.rf 0),some (.fz (mD a))]) rfl (jT (cg (x:= .fz (mD a)) (ag (ah rfl)) (yR (hU rfl) rfl) (re rfl (gq (by rw[vV];exact aN)) (EF ha lb))))
theorem yk {c:Nat} {d:Bool} {fe:bK} (hl:sn.length<1000) (h:ρ[i]? =some (some (.rf 0))) (he:fe ρ (eC b s sn ps J)= .ok (.fz (i7 (c,d))) (eC b s sn ps J)):rV (cx "Hand" "sent" (aq i)) fe ρ (eC b s sn ps J)= .ok (.fz .none) (eC b s (sn++[(c,d)]) ps J):=
 (uu (uP h) (xs:=(sn.map i7).map .fz) rfl he (ys:=(sn.map i7).map .fz) rfl (by rw[L7,L7];omega)).trans (by show RS.ok _ (Cell.obj "Hand" (sf b s):: .Oe (ps.map iC):: .lst ((sn.map i7).map .fz++[.fz (i7 (c,d))])::J)=_;unfold eC;rw[MZ,MZ];rfl)
theorem pR (hp:ps.Perm (ez s.ac)) (hk:k<5) (h0:ρ[0]? =some (some (.rf 0))) (h1:ρ[1]? =some (some (.fz (nd k)))) (h2:ρ[2]? =some (some (.fz (mD a)))):∃qs:List (Nat×Mn),qs.Perm (ez (gU s.ac k (some a)))/\eS (cx "Hand" "acts" (aq 0)) (af (aa 1)) (af (aa 2)) ρ (eC b s sn ps J)= .ok (.nx ρ) (eC b {s with ac:=gU s.ac k (some a)} sn qs J):=by obtain⟨qs,h3,h4⟩:=yy hp (k:=k) (a:=a) hk;have p1:aa 1 (b6 ρ)= .ok (.fz (nd k),b6 ρ):=ah (by unfold b6;rw[Ml,h1];rfl);have p2:aa 2 (b6 ρ)= .ok (.fz (mD a),b6 ρ):=ah (by unfold b6;rw[Ml,h2];rfl);refine⟨qs,h4,(ng (ag p2) (hU h0) (ag p1) rfl rfl (by rw[L7];have:=rJ hp;omega)).trans ?_⟩;rw[h3];rfl
theorem pN (hs:HS b p Z) (hA:AK p.1.ac) (ha:LB a) (hk:k<5) (hl:p.2.length<1000):∃Z',bB [.rf 0,.fz (nd k),.fz (mD a)] Z= .ok (.fz .none) Z'/\HS b (dS p k a) Z':=by
 have e0:=kl a;have e1:=gA a;cases q:a.UH with
 |false=>
  obtain⟨ps,J,hp,rfl⟩:=hs;rw[q] at e1;obtain⟨qs,h1,h2⟩:=pR (ρ:=[some (.rf 0),some (.fz (nd k)),some (.fz (mD a))]) (b:=b) (sn:=p.2) (J:=J) (a:=a) hp hk rfl rfl rfl;refine⟨_,mj (ρ:=[some (.rf 0),some (.fz (nd k)),some (.fz (mD a))]) rfl (gp (ml (cD (aQ (by walk_at "ev"))) kU) h2),qs,J,h1,?_⟩;have:kg p.1.ac a=[]:=by cases a<;>first|rfl|cases q
  unfold dS;rw[this,ME]
 |true=>
  rw[q] at e1;obtain⟨Z1,h1,Qv⟩:=Cw hs hA ha;have Rz:∀bb,gY p.1.ac a=bb->(g6 (aM (ar (au bQ (au aG (aa 2) (pC (.int 0))) (pC (.str "letter"))))) (oQ (aY (bc "Hand" "has_act" cc 2 (aq 0) (am (af (aa 2)) aJ))))) [some (.rf 0),some (.fz (nd k)),some (.fz (mD a))] Z= .ok (!bb) Z1:=fun bb e=>by rw[e] at h1;exact c7 (aQ (by walk_at "ev")) (kP (aE (cz hs (by decide+kernel) rfl (ai (ag (ah rfl)) aC) rfl h1)))
  obtain⟨ps,J,hp,rfl⟩:=Qv;cases q2:gY p.1.ac a with
  |true=>
   obtain⟨qs,h3,h4⟩:=pR (ρ:=[some (.rf 0),some (.fz (nd k)),some (.fz (mD a))]) (b:=b) (sn:=p.2) (J:=J) (a:=a) hp hk rfl rfl rfl;refine⟨_,mj (ρ:=[some (.rf 0),some (.fz (nd k)),some (.fz (mD a))]) rfl (gp (ml (Rz true q2) kU) h4),qs,J,h3,?_⟩;have:kg p.1.ac a=[]:=by
    cases a<;>first|cases q|skip
    show(if gY p.1.ac _=true then _ else _)=_;rw[if_pos q2]
   unfold dS;rw[this,ME]
  |false=>
   cases a<;>first|cases q|skip
   rename_i c;obtain⟨qs,h3,h4⟩:=pR (ρ:=[some (.rf 0),some (.fz (nd k)),some (.fz (mD (.Mr c)))]) (b:=b) (sn:=p.2++[(c,true)]) (J:=J) (a:= .Mr c) hp hk rfl rfl rfl;have i1:aG (mD (.Mr c)) (.int 1)=some (.fz (.str (dh c))):=iE;refine⟨_,mj (ρ:=[some (.rf 0),some (.fz (nd k)),some (.fz (mD (.Mr c)))]) rfl (gp (kH (Rz false q2) (l9 (yk hl rfl (ag (show _=Res.ok (PV.fz (.tuple [.str (dh c),.str "down"]),_) by walk_at "ev"))))) h4),qs,J,h3,?_⟩;have:kg p.1.ac (.Mr c)=[(c,true)]:=by show(if gY p.1.ac _=true then _ else _)=_;rw[if_neg (by rw[q2];simp)]
   unfold dS;rw[this]
end
end STP
namespace STP
open PySem L2 L3 L10
def VA (nL:Int):Mn->Prop
 | .Mr c=>c<26
 | .Nq n=>1<=n/\n<nL
 | .none=>True
 |_=>False
theorem VA.lb {nL:Int} {m:Mn} (h:VA nL m):LB m:=by
 cases m with
 |Mr c=>exact h
 |Qw c n=>exact h.elim
 |_=>trivial
structure SA (b:Bd) (s:NS):Prop where
 ac:∀k a,s.ac k=some a->(k:Int)<b.n/\VA b.ls.length a
 oc:∀o,s.oc=some o->1<=o/\o<b.ls.length
structure WV (b:Bd) (ac:Ac) (ks:List Nat) (g:Int) (w:Option (Nat×Int)):Prop where
 ne:ks≠[]
 nd:ks.Nodup
 kn:∀k∈ks,(k:Int)<b.n
 kf:∀k∈ks,ac k=none
 g0:0<=g
 tp:∀c n,w=some (c,n)->c<26/\(1<=n/\n<b.ls.length)/\ks.length=1
 ch:w=none->∀k∈ks,nt (b.ls.headD []) k=true
structure SW (b:Bd) (s:NS):Prop where
 sa:SA b s
 wt:∀ks g w,s.wt=some (ks,g,w)->WV b s.ac ks g w/\g<b.wt
theorem uI {ks:List Nat} {n:Nat} (hd:ks.Nodup) (h:∀k∈ks,k<n):ks.length<=n:=by rw[<-Gb ks];have h1:(gr ks).Nodup:=(pW ks).nodup_iff.mpr hd;refine F5 (((yc ks).and h1).imp fun h=>by omega) fun k hk=>h k ((pW ks).mem_iff.mp hk)
section
variable {b:Bd} (vb:VB b) {s:NS} {p:NS×Sn} {ks:List Nat} {g:Int} {w:Option (Nat×Int)} {ac:Ac} {k:Nat} {a:Mn}
include vb
theorem WV.len (h:WV b ac ks g w):ks.length<=5:=uI h.nd fun k hk=>by have:=h.kn k hk;have:=vb.n5;omega
omit vb in
theorem WV.Wm (h:WV b ac ks g w):1<=ks.length:=List.length_pos_iff.mpr h.ne
theorem SA.ak (h:SA b s):AK s.ac:=fun k a e=>by have:=h.ac k a e;have:=vb.n5;exact⟨by omega,(h.ac k a e).2.lb⟩
omit vb in
theorem SA.cm (h:SA b p.1) (hk:(k:Int)<b.n) (ha:VA b.ls.length a):SA b (dS p k a).1:=by
 refine⟨fun j x e=> ?_,h.oc⟩;by_cases z:j=k
 ·subst z;have e':some a=some x:=(dW (ac:=p.1.ac) (k:=j) (o:=some a)).symm.trans e;cases e';exact⟨hk,ha⟩
 ·exact h.ac j x ((gx z).symm.trans e)
omit vb in
theorem SA.gg (h:SA b p.1):SA b (go p k).1:=by
 unfold go;split
 ·refine⟨fun j x e=> ?_,h.oc⟩
  by_cases z:j=k
  ·subst z;exact absurd ((dW (ac:=p.1.ac) (k:=j) (o:=none)).symm.trans e) (by simp)
  ·exact h.ac j x ((gx z).symm.trans e)
 ·exact h
omit vb in
theorem mQ:(dS p k a).2.length<=p.2.length+1:=by
 show(p.2++kg p.1.ac a).length<=_;rw[Mg];have:(kg p.1.ac a).length<=1:=by
  cases a with
  |Mr c=>show(if _ then _ else _:Sn).length<=1;split<;>simp
  |_=>simp[kg]
 omega
omit vb in
theorem tq (qs:List (Nat×Mn)):∀p:NS×Sn,(eE p qs).2.length<=p.2.length+qs.length:=by
 induction qs with
 |nil=>exact fun p=>Mh _
 |cons q r ih=>intro p;have h1:=ih (dS p q.1 q.2);have h2:=mQ (p:=p) (k:=q.1) (a:=q.2);show(eE (dS p q.1 q.2) r).2.length<=_;rw[Mm];omega
omit vb in
theorem SA.cms (qs:List (Nat×Mn)):∀{p:NS×Sn},SA b p.1->(∀q∈qs,(q.1:Int)<b.n/\VA b.ls.length q.2)->SA b (eE p qs).1/\(eE p qs).1.wt=p.1.wt/\(eE p qs).1.oc=p.1.oc:=by
 induction qs with
 |nil=>exact fun h _=>⟨h,rfl,rfl⟩
 |cons q r ih=>intro p h hq;have h1:=hq q Mp;exact ih (h.cm h1.1 h1.2) fun x hx=>hq x (Mj _ hx)
theorem HH (h:nt (b.ls.headD []) k=true):∃c,i4 b 0 k= .Mr c:=by
 have hl:=vb.l1;obtain⟨l0,r,e⟩:∃l0 r,b.ls=l0::r:=by
  cases q:b.ls with
  |nil=>rw[q] at hl;cases hl
  |cons l r=>exact⟨l,r,rfl⟩
 unfold nt at h;unfold i4;rw[e] at h⊢;rw[SR,P7];rw[List.headD_cons] at h;cases q:l0[k]? with
 |none=>rw[q] at h;cases h
 |some m=>
  rw[q] at h;cases m with
  |Mr c=>exact⟨c,rfl⟩
  |_=>cases h
theorem E3 (hk:(k:Int)<b.n) (h:nt (b.ls.headD []) k=true):VA b.ls.length (i4 b 0 k):=by have hl:=vb.l1;obtain⟨c,e⟩:=HH vb h;have:=uj vb (L:=0) (k:=k) (by omega) hk;rw[e] at this⊢;exact this
theorem Ci (h:WV b ac ks g none):∀m∈p9 b ks,VA b.ls.length m:=by
 intro m hm;unfold p9 at hm;split at hm
 ·rename_i c hc
  rcases MH.mp hm with rfl|hm
  ·exact(vb.vc c (PY hc)).2.2.2
  ·rw[(List.mem_replicate.mp hm).2];trivial
 ·obtain⟨j,hj,rfl⟩:=Nd.mp hm;exact E3 vb (h.kn j hj) (h.ch rfl j hj)
theorem pp (h:WV b ac ks g w):∀q∈ks.zip (eG b ks w),(q.1:Int)<b.n/\VA b.ls.length q.2:=by
 intro q hq;have h1:=Pp hq;refine⟨h.kn _ h1.1,?_⟩;cases w with
 |none=>exact Ci vb h _ h1.2
 |some cn=>obtain⟨c,n⟩:=cn;rw[MC.mp h1.2];exact(h.tp c n rfl).2.1
def WD (b:Bd) (s:NS):Prop:=∀ks g w,s.wt=some (ks,g,w)->WV b s.ac ks g w
theorem fx (h:SA b p.1) (hw:WD b p.1):SW b (bN b p).1/\(bN b p).1.wt=none/\(bN b p).2.length<=p.2.length+5/\(bN b p).1.oc=p.1.oc:=by
 unfold bN;split
 ·rename_i q;exact⟨⟨h,fun ks g w e=>by rw[q] at e;cases e⟩,q,Vb _ _,rfl⟩
 ·rename_i ks g w q
  have v:=hw ks g w q;obtain⟨h1,h2,h3⟩:=SA.cms (ks.zip (eG b ks w)) (p:=({p.1 with wt:=none},p.2)) ⟨h.ac,h.oc⟩ (pp vb v);refine⟨⟨h1,fun _ _ _ e=> ?_⟩,h2,?_,h3⟩
  ·rw[h2] at e;cases e
  ·have:=tq (ks.zip (eG b ks w)) ({p.1 with wt:=none},p.2);have l5:=v.len vb;rw[RN] at this;have:(eE ({p.1 with wt:=none},p.2) (ks.zip (eG b ks w))).2.length<=p.2.length+min ks.length (eG b ks w).length:=this;omega
omit vb in
theorem zy:∀(l:List Int) (m:Option Int),l.foldl lj m=m\/∃x∈l,l.foldl lj m=some x
 |[],m=> .inl rfl
 |x::r,m=>by
  rw[Qp];rcases zy r (lj m x) with h|⟨y,hy,h⟩
  ·rw[h]
   cases m with
   |none=>exact .inr ⟨x,Mp,rfl⟩
   |some z=>
    show some (if x>z then x else z)=some z\/_;split
    ·exact .inr ⟨x,Mp,by show some (if x>z then x else z)=_;rename_i q;rw[if_pos q]⟩
    ·exact .inl rfl
  ·exact .inr ⟨y,Mj _ hy,h⟩
omit vb in
theorem yP:∀(l:List Int) (m:Option Int),(∀x∈l,∃y,l.foldl lj m=some y/\x<=y)/\∀z,m=some z->∃y,l.foldl lj m=some y/\z<=y
 |[],m=>⟨fun x hx=>(by cases hx),fun z h=>⟨z,h,P8 _⟩⟩
 |x::r,m=>by
  rw[Qp];obtain⟨h1,h2⟩:=yP r (lj m x);have h3:∃z,lj m x=some z/\x<=z/\∀u,m=some u->u<=z:=by
   cases m with
   |none=>exact⟨x,rfl,P8 _,fun u h=>by cases h⟩
   |some u=>
    refine⟨if x>u then x else u,rfl,?_,fun v h=> ?_⟩
    ·split<;>omega
    ·cases h;split<;>omega
  obtain⟨z,e1,e2,e3⟩:=h3;obtain⟨y,e4,e5⟩:=h2 z e1;refine⟨fun v hv=> ?_,fun u hu=>⟨y,e4,by have:=e3 u hu;omega⟩⟩;rcases MH.mp hv with rfl|hv
  ·exact⟨y,e4,by omega⟩
  ·exact h1 v hv
omit vb in
theorem yI {ac:Ac} {n:Int}:n∈(ez ac).filterMap wQ↔∃k,k<5/\ac k=some (.Nq n):=by
 rw[N8];constructor
 ·rintro⟨⟨k,m⟩,h1,h2⟩
  have h3:=jF.mp h1;cases m with
  |Nq x=>have:x=n:=Mw h2;subst this;exact⟨k,h3.1,h3.2⟩
  |_=>cases h2
 ·rintro⟨k,h1,h2⟩;exact⟨(k,.Nq n),jF.mpr ⟨h1,h2⟩,rfl⟩
theorem zD (h:SA b s):0<=mC s.ac/\mC s.ac<b.ls.length/\(∀k n,s.ac k=some (.Nq n)->n<=mC s.ac)/\(mC s.ac=0\/∃k,s.ac k=some (.Nq (mC s.ac))):=by
 have hl:=vb.l1;have h5:=vb.n5;unfold mC;generalize hm:((ez s.ac).filterMap wQ).foldl lj none=m;have h1:=(yP ((ez s.ac).filterMap wQ) none).1;have h2:=zy ((ez s.ac).filterMap wQ) none;rw[hm] at h1 h2;have up:∀k n,s.ac k=some (.Nq n)->∃y,m=some y/\n<=y:=fun k n e=>h1 n (yI.mpr ⟨k,by have:=(h.ac k _ e).1;omega,e⟩);cases m with
 |none=>refine⟨P8 _,by show(0:Int)<_;omega,fun k n e=> ?_,.inl rfl⟩;obtain⟨y,e2,_⟩:=up k n e;cases e2
 |some x=>
  rcases h2 with h2|⟨y,hy,h2⟩
  ·cases h2
  ·cases h2;obtain⟨k,_,e⟩:=yI.mp hy;have:=(h.ac k _ e).2;have:1<=x/\x<b.ls.length:=this;refine⟨by show 0<=x;omega,by show x<_;omega,fun k n e=> ?_,.inr ⟨k,e⟩⟩;obtain⟨y,e2,h3⟩:=up k n e;cases e2;exact h3
theorem qW (h:SA b s):0<=ii s.ac s.oc/\ii s.ac s.oc<b.ls.length:=by
 cases q:s.oc with
 |none=>have:=zD vb h;exact⟨this.1,this.2.1⟩
 |some o=>have:=h.oc o q;exact⟨by show 0<=o;omega,this.2⟩
end
section
variable {b:Bd} {s:NS} {sn:Sn} {ps:List (Nat×Mn)} {J:bv} {ρ:bS} {i:Nat} {Z:bv} {p:NS×Sn} {k:Nat} {a:Mn}
theorem jI {α β:Type} {f:α->Option β} {x:α} {y:β} (h:f x=some y):aF f [x]=some [y]:=by unfold aF;rw[h];rfl
theorem gQ {l:bv} {c c':Cell}:(l++[c]).set l.length c'=l++[c']:=by simp
theorem nI (hs:HS b p Z):∃Z',bJ [.rf 0] Z= .ok (.fz (eW p.1)) Z'/\HS b p Z':=by
 obtain⟨ps,J,hp,rfl⟩:=hs;have hl5:=rJ hp;have fi:jU (mP (cx "Hand" "acts" (aq 0))) [some (.rf 0)] (eC b p.1 p.2 ps J)= .ok ((ez p.1.ac).map fun q=>nd q.1) (eC b p.1 p.2 ps (J++[.dead])):=by
  refine(xN (ds:=(ez p.1.ac).map fun q=>nd q.1) (yY (hU rfl) rfl (vD hp) (by rw[L7];omega)) ?_).trans ?_
  ·rw[vE hp];refine aN.trans ?_;rw[MV,MV];rfl
  ·rw[gQ];rfl
 have cv:bW (fO 0) lD (jZ (am (af (aa 0)) (am (bu (cx "Hand" "acts" (aq 1)) (af (aa 0))) aJ))) ((ez p.1.ac).map fun q=>nd q.1) [none,some (.rf 0)] (eC b p.1 p.2 ps (J++[.dead])) []= .ok (((ez p.1.ac).map pD).map .fz) (eC b p.1 p.2 ps (J++[.dead])):=by refine(kL (fun q:Nat×Mn=>nd q.1) (fun q=> .fz (pD q)) _ (fun ρ=>∃o,ρ=[o,some (.rf 0)]) (ez p.1.ac) _ [] ⟨none,rfl⟩ (by have:=pi p.1.ac;rw[NH];omega) ?_).trans (by rw[MV];rfl);rintro q hq ρ ⟨o,rfl⟩;have hm:=jF.mp hq;refine⟨[some (.fz (nd q.1)),some (.rf 0)],rfl,rfl,?_,_,rfl⟩;exact nJ (ds:=[nd q.1,mD q.2]) (ai (ag (ah rfl)) (ai (kY (hU rfl) (ag (d:=nd q.1) (ah rfl)) rfl rfl (by rw[ie hp hm.1,hm.2];rfl)) aC)) (Mc rfl)
 have tp:Bu iG (am (ni 1 [0] (jU (mP (cx "Hand" "acts" (aq 0)))) (fO 0) lD (jZ (am (af (aa 0)) (am (bu (cx "Hand" "acts" (aq 1)) (af (aa 0))) aJ)))) aJ) [some (.rf 0)] (eC b p.1 p.2 ps J)= .ok (.fz (.tuple ((ez p.1.ac).map pD))) (eC b p.1 p.2 ps (J++[.dead]++[.lst (((ez p.1.ac).map pD).map .fz)])):=
  Bh (ds:=[.list ((ez p.1.ac).map pD)]) (ai (tU fi cv) aC) (jI (gq (Z:=eC b p.1 p.2 ps (J++[.dead])++[.lst (((ez p.1.ac).map pD).map .fz)]) (ds:=(ez p.1.ac).map pD) aN)) rfl
 exact⟨_,kr (ρ:=[some (.rf 0)]) rfl (jT (nJ (ds:=[.tuple ((ez p.1.ac).map pD),fE p.1.wt,lm p.1.oc]) (ai tp (ai (cr rfl) (ai (zV rfl) aC))) (Mc rfl))),ps,_,hp,rfl⟩
theorem C0 (hs:HS b p Z):cB [.rf 0,.fz (nd k)] Z= .ok (.fz (.bool (oS p.1.wt k))) Z:=by
 obtain⟨ps,J,hp,rfl⟩:=hs;refine kr (ρ:=[some (.rf 0),some (.fz (nd k))]) rfl (jT ?_);cases q:p.1.wt with
 |none=>
  have e1:iz (fE p.1.wt) .none=some (.fz (.bool false)):=by rw[q];rfl
  exact tE (aE (cg (cr rfl) (ag az) (bG e1)))
 |some x=>
  obtain⟨ks,g,w⟩:=x;have e1:iz (fE p.1.wt) .none=some (.fz (.bool true)):=by rw[q];rfl
  have e2:aG (fE p.1.wt) (.int 0)=some (.fz (.tuple (aD ks))):=by rw[q];exact ij
  exact sQ (aE (cg (cr rfl) (ag az) (bG e1))) (cg (x:= .fz (nd k)) (ag (ah rfl)) (cW (cr rfl) (ag az) e2) (bG (nk _ _)))
theorem JK (hs:HS b p Z) (hA:AK p.1.ac) (ha:p.1.ac k=some a) (hl:p.2.length<1000):∃Z',jl [.rf 0,.fz (nd k)] Z= .ok (.fz .none) Z'/\HS b (go p k) Z':=by
 obtain⟨ps,J,hp,rfl⟩:=hs;have hk:=(hA k a ha).1;have lb:=(hA k a ha).2;obtain⟨qs,d1,d2⟩:=wu hp (k:=k)
 have pop:sS (cx "Hand" "acts" (aq 0)) (af (aa 1)) [some (.rf 0),some (.fz (nd k)),none] (eC b p.1 p.2 ps J)= .ok (.fz (mD a)) (eC b {p.1 with ac:=gU p.1.ac k none} p.2 qs J):=
  (yj (hU rfl) rfl (ag (d:=nd k) (ah rfl)) rfl rfl (by rw[ie hp hk,ha];rfl)).trans (by rw[d1];rfl)
 have eg:go p k=({p.1 with ac:=gU p.1.ac k none},p.2++AY (gU p.1.ac k none) a):=by unfold go;rw[ha]
 rw[eg];have Wx:AK (gU p.1.ac k none):=fun j x e=>by
  by_cases z:j=k
  ·subst z;rw[dW] at e;cases e
  ·rw[gx z] at e;exact hA j x e
 have e0:=kl a;have e1:=gA a;have t1:ar (au bQ (au aG (aa 2) (pC (.int 0))) (pC (.str "letter"))) (b6 [some (.rf 0),some (.fz (nd k)),some (.fz (mD a))])= .ok (a.UH,b6 [some (.rf 0),some (.fz (nd k)),some (.fz (mD a))]):=by walk_at "ev"
 have fin:ON (bR (g6 (aM (ar (au bQ (au aG (aa 2) (pC (.int 0))) (pC (.str "letter"))))) (oQ (aY (bc "Hand" "has_act" cc 2 (aq 0) (am (af (aa 2)) aJ))))) (bx (rV (cx "Hand" "sent" (aq 0)) (af (aW (ae (au aG (aa 2) (pC (.int 1))) (ae (pC (.str "up")) ao)))))) cw [some (.rf 0),some (.fz (nd k)),some (.fz (mD a))] (eC b {p.1 with ac:=gU p.1.ac k none} p.2 qs J)) (fun _ Z'=>SV.fz .none= .fz .none/\HS b ({p.1 with ac:=gU p.1.ac k none},p.2++AY (gU p.1.ac k none) a) Z') (fun _ _=>False) (fun r Z'=>r= .fz .none/\HS b ({p.1 with ac:=gU p.1.ac k none},p.2++AY (gU p.1.ac k none) a) Z'):=by
  cases q:a.UH with
  |false=>
   rw[q] at t1;refine bp (cD (aQ t1)) (fy ⟨rfl,qs,J,d2,?_⟩);have:AY (gU p.1.ac k none) a=[]:=by cases a<;>first|rfl|cases q
   rw[this,ME]
  |true=>
   rw[q] at t1;obtain⟨Z1,h1,Qv⟩:=Cw (b:=b) (p:=({p.1 with ac:=gU p.1.ac k none},p.2)) (Z:=eC b {p.1 with ac:=gU p.1.ac k none} p.2 qs J) ⟨qs,J,d2,rfl⟩ Wx lb;have Rz:∀bb,gY (gU p.1.ac k none) a=bb->(g6 (aM (ar (au bQ (au aG (aa 2) (pC (.int 0))) (pC (.str "letter"))))) (oQ (aY (bc "Hand" "has_act" cc 2 (aq 0) (am (af (aa 2)) aJ))))) [some (.rf 0),some (.fz (nd k)),some (.fz (mD a))] (eC b {p.1 with ac:=gU p.1.ac k none} p.2 qs J)= .ok (!bb) Z1:=fun bb e=>by
    have h1:cc [.rf 0,.fz (mD a)] (eC b {p.1 with ac:=gU p.1.ac k none} p.2 qs J)= .ok (.fz (.bool bb)) Z1:=by rw[<-e];exact h1
    exact c7 (aQ t1) (kP (aE (cz (p:=({p.1 with ac:=gU p.1.ac k none},p.2)) ⟨qs,J,d2,rfl⟩ (by decide+kernel) rfl (ai (ag (ah rfl)) aC) rfl h1)))
   obtain⟨rs,J2,hr,e2⟩:=Qv;rw[e2] at Rz;cases q2:gY (gU p.1.ac k none) a with
   |true=>
    refine bp (Rz true q2) (fy ⟨rfl,rs,J2,hr,?_⟩);have:AY (gU p.1.ac k none) a=[]:=by
     cases a<;>first|cases q|skip
     show(if gY (gU p.1.ac k none) _=true then _ else _)=_;rw[if_pos q2]
    rw[this,ME]
   |false=>
    cases a<;>first|cases q|skip
    rename_i c;have i1:aG (mD (.Mr c)) (.int 1)=some (.fz (.str (dh c))):=iE;refine fW (Rz false q2) (cN (yk (c:=c) (d:=false) hl rfl (ag (show _=Res.ok (PV.fz (.tuple [.str (dh c),.str "up"]),_) by walk_at "ev"))) ⟨rfl,rs,J2,hr,?_⟩);have:AY (gU p.1.ac k none) (.Mr c)=[(c,false)]:=by show(if gY (gU p.1.ac k none) _=true then _ else _)=_;rw[if_neg (by rw[q2];simp)]
    rw[this]
 exact d6 (ρ:=[some (.rf 0),some (.fz (nd k)),none]) rfl (cE pop rfl fin)
end
section
variable {b:Bd} (vb:VB b) {s:NS} {sn:Sn} {ps:List (Nat×Mn)} {J:bv} {ρ:bS} {i:Nat} {Z:bv} {p:NS×Sn} {k:Nat} {a:Mn} {ks:List Nat} {g:Int} {w:Option (Nat×Int)}
theorem Dk:∀(ks:List Nat) (as:List Mn),l4 (aD ks) (as.map mD)=(ks.zip as).map pD
 |[],_=>by cases ‹List Mn›<;>rfl
 |_::_,[]=>rfl
 |k::r,a::t=>by show Mb.tuple [nd k,mD a]::l4 (aD r) (t.map mD)=_;rw[Dk r t];rfl
theorem vf (h:∀c n,w=some (c,n)->c<26):bQ (iB w) (.tuple [.str "chord"])=some (.fz (.bool w.isNone))/\oN (iB w) (.tuple [.str "chord"])=some (.fz (.bool w.isSome)):=by
 cases w with
 |none=>
  have h1:ju (.tuple [.str "chord"])=true:=by decide+kernel
  have h2:Mb.canLay0 (.tuple [.str "chord"])=true:=by decide+kernel
  have h3:Mb.eqv (.tuple [.str "chord"]) (.tuple [.str "chord"])=true:=by decide+kernel
  constructor
  ·show(if(ju (.tuple [.str "chord"])&&Mb.canLay0 (.tuple [.str "chord"]))=true then some (RV.fz (.bool (Mb.eqv (.tuple [.str "chord"]) (.tuple [.str "chord"])))) else none)=_;rw[h1,h2,h3];rfl
  ·show(if(ju (.tuple [.str "chord"])&&Mb.canLay0 (.tuple [.str "chord"]))=true then some (RV.fz (.bool (!Mb.eqv (.tuple [.str "chord"]) (.tuple [.str "chord"])))) else none)=_;rw[h1,h2,h3];rfl
 |some cn=>
  obtain⟨c,n⟩:=cn;have lb:LB (.Qw c n):=h c n rfl;have e:Mb.eqv (mD (.Qw c n)) (.tuple [.str "chord"])=false:=by show(decide (("tap":Str)= "chord")&&Mb.eqvAll [.str (dh c),.int n] [])=false;rw[show decide (("tap":Str)= "chord")=false by decide+kernel];rfl
  constructor
  ·show(if(ju (mD (.Qw c n))&&Mb.canLay0 (.tuple [.str "chord"]))=true then some (RV.fz (.bool (Mb.eqv (mD (.Qw c n)) (.tuple [.str "chord"])))) else none)=_;rw[wG lb,show Mb.canLay0 (.tuple [.str "chord"])=true by decide+kernel,e];rfl
  ·show(if(ju (mD (.Qw c n))&&Mb.canLay0 (.tuple [.str "chord"]))=true then some (RV.fz (.bool (!Mb.eqv (mD (.Qw c n)) (.tuple [.str "chord"])))) else none)=_;rw[wG lb,show Mb.canLay0 (.tuple [.str "chord"])=true by decide+kernel,e];rfl
theorem vM (ks:List Nat) (w:Option (Nat×Int)) (as:List Mn):∀(qs:List (Nat×Mn)) (p:NS×Sn) (Z:bv) (o4 o5:Option SV),HS b p Z->AK p.1.ac->(∀q∈qs,q.1<5/\LB q.2)->p.2.length+qs.length<1000->
  ∃ρ' Z',oJ (EW 2 (jm (fO 4) (jm (fO 5) vj))) (bx (bc "Hand" "come" bB 3 (aq 0) (am (af (aa 4)) (am (af (aa 5)) aJ)))) (qs.map pD) [some (.rf 0),some (.fz (.tuple (aD ks))),some (.fz (iB w)),some (.fz (.list (as.map mD))),o4,o5] Z= .ok (.nx ρ') Z'/\HS b (eE p qs) Z'
 |[],p,Z,o4,o5,hs,_,_,_=>⟨_,Z,rfl,hs⟩
 |q::r,p,Z,o4,o5,hs,hA,hq,hl=>by
  rw[Mm] at hl;have h1:=hq q Mp;obtain⟨Z1,e1,Qv⟩:=pN (k:=q.1) (a:=q.2) hs hA h1.2 h1.1 (by omega);have hA1:AK (dS p q.1 q.2).1.ac:=fun j x e=>by
   by_cases z:j=q.1
   ·have e':some q.2=some x:=by rw[z] at e;exact(dW (ac:=p.1.ac) (k:=q.1) (o:=some q.2)).symm.trans e
    cases e';exact⟨by rw[z];exact h1.1,h1.2⟩
   ·exact hA j x ((gx z).symm.trans e)
  have:=mQ (p:=p) (k:=q.1) (a:=q.2);obtain⟨ρ',Z',e2,Q1⟩:=vM ks w as r (dS p q.1 q.2) Z1 (some (.fz (nd q.1))) (some (.fz (mD q.2))) Qv hA1 (fun x hx=>hq x (Mj _ hx)) (by omega);refine⟨ρ',Z',?_,Q1⟩
  have st:bx (bc "Hand" "come" bB 3 (aq 0) (am (af (aa 4)) (am (af (aa 5)) aJ))) [some (.rf 0),some (.fz (.tuple (aD ks))),some (.fz (iB w)),some (.fz (.list (as.map mD))),some (.fz (nd q.1)),some (.fz (mD q.2))] Z= .ok (.nx [some (.rf 0),some (.fz (.tuple (aD ks))),some (.fz (iB w)),some (.fz (.list (as.map mD))),some (.fz (nd q.1)),some (.fz (mD q.2))]) Z1:=
   l9 (cz hs (by decide+kernel) rfl (ai (ag (ah rfl)) (ai (ag (ah rfl)) aC)) rfl e1)
  show((bx (bc "Hand" "come" bB 3 (aq 0) (am (af (aa 4)) (am (af (aa 5)) aJ))) [some (.rf 0),some (.fz (.tuple (aD ks))),some (.fz (iB w)),some (.fz (.list (as.map mD))),some (.fz (nd q.1)),some (.fz (mD q.2))] Z).bind _)=_;rw[st,RS.bind_ok];exact e2
include vb
theorem kM (hs:HS b p Z) (sa:SA b p.1) (hw:p.1.wt=some (ks,g,w)) (v:WV b p.1.ac ks g w) (hl:p.2.length<900):∃Z',cy [.rf 0] Z= .ok (.fz .none) Z'/\HS b (bN b p) Z':=by
 obtain⟨ps,J,hp,rfl⟩:=hs;have e0:aG (fE p.1.wt) (.int 0)=some (.fz (.tuple (aD ks))):=by rw[hw];exact ij
 have e2:aG (fE p.1.wt) (.int 2)=some (.fz (iB w)):=by rw[hw];exact ld
 have l5:=v.len vb;have l1:=v.Wm;have ec:=vf (w:=w) fun c n h=>(v.tp c n h).1;have ed:bN b p=eE ({p.1 with wt:=none},p.2) (ks.zip (eG b ks w)):=by unfold bN;rw[hw]
 rw[ed];have t1:ar (au bQ (aa 2) (pC (.tuple [.str "chord"]))) (b6 [some (.rf 0),some (.fz (.tuple (aD ks))),some (.fz (iB w)),none,none,none])= .ok (w.isNone,b6 [some (.rf 0),some (.fz (.tuple (aD ks))),some (.fz (iB w)),none,none,none]):=aZ (aw (rv:= .fz (.bool w.isNone)) (ah rfl) az rfl rfl ec.1) rfl;have Zd:wo (HN (aM (ar (au bQ (aa 2) (pC (.tuple [(.str "chord")]))))) (i8 fX 2 (am (cx "Hand" "bed" (aq 0)) (am (af (aa 1)) aJ))) (af (cY (ae (aW (ae (pC (.str "layer")) (ae (au aG (aa 2) (pC (.int 2))) ao))) ao)))) [some (.rf 0),some (.fz (.tuple (aD ks))),some (.fz (iB w)),none,none,none] (eC b {p.1 with wt:=none} p.2 ps J)= .ok (.fz (.list ((eG b ks w).map mD))) (eC b {p.1 with wt:=none} p.2 ps (J++[.dead])):=by
  cases w with
  |none=>have ca:=HE vb l1 l5 v.kn;exact(qX (Fk (aQ t1) (tZ (ds:=[bD b,.tuple (aD ks)]) (ai (ny rfl) (ai (ag (ah rfl)) aC)) rfl ca)) (kW aN)).trans (by rw[gQ];rfl)
  |some cn=>obtain⟨c,n⟩:=cn;have i2:aG (iB (some (c,n))) (.int 2)=some (.fz (.int n)):=ld;exact(qX (EY (aQ t1) (fm (ds:=[mD (.Nq n)]) (show _=Res.ok (PV.ow [.tuple [.str "layer",.int n]],_) by walk_at "ev"))) (kW aN)).trans (by rw[gQ];rfl)
 have lp:∃ρ' Z',vH (oC (A8 (ae (aa 1) (ae (aa 3) ao)))) (EW 2 (jm (fO 4) (jm (fO 5) vj))) (bx (bc "Hand" "come" bB 3 (aq 0) (am (af (aa 4)) (am (af (aa 5)) aJ)))) [some (.rf 0),some (.fz (.tuple (aD ks))),some (.fz (iB w)),some (.fz (.list ((eG b ks w).map mD))),none,none] (eC b {p.1 with wt:=none} p.2 ps (J++[.dead]))= .ok (.nx ρ') Z'/\HS b (eE ({p.1 with wt:=none},p.2) (ks.zip (eG b ks w))) Z':=by
  have h5:=vb.n5;obtain⟨ρ',Z',h1,h2⟩:=vM (b:=b) ks w (eG b ks w) (ks.zip (eG b ks w)) ({p.1 with wt:=none},p.2) (eC b {p.1 with wt:=none} p.2 ps (J++[.dead])) none none ⟨ps,_,hp,rfl⟩ (SA.ak vb (s:={p.1 with wt:=none}) ⟨sa.ac,sa.oc⟩) (fun q hq=>by
   have:=pp vb v q hq;exact⟨by omega,this.2.lb⟩) (by
   rw[RN];show p.2.length+_<1000;omega)
  refine⟨ρ',Z',?_,h2⟩;unfold vH;rw[qY (zI (d:= .tuple (aD ks)) (e:= .list ((eG b ks w).map mD)) (es:=aD ks) (fs:=(eG b ks w).map mD) (ρ2:=b6 [some (.rf 0),some (.fz (.tuple (aD ks))),some (.fz (iB w)),some (.fz (.list ((eG b ks w).map mD))),none,none]) (aj (ah rfl) (aj (ah rfl) aA)) rfl rfl rfl),RS.bind_ok,Dk];exact h1
 obtain⟨ρ',Z',lp,X6⟩:=lp;refine⟨Z',mj (ρ:=[some (.rf 0),none,none,none,none,none]) (ρ1:=ρ') rfl ?_,X6⟩;exact gp (xP (cW (cr rfl) (ag az) e0) rfl) (gp (xP (cW (cr rfl) (ag az) e2) rfl) (gp (k7 none rfl (ag az)) (gp (xP Zd rfl) lp)))
omit vb in
theorem Ff {c:List Nat×Nat} (h:c.2<26):Mb.canLay0 (cF c)=true:=by show(Mb.canLayAll0 (aD c.1)&&(Mb.strOk (dh c.2)&&true))=true;rw[gL,nR h];rfl
omit vb in
theorem Iz:∀{cs:List (List Nat×Nat)},(∀c∈cs,c.2<26)->oN (.list (cs.map cF)) (.list [])=some (.fz (.bool (!cs.isEmpty))):=by
 intro cs h;have l1:∀cs:List (List Nat×Nat),(∀c∈cs,c.2<26)->Mb.canLayAll0 (cs.map cF)=true:=by
  intro cs
  induction cs with
  |nil=>exact fun _=>rfl
  |cons c r ih=>intro h;show(Mb.canLay0 (cF c)&&Mb.canLayAll0 (r.map cF))=true;rw[Ff (h c Mp),ih fun x hx=>h x (Mj _ hx)];rfl
 have l2:∀cs:List (List Nat×Nat),Mb.depthAll (cs.map cF)<=2:=by
  intro cs
  induction cs with
  |nil=>exact MN _
  |cons c r ih=>show max (Mb.depth (cF c)) (Mb.depthAll (r.map cF))<=2;refine Y7.mpr ⟨?_,ih⟩;show max (Mb.depthAll (aD c.1)+1) (max 0 0)+1<=2;rw[jQ];decide
 show(if((Mb.canLayAll0 (cs.map cF)&&decide (Mb.depthAll (cs.map cF)+1<=64))&&true)=true then some (RV.fz (.bool (!Mb.eqvAll (cs.map cF) []))) else none)=_;rw[l1 cs h,decide_eq_true (show Mb.depthAll (cs.map cF)+1<=64 by have:=l2 cs;omega)];cases cs<;>rfl
theorem E4 {c:List Nat×Nat} (h:c∈ck b ks):c.2<26:=(vb.vc c (Ng.mp h).1).2.2.2
omit vb in
theorem uE (h:ks≠[]) (h5:ks.length<=5):cS (.tuple (aD ks)) (.tuple [nd k])=some (.fz (.tuple (aD (ks++[k])))):=by
 show(if aD ks≠[]/\(aD ks).length+1<=1000000 then some (RV.fz (.tuple (aD ks++[nd k]))) else none)=_;rw[if_pos ⟨by cases ks with
  |nil=>exact absurd rfl h
  |cons x r=>simp[aD],by rw[cJ];omega⟩,zw]
 rfl
theorem zq {fa:bK} {Z1:bv} (hs:∃ps J,Z1=eC b s sn ps J) (h0:ρ[0]? =some (some (.rf 0))) (hk:ks.length<=5) (he:fa ρ Z1= .ok (.fz (.tuple (aD ks))) Z1):iA oN (i8 bI 2 (am (cx "Hand" "bed" (aq 0)) (am fa aJ))) (af (cY ao)) ρ Z1= .ok (.fz (.bool (!(ck b ks).isEmpty))) (Z1++[.lst (((ck b ks).map cF).map .fz)]++[.lst []]):=by obtain⟨ps,J,rfl⟩:=hs;refine cg (tZ (ds:=[bD b,.tuple (aD ks)]) (ai (ny h0) (ai he aC)) rfl (yT vb hk)) (fm (ds:=[]) (ρ':=b6 ρ) (i9 aA rfl (MN _))) ?_;exact re (gq (eK aN)) (gq (ds:=[]) aN) (Iz fun c hc=>E4 vb hc)
theorem Jp (hs:HS b p Z) (sw:SW b p.1) (hk:(k:Int)<b.n) (hn:oS p.1.wt k=false):∃Z',dI [.rf 0,.fz (nd k)] Z= .ok (.fz (.bool (mN b p.1 k))) Z'/\HS b p Z':=by
 cases q:p.1.wt with
 |none=>
  have em:mN b p.1 k=false:=by unfold mN;rw[q]
  rw[em];obtain⟨ps,J,hp,rfl⟩:=hs;have e1:nF (fE p.1.wt) .none=some (.fz (.bool true)):=by rw[q];rfl
  exact⟨_,kr (ρ:=[some (.rf 0),some (.fz (nd k))]) rfl (nY (kH (kj (aE (cg (cr rfl) (ag az) (bG e1)))) (jT (ag az)))),ps,J,hp,rfl⟩
 |some x=>
  obtain⟨ks,g,w⟩:=x;have v:=(sw.wt ks g w q).1;have l5:=v.len vb;have e1:nF (fE p.1.wt) .none=some (.fz (.bool false)):=by rw[q];rfl
  have e2:aG (fE p.1.wt) (.int 2)=some (.fz (iB w)):=by rw[q];exact ld
  have e0:aG (fE p.1.wt) (.int 0)=some (.fz (.tuple (aD ks))):=by rw[q];exact ij
  have ec:=(vf (w:=w) fun c n h=>(v.tp c n h).1).2;cases w with
  |some cn=>
   have em:mN b p.1 k=false:=by unfold mN;rw[q]
   rw[em];obtain⟨ps,J,hp,rfl⟩:=hs;exact⟨_,kr (ρ:=[some (.rf 0),some (.fz (nd k))]) rfl (nY (kH (dU (aE (cg (cr rfl) (ag az) (bG e1))) (kj (aE (cg (cW (cr rfl) (ag az) e2) (ag az) (bG ec))))) (jT (ag az)))),ps,J,hp,rfl⟩
  |none=>
   have em:mN b p.1 k=(decide (ii p.1.ac p.1.oc=0)&& !(ck b (ks++[k])).isEmpty):=by unfold mN;rw[q]
   rw[em];obtain⟨Z1,h1,Qv⟩:=nI hs;have Rz:(wX (aY (iA nF (cx "Hand" "waiting" (aq 0)) (af (pC .none)))) (wX (aY (iA oN (jk (cx "Hand" "waiting" (aq 0)) (af (pC (.int 2)))) (af (pC (.tuple [(.str "chord")]))))) (aY (iA oN (i8 cU 1 (am (bc "Hand" "stands" bJ 1 (aq 0) aJ) aJ)) (af (pC (.int 0))))))) [some (.rf 0),some (.fz (nd k))] Z= .ok (!decide (ii p.1.ac p.1.oc=0)) Z1:=by
    have c3:aY (iA oN (i8 cU 1 (am (bc "Hand" "stands" bJ 1 (aq 0) aJ) aJ)) (af (pC (.int 0)))) [some (.rf 0),some (.fz (nd k))] Z= .ok (!decide (ii p.1.ac p.1.oc=0)) Z1:=
     aE (cg (tS (ds:=[eW p.1]) (ai (cz hs (by decide+kernel) rfl aC rfl h1) aC) rfl (p8 p.1)) (ag az) (bG (nh _ _)))
    obtain⟨ps,J,hp,rfl⟩:=hs;exact dU (aE (cg (cr rfl) (ag az) (bG e1))) (dU (aE (cg (cW (cr rfl) (ag az) e2) (ag az) (bG ec))) c3)
   by_cases hL:ii p.1.ac p.1.oc=0
   ·rw[decide_eq_true hL] at Rz⊢
    obtain⟨ps,J,hp,rfl⟩:=Qv;have UL:k∉ks:=by rw[q] at hn;exact of_decide_eq_false hn
    have VP:(ks++[k]).Nodup:=by rw[P0];exact⟨v.nd,NC.mpr ⟨Nu,QE⟩,fun x hx y hy e=>UL (by rw[<-MC.mp hy,<-e];exact hx)⟩
    have h6:(ks++[k]).length<=5:=uI VP fun x hx=>by
     have h5:=vb.n5;rcases Nh.mp hx with h|h
     ·have:=v.kn x h;omega
     ·rw[MC.mp h];omega
    refine⟨_,kr (ρ:=[some (.rf 0),some (.fz (nd k))]) rfl (gp (ml Rz kU) (jT (zq vb (s:=p.1) (sn:=p.2) ⟨ps,J,rfl⟩ rfl h6 (cg (cW (cr rfl) (ag az) e0) (ag (d:= .tuple [nd k]) (eX (aj (ah rfl) aA) rfl (Mc rfl))) (bG (uE v.ne l5)))))),ps,_,hp,rfl⟩
   ·rw[decide_eq_false hL] at Rz⊢;exact⟨Z1,kr (ρ:=[some (.rf 0),some (.fz (nd k))]) rfl (nY (kH Rz (jT (ag az)))),Qv⟩
end
section
variable {b:Bd} (vb:VB b) {s:NS} {sn:Sn} {ps:List (Nat×Mn)} {J:bv} {ρ:bS} {i:Nat} {Z:bv} {p:NS×Sn} {k:Nat} {a:Mn} {ks:List Nat} {g:Int} {w:Option (Nat×Int)}
include vb
theorem CT (v:WV b p.1.ac ks g w) (hn:k∉ks) (hk:(k:Int)<b.n):(ks++[k]).Nodup/\(ks++[k]).length<=5:=by
 have VP:(ks++[k]).Nodup:=by rw[P0];exact⟨v.nd,NC.mpr ⟨Nu,QE⟩,fun x hx y hy e=>hn (by rw[<-MC.mp hy,<-e];exact hx)⟩
 refine⟨VP,uI VP fun x hx=> ?_⟩;have h5:=vb.n5;rcases Nh.mp hx with h|h
 ·have:=v.kn x h;omega
 ·rw[MC.mp h];omega
theorem ro (sw:SW b p.1) (hk:(k:Int)<b.n) (ha:p.1.ac k=none) (hn:oS p.1.wt k=false) (hm:mN b p.1 k=true):∃ks g,p.1.wt=some (ks,g,none)/\k∉ks/\WV b p.1.ac (ks++[k]) g none/\g<b.wt:=by
 unfold mN at hm;split at hm
 ·rename_i ks g q
  rw[MB] at hm;obtain⟨v,hg⟩:=sw.wt ks g none q;have UL:k∉ks:=by rw[q] at hn;exact of_decide_eq_false hn
  obtain⟨VP,l5⟩:=CT vb v UL hk;refine⟨ks,g,q,UL,⟨by simp,VP,fun x hx=> ?_,fun x hx=> ?_,v.g0,fun c n h=>(by cases h),fun _ x hx=> ?_⟩,hg⟩
  ·rcases Nh.mp hx with h|h
   ·exact v.kn x h
   ·rw[MC.mp h];exact hk
  ·rcases Nh.mp hx with h|h
   ·exact v.kf x h
   ·rw[MC.mp h];exact ha
  ·have hm2:=hm.2
   cases qo:ck b (ks++[k]) with
   |nil=>rw[qo] at hm2;cases hm2
   |cons c r=>
    have hc:c∈ck b (ks++[k]):=by rw[qo];exact Mp
    obtain⟨c1,c2⟩:=Ng.mp hc;have:=OB.mp c2 x hx;exact(vb.vc c c1).2.2.1 x (of_decide_eq_true this)
 ·cases hm
theorem FZ (hs:HS b p Z) (sw:SW b p.1) (hw:p.1.wt=some (ks,g,none)) (v:WV b p.1.ac (ks++[k]) g none) (v0:WV b p.1.ac ks g none) (hl:p.2.length<900):∃Z',dB [.rf 0,.fz (nd k)] Z= .ok (.fz .none) Z'/\HS b (j0 b p k) Z':=by
 obtain⟨ps,J,hp,rfl⟩:=hs;have l5:=v.len vb;have e0:aG (fE p.1.wt) (.int 0)=some (.fz (.tuple (aD ks))):=by rw[hw];exact ij
 have e1:aG (fE p.1.wt) (.int 1)=some (.fz (.int g)):=by rw[hw];exact iE
 have ed:j0 b p k=if(ck b (ks++[k])).map (·.1.length)=[(ks++[k]).length] then bN b ({p.1 with wt:=some (ks++[k],g,none)},p.2) else({p.1 with wt:=some (ks++[k],g,none)},p.2):=by unfold j0;rw[hw]
 have Q1:HS b ({p.1 with wt:=some (ks++[k],g,none)},p.2) (eC b {p.1 with wt:=some (ks++[k],g,none)} p.2 ps J):=⟨ps,J,hp,rfl⟩;have cv:bW (fO 0) lD (af (eN dN (ae (au aG (aa 0) (pC (.int 0))) ao))) ((ck b (ks++[k])).map cF) [none] (eC b {p.1 with wt:=some (ks++[k],g,none)} p.2 ps (J++[.dead])) []= .ok ((aD ((ck b (ks++[k])).map (·.1.length))).map .fz) (eC b {p.1 with wt:=some (ks++[k],g,none)} p.2 ps (J++[.dead])):=by
  refine(kL cF (fun c=> .fz (nd c.1.length)) _ (fun ρ=>∃o,ρ=[o]) (ck b (ks++[k])) _ [] ⟨none,rfl⟩ ?_ ?_).trans (by unfold aD;rw[MV,MV];rfl)
  ·have:=Pe (fun c:List Nat×Nat=>(ks++[k]).all fun k=>decide (k∈c.1)) b.cs;have:=vb.c4;show 0+(ck b (ks++[k])).length<=_;unfold ck;omega
  ·rintro c _ ρ ⟨o,rfl⟩;have i0:aG (cF c) (.int 0)=some (.fz (.tuple (aD c.1))):=ij;refine⟨[some (.fz (cF c))],rfl,rfl,ag (ρ':=b6 [some (.fz (cF c))]) (cG (rv:= .fz (nd c.1.length)) (aj (aw (rv:= .fz (.tuple (aD c.1))) (ah rfl) az rfl rfl i0) aA) rfl ((gj _).trans (by rw[cJ]))),_,rfl⟩
 have fi:jU (i8 bI 2 (am (cx "Hand" "bed" (aq 0)) (am (af (aa 2)) aJ))) [some (.rf 0),some (.fz (nd k)),some (.fz (.tuple (aD (ks++[k]))))] (eC b {p.1 with wt:=some (ks++[k],g,none)} p.2 ps J)= .ok ((ck b (ks++[k])).map cF) (eC b {p.1 with wt:=some (ks++[k],g,none)} p.2 ps (J++[.dead])):=
  (xN (tZ (ds:=[bD b,.tuple (aD (ks++[k]))]) (ai (ny rfl) (ai (ag (ah rfl)) aC)) rfl (yT vb l5)) aN).trans (by rw[gQ];rfl)
 have rt:cY (ae (eN dN (ae (aa 2) ao)) ao) (b6 [some (.rf 0),some (.fz (nd k)),some (.fz (.tuple (aD (ks++[k]))))])= .ok (.ow (aD [(ks++[k]).length]),b6 [some (.rf 0),some (.fz (nd k)),some (.fz (.tuple (aD (ks++[k]))))]):=by refine i9 (ds:=aD [(ks++[k]).length]) (aj (cG (rv:= .fz (nd (ks++[k]).length)) (aj (ah rfl) aA) rfl ((gj _).trans (by rw[cJ]))) aA) rfl (Mc rfl)
 have Rz:aY (iA bQ (ni 1 [] (jU (i8 bI 2 (am (cx "Hand" "bed" (aq 0)) (am (af (aa 2)) aJ)))) (fO 0) lD (af (eN dN (ae (au aG (aa 0) (pC (.int 0))) ao)))) (af (cY (ae (eN dN (ae (aa 2) ao)) ao)))) [some (.rf 0),some (.fz (nd k)),some (.fz (.tuple (aD (ks++[k]))))] (eC b {p.1 with wt:=some (ks++[k],g,none)} p.2 ps J)= .ok (decide ((ck b (ks++[k])).map (·.1.length)=[(ks++[k]).length])) (eC b {p.1 with wt:=some (ks++[k],g,none)} p.2 ps (J++[.dead])++[.lst ((aD ((ck b (ks++[k])).map (·.1.length))).map .fz)]++[.lst ((aD [(ks++[k]).length]).map .fz)]):=
  aE (cg (tU fi cv) (fm rt) (re (gq (eK aN)) (gq aN) (ma _ _)))
 have W5:HS b ({p.1 with wt:=some (ks++[k],g,none)},p.2) (eC b {p.1 with wt:=some (ks++[k],g,none)} p.2 ps (J++[.dead])++[.lst ((aD ((ck b (ks++[k])).map (·.1.length))).map .fz)]++[.lst ((aD [(ks++[k]).length]).map .fz)]):=⟨ps,_,hp,rfl⟩;generalize (eC b {p.1 with wt:=some (ks++[k],g,none)} p.2 ps (J++[.dead])++[.lst ((aD ((ck b (ks++[k])).map (·.1.length))).map .fz)]++[.lst ((aD [(ks++[k]).length]).map .fz)]:bv)=Z3 at Rz W5;rw[ed];refine d6 (ρ:=[some (.rf 0),some (.fz (nd k)),none]) rfl (cE (cg (cW (cr rfl) (ag az) e0) (ag (d:= .tuple [nd k]) (eX (aj (ah rfl) aA) rfl (Mc rfl))) (bG (uE v0.ne (v0.len vb)))) rfl (jX (k7 (some (ks++[k],g,none)) rfl (nJ (ds:=[.tuple (aD (ks++[k])),.int g,iB none]) (ai (ag (d:= .tuple (aD (ks++[k]))) (ah rfl)) (ai (cW (cr rfl) (ag az) e1) (ai (ag az) aC))) (Mc rfl))) (tf Rz (fun q=> ?_) fun q=> ?_)))
 ·rw[if_pos (of_decide_eq_true q)];obtain⟨Z4,h1,h2⟩:=kM vb (p:=({p.1 with wt:=some (ks++[k],g,none)},p.2)) W5 ⟨sw.sa.ac,sw.sa.oc⟩ rfl v hl;exact cN (cz W5 (by decide+kernel) rfl aC rfl h1) ⟨rfl,h2⟩
 ·rw[if_neg (of_decide_eq_false q)];exact fy ⟨rfl,W5⟩
theorem E9 (sw:SW b p.1) (hw:p.1.wt=some (ks,g,none)) (v:WV b p.1.ac (ks++[k]) g none) (hg:g<b.wt):SW b (j0 b p k).1:=by
 have ed:j0 b p k=if(ck b (ks++[k])).map (·.1.length)=[(ks++[k]).length] then bN b ({p.1 with wt:=some (ks++[k],g,none)},p.2) else({p.1 with wt:=some (ks++[k],g,none)},p.2):=by unfold j0;rw[hw]
 rw[ed];split
 ·exact(fx vb (p:=({p.1 with wt:=some (ks++[k],g,none)},p.2)) ⟨sw.sa.ac,sw.sa.oc⟩ fun _ _ _ e=>by cases e;exact v).1
 ·exact⟨⟨sw.sa.ac,sw.sa.oc⟩,fun _ _ _ e=>by cases e;exact⟨v,hg⟩⟩
omit vb in
theorem zm (s:NS) (m:Mn):(cR s m).ac=s.ac/\(cR s m).wt=s.wt:=by unfold cR;split<;>exact⟨rfl,rfl⟩
omit vb in
theorem t8 {m:Mn} (h:SA b s):SA b (cR s m):=by
 unfold cR;split
 ·exact h
 ·exact⟨h.ac,fun o e=>by cases e⟩
theorem Ji (hs:HS b p Z) (sa:SA b p.1) (hw:p.1.wt=none) (hk:(k:Int)<b.n) (hl:p.2.length<900):∃Z',fU [.rf 0,.fz (nd k)] Z= .ok (.fz .none) Z'/\HS b (vX b p k) Z':=by
 obtain⟨L0,L1⟩:=qW vb sa;have lk:=Eh vb (k:=k) L0 L1 hk;obtain⟨vm,nb⟩:=pH vb (k:=k) L0 L1 hk;obtain⟨Z1,h1,Qv⟩:=nI hs;have h5:=vb.n5;have eb:vX b p k=lG b (ii p.1.ac p.1.oc) (cR p.1 (look b (ii p.1.ac p.1.oc) k),p.2) k (look b (ii p.1.ac p.1.oc) k):=rfl;rw[eb];have ly:i8 cU 1 (am (bc "Hand" "stands" bJ 1 (aq 0) aJ) aJ) [some (.rf 0),some (.fz (nd k)),none,none,none] Z= .ok (.fz (.int (ii p.1.ac p.1.oc))) Z1:=tS (ds:=[eW p.1]) (ai (cz hs (by decide+kernel) rfl aC rfl h1) aC) rfl (p8 p.1);generalize ii p.1.ac p.1.oc=L at lk vm nb ly L0 L1;generalize look b L k=m at lk vm nb;obtain⟨ps,J,hp,rfl⟩:=Qv;have lb:=vm.lb;have c0:=kl m;have c1:=Kp m;have c2:=xT m;have c3:=gA m;have c4:=zQ m;have eL:bQ (.int L) (.int 0)=some (.fz (.bool (decide (L=0)))):=jG _ _;have two:(aL (bR (aM (ar (au lr (aa 4) (aW (ae (pC (.str "layer")) (ae (pC (.str "once")) ao)))))) (Pl "Hand" "once" (aq 0) (af (pC .none))) cw) cw) [some (.rf 0),some (.fz (nd k)),some (.fz (.int L)),some (.fz (mD m)),some (.fz (.str (wd m)))] (eC b p.1 p.2 ps J)= .ok (.nx [some (.rf 0),some (.fz (nd k)),some (.fz (.int L)),some (.fz (mD m)),some (.fz (.str (wd m)))]) (eC b (cR p.1 m) p.2 ps J):=by
  have t:aM (ar (au lr (aa 4) (aW (ae (pC (.str "layer")) (ae (pC (.str "once")) ao))))) [some (.rf 0),some (.fz (nd k)),some (.fz (.int L)),some (.fz (mD m)),some (.fz (.str (wd m)))] (eC b p.1 p.2 ps J)= .ok (!(m.RI||m.Uj)) (eC b p.1 p.2 ps J):=aQ (by walk_at "ev");unfold cR;cases q:(m.RI||m.Uj) with
  |true=>rw[q] at t;rw[if_pos rfl];exact gp (ml t kU) kU
  |false=>rw[q] at t;rw[if_neg Mx];exact gp (kH t (ym none rfl (ag az))) kU
 have ua:=zm p.1 m;have us:SA b (cR p.1 m):=t8 sa;have Vs:ps.Perm (ez (cR p.1 m).ac):=by rw[ua.1];exact hp
 have Q1:HS b (cR p.1 m,p.2) (eC b (cR p.1 m) p.2 ps J):=⟨ps,J,Vs,rfl⟩;generalize cR p.1 m=s2 at two ua us Vs Q1;have fin:ON ((bR (aM (ar (au bQ (aa 4) (pC (.str "tap"))))) (Pl "Hand" "waiting" (aq 0) (af (aW (ae (aW (ae (aa 1) ao)) (ae (pC (.int 0)) (ae (aa 3) ao)))))) (bR (g6 (aM (ar (au bQ (aa 4) (pC (.str "letter"))))) (g6 (aM (ar (au bQ (aa 2) (pC (.int 0))))) (aY (iA oN (i8 bI 2 (am (cx "Hand" "bed" (aq 0)) (am (af (aW (ae (aa 1) ao))) aJ))) (af (cY ao)))))) (Pl "Hand" "waiting" (aq 0) (af (aW (ae (aW (ae (aa 1) ao)) (ae (pC (.int 0)) (ae (pC (.tuple [(.str "chord")])) ao)))))) (bR (aM (ar (au bQ (aa 4) (pC (.str "once"))))) (aL (bx (bc "Hand" "come" bB 3 (aq 0) (am (af (aa 1)) (am (af (pC (.tuple [(.str "none")]))) aJ))))
 (Pl "Hand" "once" (aq 0) (af (au aG (aa 3) (pC (.int 1)))))) (bx (bc "Hand" "come" bB 3 (aq 0) (am (af (aa 1)) (am (af (aa 3)) aJ))))))) [some (.rf 0),some (.fz (nd k)),some (.fz (.int L)),some (.fz (mD m)),some (.fz (.str (wd m)))] (eC b s2 p.2 ps J)) (fun _ Z'=>SV.fz .none= .fz .none/\HS b (lG b L (s2,p.2) k m) Z') (fun _ _=>False) (fun r Z'=>r= .fz .none/\HS b (lG b L (s2,p.2) k m) Z'):=by
  have t2:∀{Z:bv},aM (ar (au bQ (aa 4) (pC (.str "tap")))) [some (.rf 0),some (.fz (nd k)),some (.fz (.int L)),some (.fz (mD m)),some (.fz (.str (wd m)))] Z= .ok m.YH Z:=aQ (by walk_at "ev");have t3:∀{Z:bv},aM (ar (au bQ (aa 4) (pC (.str "letter")))) [some (.rf 0),some (.fz (nd k)),some (.fz (.int L)),some (.fz (mD m)),some (.fz (.str (wd m)))] Z= .ok m.UH Z:=aQ (by walk_at "ev");have t4:∀{Z:bv},aM (ar (au bQ (aa 4) (pC (.str "once")))) [some (.rf 0),some (.fz (nd k)),some (.fz (.int L)),some (.fz (mD m)),some (.fz (.str (wd m)))] Z= .ok m.Uj Z:=aQ (by walk_at "ev");have t5:∀{Z:bv},aM (ar (au bQ (aa 2) (pC (.int 0)))) [some (.rf 0),some (.fz (nd k)),some (.fz (.int L)),some (.fz (mD m)),some (.fz (.str (wd m)))] Z= .ok (decide (L=0)) Z:=aQ (by walk_at "ev");have kt:∀{Z:bv},af (aW (ae (aa 1) ao)) [some (.rf 0),some (.fz (nd k)),some (.fz (.int L)),some (.fz (mD m)),some (.fz (.str (wd m)))] Z= .ok (.fz (.tuple (aD [k]))) Z:=ag (ρ':=b6 [some (.rf 0),some (.fz (nd k)),some (.fz (.int L)),some (.fz (mD m)),some (.fz (.str (wd m)))]) (eX (aj (ah rfl) aA) rfl (Mc rfl));have cm:∀{Z:bv},HS b (s2,p.2) Z->VA b.ls.length m->∃Z',bx (bc "Hand" "come" bB 3 (aq 0) (am (af (aa 1)) (am (af (aa 3)) aJ))) [some (.rf 0),some (.fz (nd k)),some (.fz (.int L)),some (.fz (mD m)),some (.fz (.str (wd m)))] Z= .ok (.nx [some (.rf 0),some (.fz (nd k)),some (.fz (.int L)),some (.fz (mD m)),some (.fz (.str (wd m)))]) Z'/\HS b (dS (s2,p.2) k m) Z':=fun{Z} hs va=>by obtain⟨Z',g1,g2⟩:=pN (k:=k) (a:=m) hs (us.ak vb) va.lb (by omega) (show p.2.length<1000 by omega);exact⟨Z',l9 (cz hs (by decide+kernel) rfl (ai (ag (ah rfl)) (ai (ag (ah rfl)) aC)) rfl g1),g2⟩
  cases m with
  |below=>exact absurd rfl nb
  |Qw c n=>refine fW t2 (ji (k7 (some ([k],0,some (c,n))) rfl (ag (ρ':=b6 [some (.rf 0),some (.fz (nd k)),some (.fz (.int L)),some (.fz (mD (.Qw c n))),some (.fz (.str (wd (.Qw c n))))]) ?_)) ⟨rfl,ps,J,Vs,rfl⟩);show _=Res.ok (PV.fz (.tuple [.tuple [nd k],.int 0,mD (.Qw c n)]),_);walk_at "ev"
  |Mr c=>
   obtain⟨d1,d2⟩:VA b.ls.length (.Mr c)/\True:=⟨vm,trivial⟩;by_cases hL:L=0
   ·rw[decide_eq_true hL] at t5
    have ov:=zq vb (s:=s2) (sn:=p.2) (ρ:=[some (.rf 0),some (.fz (nd k)),some (.fz (.int L)),some (.fz (mD (.Mr c))),some (.fz (.str (wd (.Mr c))))]) (Z1:=eC b s2 p.2 ps J) ⟨ps,J,rfl⟩ rfl (ks:=[k]) (Mc rfl) kt;have hs4:HS b (s2,p.2) (eC b s2 p.2 ps J++[.lst (((ck b [k]).map cF).map .fz)]++[.lst []]):=⟨ps,_,Vs,rfl⟩;have Zl:lG b L (s2,p.2) k (.Mr c)=if(!(ck b [k]).isEmpty)=true then({s2 with wt:=some ([k],0,none)},p.2) else dS (s2,p.2) k (.Mr c):=by show(if(decide (L=0)&& !(ck b [k]).isEmpty)=true then _ else _)=_;rw[decide_eq_true hL,Q0]
    rw[Zl];refine bp t2 (tf (c7 t3 (c7 t5 (aE ov))) (fun q=> ?_) fun q=> ?_)
    ·rw[if_pos q];refine ji (k7 (s:=s2) (ps:=ps) (J:=J++[.lst (((ck b [k]).map cF).map .fz)]++[.lst []]) (some ([k],0,none)) rfl (ag (ρ':=b6 [some (.rf 0),some (.fz (nd k)),some (.fz (.int L)),some (.fz (mD (.Mr c))),some (.fz (.str (wd (.Mr c))))]) ?_)) ⟨rfl,ps,_,Vs,rfl⟩;show _=Res.ok (PV.fz (.tuple [.tuple [nd k],.int 0,.tuple [.str "chord"]]),_);walk_at "ev"
    ·rw[if_neg (by rw[q];simp)];obtain⟨Z',g1,g2⟩:=cm hs4 vm;exact bp t4 (ji g1 ⟨rfl,g2⟩)
   ·rw[decide_eq_false hL] at t5
    have Zl:lG b L (s2,p.2) k (.Mr c)=dS (s2,p.2) k (.Mr c):=by show(if(decide (L=0)&& !(ck b [k]).isEmpty)=true then _ else _)=_;rw[decide_eq_false hL,QC,if_neg Mx]
    rw[Zl];obtain⟨Z',g1,g2⟩:=cm Q1 vm;exact bp t2 (bp (c7 t3 (cD t5)) (bp t4 (ji g1 ⟨rfl,g2⟩)))
  |Nq n=>obtain⟨Z',g1,g2⟩:=cm Q1 vm;exact bp t2 (bp (cD t3) (bp t4 (ji g1 ⟨rfl,g2⟩)))
  |none=>obtain⟨Z',g1,g2⟩:=cm Q1 trivial;exact bp t2 (bp (cD t3) (bp t4 (ji g1 ⟨rfl,g2⟩)))
  |once n=>obtain⟨Z',g1,g2⟩:=pN (k:=k) (a:= .none) Q1 (us.ak vb) trivial (by omega) (show p.2.length<1000 by omega);have i1:aG (mD (.once n)) (.int 1)=some (.fz (.int n)):=iE;obtain⟨qs,J2,hq,rfl⟩:=g2;refine bp t2 (bp (cD t3) (fW t4 (jX (l9 (cz Q1 (by decide+kernel) rfl (ai (ag (ah rfl)) (ai (ag az) aC)) rfl g1)) (ji (ym (some n) rfl (ag (ρ':=b6 [some (.rf 0),some (.fz (nd k)),some (.fz (.int L)),some (.fz (mD (.once n))),some (.fz (.str (wd (.once n))))]) ?_)) ⟨rfl,qs,J2,hq,rfl⟩))));show _=Res.ok (PV.fz (.int n),_);exact aw (rv:= .fz (.int n)) (ah rfl) az rfl rfl i1
 refine d6 (ρ:=[some (.rf 0),some (.fz (nd k)),none,none,none]) rfl (cE ly rfl (cE (tS (ds:=[bD b,.int L,nd k]) (ai (ny rfl) (ai (ag (ah rfl)) (ai (ag (ah rfl)) aC))) rfl lk) rfl (cE (ag (d:= .str (wd m)) (ρ':=b6 [some (.rf 0),some (.fz (nd k)),some (.fz (.int L)),some (.fz (mD m)),none]) (aw (rv:= .fz (.str (wd m))) (ah rfl) az rfl rfl c0)) rfl ?_)));refine .eq ?_ fin;have tw:∀{f g:eV} {ρ:bS} {Z Z':bv},aL f cw ρ Z= .ok (.nx ρ) Z'->aL f g ρ Z=g ρ Z':=fun{f g ρ Z Z'} h=>by
  unfold aL at h⊢;cases q:f ρ Z with
  |bad=>rw[q] at h;cases h
  |er x o=>rw[q] at h;cases h
  |ok fl o=>
   rw[q] at h;cases fl with
   |nx r=>cases h;rfl
   |_=>cases h
 exact tw two
end
section
variable {b:Bd} (vb:VB b) {s:NS} {sn:Sn} {ps:List (Nat×Mn)} {J:bv} {ρ:bS} {i:Nat} {Z:bv} {p:NS×Sn} {k:Nat} {a:Mn} {ks:List Nat} {g:Int} {w:Option (Nat×Int)}
include vb
omit vb in
theorem yZ (h:SA b s) (hw:s.wt=none):SW b s:=⟨h,fun _ _ _ e=>by rw[hw] at e;cases e⟩
theorem Ib (sa:SA b p.1) (hw:p.1.wt=none) (hk:(k:Int)<b.n) (ha:p.1.ac k=none):SW b (vX b p k).1:=by
 obtain⟨L0,L1⟩:=qW vb sa;obtain⟨vm,nb⟩:=pH vb (k:=k) L0 L1 hk;have eb:vX b p k=lG b (ii p.1.ac p.1.oc) (cR p.1 (look b (ii p.1.ac p.1.oc) k),p.2) k (look b (ii p.1.ac p.1.oc) k):=rfl;rw[eb];generalize ii p.1.ac p.1.oc=L at vm nb L0 L1;generalize look b L k=m at vm nb;have ua:=zm p.1 m;have us:SA b (cR p.1 m):=t8 sa;have Zu:(cR p.1 m).wt=none:=ua.2.trans hw;have ha2:(cR p.1 m).ac k=none:=by rw[ua.1];exact ha
 generalize cR p.1 m=s2 at us Zu ha2;have w1:=vb.w1;have n1:[k].Nodup:=NC.mpr ⟨Nu,QE⟩;have kn:∀x∈[k],(x:Int)<b.n:=fun x hx=>by rw[MC.mp hx];exact hk
 have kf:∀x∈[k],s2.ac x=none:=fun x hx=>by rw[MC.mp hx];exact ha2
 have cm:∀m,VA b.ls.length m->SW b (dS (s2,p.2) k m).1:=fun m va=>yZ (us.cm (p:=(s2,p.2)) hk va) Zu;cases m with
 |below=>exact absurd rfl nb
 |Qw c n=>refine⟨⟨us.ac,us.oc⟩,fun _ _ _ e=> ?_⟩;cases e;exact⟨⟨by simp,n1,kn,kf,P8 _,fun c' n' e=>by cases e;exact⟨vm.1,vm.2,rfl⟩,fun e=>by cases e⟩,by omega⟩
 |Mr c=>
  show SW b (if(decide (L=0)&& !(ck b [k]).isEmpty)=true then({s2 with wt:=some ([k],0,none)},p.2) else dS (s2,p.2) k (.Mr c)).1;split
  ·rename_i q
   refine⟨⟨us.ac,us.oc⟩,fun _ _ _ e=> ?_⟩;cases e;refine⟨⟨by simp,n1,kn,kf,P8 _,fun c' n' e=>(by cases e),fun _ x hx=> ?_⟩,by omega⟩;have q2:=(MB _ _▸q:_/\_).2;cases qo:ck b [k] with
   |nil=>rw[qo] at q2;cases q2
   |cons c r=>
    have hc:c∈ck b [k]:=by rw[qo];exact Mp
    obtain⟨c1,c2⟩:=Ng.mp hc;exact(vb.vc c c1).2.2.1 x (of_decide_eq_true (OB.mp c2 x hx))
  ·exact cm _ vm
 |Nq n=>exact cm _ vm
 |none=>exact cm _ trivial
 |once n=>have h:=cm .none trivial;exact⟨⟨h.sa.ac,fun o e=>by cases e;exact vm⟩,fun ks g w e=>by have e:s2.wt=some (ks,g,w):=e;rw[Zu] at e;cases e⟩
theorem SW.wd (h:SW b s):WD b s:=fun ks g w e=>(h.wt ks g w e).1
omit vb in
theorem ya (qs:List (Nat×Mn)):∀{p:NS×Sn},p.1.ac k=none->k∉qs.map (·.1)->(eE p qs).1.ac k=none:=by
 induction qs with
 |nil=>exact fun h _=>h
 |cons q r ih=>intro p h hn;rw[Ms,MH,not_or] at hn;exact ih (p:=dS p q.1 q.2) ((gx hn.1).trans h) hn.2
omit vb in
theorem rz (ha:p.1.ac k=none) (hn:oS p.1.wt k=false):(bN b p).1.ac k=none:=by
 unfold bN;split
 ·exact ha
 ·rename_i ks g w q;refine ya _ (p:=({p.1 with wt:=none},p.2)) ha fun z=> ?_;rw[q] at hn;obtain⟨x,h1,rfl⟩:=Nd.mp z;exact of_decide_eq_false hn (Pp h1).1
theorem A1 (sw:SW b p.1) (hk:(k:Int)<b.n):SW b (g8 b p k).1:=by
 unfold g8;split
 ·exact sw
 ·rename_i q
  rw[Qr,not_or] at q;have ha:p.1.ac k=none:=by
   cases z:p.1.ac k with
   |none=>rfl
   |some x=>rw[z] at q;exact absurd rfl q.1
  have hn:oS p.1.wt k=false:=by
   cases z:oS p.1.wt k with
   |false=>rfl
   |true=>exact absurd z q.2
  split
  ·rename_i qm;obtain⟨ks,g,e1,e2,e3,e4⟩:=ro vb sw hk ha hn qm;exact E9 vb sw e1 e3 e4
  ·have d:=fx vb (p:=p) sw.sa (SW.wd vb sw);exact Ib vb d.1.sa d.2.1 hk (rz ha hn)
theorem CM (hs:HS b p Z) (sw:SW b p.1) (hk:(k:Int)<b.n) (hl:p.2.length<800):∃Z',ik [.rf 0,.fz (nd k)] Z= .ok (.fz .none) Z'/\HS b (g8 b p k) Z':=by
 have h5:=vb.n5;have Yo:k<5:=by omega
 have c1:wX (aY (oW false (af (aa 1)) (cx "Hand" "acts" (aq 0)))) (aY (bc "Hand" "is_waiting" cB 2 (aq 0) (am (af (aa 1)) aJ))) [some (.rf 0),some (.fz (nd k))] Z= .ok ((p.1.ac k).isSome||oS p.1.wt k) Z:=by
  have m1:=cz (ρ:=[some (.rf 0),some (.fz (nd k))]) (i:=0) (m:= "is_waiting") (fa:=am (af (aa 1)) aJ) hs (by decide+kernel) rfl (ai (ag (ah rfl)) aC) rfl (C0 (k:=k) hs);obtain⟨ps,J,hp,rfl⟩:=hs
  have d1:oW false (af (aa 1)) (cx "Hand" "acts" (aq 0)) [some (.rf 0),some (.fz (nd k))] (eC b p.1 p.2 ps J)= .ok (.fz (.bool (p.1.ac k).isSome)) (eC b p.1 p.2 ps J):=
   (rm (ag (d:=nd k) (ah rfl)) (hU rfl) rfl rfl).trans (by rw[show e9 (ps.map iC) (.inl (k:Int))=_ from ie hp Yo];cases p.1.ac k<;>rfl)
  cases q:(p.1.ac k).isSome with
  |true=>rw[q] at d1;rw[Qk];exact kj (aE d1)
  |false=>rw[q] at d1;rw[Pk];exact dU (aE d1) (aE m1)
 refine d6 (ρ:=[some (.rf 0),some (.fz (nd k))]) rfl (qO c1 (fun q=> ?_) fun q=>cK ?_)
 ·unfold g8;rw[if_pos q];exact mf ⟨rfl,hs⟩
 rw[QF] at q;have ha:p.1.ac k=none:=by
  cases z:p.1.ac k with
  |none=>rfl
  |some x=>rw[z] at q;exact absurd q.1 (by simp)
 have ep:g8 b p k=if mN b p.1 k=true then j0 b p k else vX b (bN b p) k:=by unfold g8;rw[if_neg (by rw[q.1,q.2];simp)]
 rw[ep];obtain⟨Z1,m2,Qv⟩:=Jp vb hs sw hk q.2;refine qO (aE (cz hs (by decide+kernel) rfl (ai (ag (ah rfl)) aC) rfl m2)) (fun qm=> ?_) fun qm=>cK ?_
 ·rw[if_pos qm];obtain⟨ks,g,e1,e2,e3,e4⟩:=ro vb sw hk ha q.2 qm;obtain⟨Z2,h2,Q1⟩:=FZ vb Qv sw e1 e3 (sw.wt _ _ _ e1).1 (by omega);exact xI (dJ (cz Qv (by decide+kernel) rfl (ai (ag (ah rfl)) aC) rfl h2) (mf ⟨rfl,Q1⟩))
 ·rw[if_neg (by rw[qm];simp)]
  have d:=fx vb (p:=p) sw.sa (SW.wd vb sw);have bg:∀Z2,HS b (bN b p) Z2->ON (bx (bc "Hand" "begin" fU 2 (aq 0) (am (af (aa 1)) aJ)) [some (.rf 0),some (.fz (nd k))] Z2) (fun _ Z'=>SV.fz .none= .fz .none/\HS b (vX b (bN b p) k) Z') (fun _ _=>False) (fun r Z'=>r= .fz .none/\HS b (vX b (bN b p) k) Z'):=fun Z2 Q1=>by obtain⟨Z3,h3,W5⟩:=Ji vb Q1 d.1.sa d.2.1 hk (by have:=d.2.2.1;omega);exact cN (cz Q1 (by decide+kernel) rfl (ai (ag (ah rfl)) aC) rfl h3) ⟨rfl,W5⟩
  cases qw:p.1.wt with
  |none=>
   have ed:bN b p=p:=by unfold bN;rw[qw]
   have e1:iz (fE p.1.wt) .none=some (.fz (.bool false)):=by rw[qw];rfl
   have bg':=bg Z1 (by rw[ed];exact Qv);obtain⟨ps,J,hp,rfl⟩:=Qv;exact dL (aE (cg (cr rfl) (ag az) (bG e1))) (cK bg')
  |some x=>
   obtain⟨ks,g,w⟩:=x;have e1:iz (fE p.1.wt) .none=some (.fz (.bool true)):=by rw[qw];rfl
   obtain⟨Z2,h2,Q1⟩:=kM vb Qv sw.sa qw (sw.wt _ _ _ qw).1 (by omega);have m3:=cz (ρ:=[some (.rf 0),some (.fz (nd k))]) (i:=0) (m:= "decide") (fa:=aJ) Qv (by decide+kernel) rfl aC rfl h2;obtain⟨ps,J,hp,rfl⟩:=Qv;exact fG (aE (cg (cr rfl) (ag az) (bG e1))) (dJ m3 (bg Z2 Q1))
theorem jt (sw:SW b p.1) (hw:oS p.1.wt k=true):SW b (bU b p k).1/\(bU b p k).2.length<=p.2.length+5:=by
 unfold bU;split
 ·have d:=fx vb (p:=p) sw.sa (SW.wd vb sw);exact⟨d.1,d.2.2.1⟩
 ·rename_i ks g c n q;have v:=(sw.wt _ _ _ q).1;rw[q] at hw;have hk:=v.kn k (of_decide_eq_true hw);have hc:c<26:=(v.tp c n rfl).1;refine⟨yZ (SA.cm (p:=({p.1 with wt:=none},p.2)) ⟨sw.sa.ac,sw.sa.oc⟩ hk hc) rfl,?_⟩;have:=mQ (p:=({p.1 with wt:=none},p.2)) (k:=k) (a:= .Mr c);have:(dS ({p.1 with wt:=none},p.2) k (.Mr c)).2.length<=p.2.length+1:=this;omega
 ·exact⟨sw,Vb _ _⟩
theorem gD (hs:HS b p Z) (sw:SW b p.1) (hw:oS p.1.wt k=true) (hl:p.2.length<800):∃Z',gH [.rf 0,.fz (nd k)] Z= .ok (.fz .none) Z'/\HS b (bU b p k) Z':=by
 have h5:=vb.n5;cases q:p.1.wt with
 |none=>rw[q] at hw;cases hw
 |some x=>
  obtain⟨ks,g,w⟩:=x;have v:=(sw.wt _ _ _ q).1;have WG:k∈ks:=by rw[q] at hw;exact of_decide_eq_true hw
  have e2:aG (fE p.1.wt) (.int 2)=some (.fz (iB w)):=by rw[q];exact ld
  have ec:=(vf (w:=w) fun c n h=>(v.tp c n h).1).1;have t1:∀{Z:bv},aM (ar (au bQ (aa 2) (pC (.tuple [.str "chord"])))) [some (.rf 0),some (.fz (nd k)),some (.fz (iB w))] Z= .ok w.isNone Z:=aQ (ρ':=b6 [some (.rf 0),some (.fz (nd k)),some (.fz (iB w))]) (aZ (aw (rv:= .fz (.bool w.isNone)) (ah rfl) az rfl rfl ec) rfl);cases w with
  |none=>
   have es:bU b p k=bN b p:=by unfold bU;rw[q]
   rw[es];obtain⟨Z2,h2,Q1⟩:=kM vb hs sw.sa q v (by omega);have m3:=cz (ρ:=[some (.rf 0),some (.fz (nd k)),some (.fz (iB none))]) (i:=0) (m:= "decide") (fa:=aJ) hs (by decide+kernel) rfl aC rfl h2;obtain⟨ps,J,hp,rfl⟩:=hs;exact d6 (ρ:=[some (.rf 0),some (.fz (nd k)),none]) rfl (cE (cW (cr rfl) (ag az) e2) rfl (fW t1 (cN m3 ⟨rfl,Q1⟩)))
  |some cn=>
   obtain⟨c,n⟩:=cn;have es:bU b p k=dS ({p.1 with wt:=none},p.2) k (.Mr c):=by unfold bU;rw[q]
   rw[es];have hc:c<26:=(v.tp c n rfl).1;have hk:=v.kn k WG;obtain⟨ps,J,hp,rfl⟩:=hs;have Qv:HS b ({p.1 with wt:=none},p.2) (eC b {p.1 with wt:=none} p.2 ps J):=⟨ps,J,hp,rfl⟩;obtain⟨Z2,h2,Q1⟩:=pN (k:=k) (a:= .Mr c) Qv (SA.ak vb (s:={p.1 with wt:=none}) ⟨sw.sa.ac,sw.sa.oc⟩) hc (by omega) (show p.2.length<1000 by omega);have i1:aG (iB (some (c,n))) (.int 1)=some (.fz (.str (dh c))):=iE;exact d6 (ρ:=[some (.rf 0),some (.fz (nd k)),none]) rfl (cE (cW (cr rfl) (ag az) e2) rfl (bp t1 (jX (k7 none rfl (ag az)) (cN (cz Qv (by decide+kernel) rfl (ai (ag (ah rfl)) (ai (ag (d:=mD (.Mr c)) (ρ':=b6 [some (.rf 0),some (.fz (nd k)),some (.fz (iB (some (c,n))))]) (eX (aj az (aj (aw (rv:= .fz (.str (dh c))) (ah rfl) az rfl rfl i1) aA)) rfl (Mc rfl))) aC)) rfl h2) ⟨rfl,Q1⟩))))
omit vb in
theorem Gz (sw:SW b p.1):SW b (go p k).1:=by
 refine⟨sw.sa.gg,?_⟩;unfold go;split
 ·intro ks g w e;obtain⟨v,hg⟩:=sw.wt ks g w e;exact⟨⟨v.ne,v.nd,v.kn,fun x hx=>by
   by_cases z:x=k
   ·rw[z];exact dW
   ·exact(gx z).trans (v.kf x hx),v.g0,v.tp,v.ch⟩,hg⟩
 ·exact sw.wt
theorem EE (sw:SW b p.1):SW b (sd b p k).1:=by
 unfold sd;split
 ·rename_i q;exact Gz (jt vb sw q).1
 ·exact Gz sw
theorem Gg (hs:HS b p Z) (sw:SW b p.1) (hk:(k:Int)<b.n) (hl:p.2.length<700):∃Z',iR [.rf 0,.fz (nd k)] Z= .ok (.fz .none) Z'/\HS b (sd b p k) Z':=by
 have h5:=vb.n5;have Yo:k<5:=by omega
 have two:∀{p:NS×Sn} {Z:bv},HS b p Z->SW b p.1->p.2.length<800->ON (bR (aY (oW false (af (aa 1)) (cx "Hand" "acts" (aq 0)))) (bx (bc "Hand" "go" jl 2 (aq 0) (am (af (aa 1)) aJ))) cw [some (.rf 0),some (.fz (nd k))] Z) (fun _ Z'=>SV.fz .none= .fz .none/\HS b (go p k) Z') (fun _ _=>False) (fun r Z'=>r= .fz .none/\HS b (go p k) Z'):=fun{p Z} hs sw hl=>by
  cases qa:p.1.ac k with
  |none=>
   have eg:go p k=p:=by unfold go;rw[qa]
   rw[eg];obtain⟨ps,J,hp,rfl⟩:=hs;refine bp (aE ((rm (ag (d:=nd k) (ah rfl)) (hU rfl) rfl rfl).trans (by rw[show e9 (ps.map iC) (.inl (k:Int))=_ from ie hp Yo,qa];rfl))) (fy ⟨rfl,ps,J,hp,rfl⟩)
  |some a=>obtain⟨Z2,h2,Q1⟩:=JK hs (sw.sa.ak vb) qa (by omega);have m3:=cz (ρ:=[some (.rf 0),some (.fz (nd k))]) (i:=0) (m:= "go") (fa:=am (af (aa 1)) aJ) hs (by decide+kernel) rfl (ai (ag (ah rfl)) aC) rfl h2;obtain⟨ps,J,hp,rfl⟩:=hs;exact fW (aE ((rm (ag (d:=nd k) (ah rfl)) (hU rfl) rfl rfl).trans (by rw[show e9 (ps.map iC) (.inl (k:Int))=_ from ie hp Yo,qa];rfl))) (cN m3 ⟨rfl,Q1⟩)
 refine d6 (ρ:=[some (.rf 0),some (.fz (nd k))]) rfl (qO (aE (cz hs (by decide+kernel) rfl (ai (ag (ah rfl)) aC) rfl (C0 (k:=k) hs))) (fun q=> ?_) fun q=> ?_)
 ·unfold sd;rw[if_pos q];obtain⟨Z1,h1,Qv⟩:=gD vb hs sw q (by omega);have z:=jt vb sw q;exact dJ (cz hs (by decide+kernel) rfl (ai (ag (ah rfl)) aC) rfl h1) (two Qv z.1 (by omega))
 ·unfold sd;rw[if_neg (by rw[q];simp)];exact cK (two hs sw (by omega))
theorem FU (sw:SW b p.1):SW b (gv b p).1:=by
 unfold gv;split
 ·exact sw
 ·rename_i ks g w q
  obtain⟨v,hg⟩:=sw.wt ks g w q;have v':WV b p.1.ac ks (g+1) w:=⟨v.ne,v.nd,v.kn,v.kf,by have:=v.g0;omega,v.tp,v.ch⟩;split
  ·exact(fx vb (p:=({p.1 with wt:=some (ks,g+1,w)},p.2)) ⟨sw.sa.ac,sw.sa.oc⟩ fun _ _ _ e=>by cases e;exact v').1
  ·rename_i h;exact⟨⟨sw.sa.ac,sw.sa.oc⟩,fun _ _ _ e=>by cases e;exact⟨v',by omega⟩⟩
theorem Ez (hs:HS b p Z) (sw:SW b p.1) (hl:p.2.length<800):∃Z',gn [.rf 0] Z= .ok (.fz .none) Z'/\HS b (gv b p) Z':=by
 obtain⟨ps,J,hp,rfl⟩:=hs;cases q:p.1.wt with
 |none=>
  have ew:gv b p=p:=by unfold gv;rw[q]
  rw[ew];have e1:nF (fE p.1.wt) .none=some (.fz (.bool true)):=by rw[q];rfl
  exact d6 (ρ:=[some (.rf 0),none]) rfl (fG (aE (cg (cr rfl) (ag az) (bG e1))) (mf ⟨rfl,ps,J,hp,rfl⟩))
 |some x=>
  obtain⟨ks,g,w⟩:=x;have v:=(sw.wt _ _ _ q).1;have v':WV b p.1.ac ks (g+1) w:=⟨v.ne,v.nd,v.kn,v.kf,by have:=v.g0;omega,v.tp,v.ch⟩;have ew:gv b p=if g+1=b.wt then bN b ({p.1 with wt:=some (ks,g+1,w)},p.2) else({p.1 with wt:=some (ks,g+1,w)},p.2):=by unfold gv;rw[q]
  rw[ew];have e1:nF (fE p.1.wt) .none=some (.fz (.bool false)):=by rw[q];rfl
  have e0:aG (fE p.1.wt) (.int 0)=some (.fz (.tuple (aD ks))):=by rw[q];exact ij
  have e2:aG (fE p.1.wt) (.int 2)=some (.fz (iB w)):=by rw[q];exact ld
  have e3:aG (fE p.1.wt) (.int 1)=some (.fz (.int g)):=by rw[q];exact iE
  have e4:aG (bD b) (.int 3)=some (.fz (.int b.wt)):=Gj (i:=3) rfl;have Qv:HS b ({p.1 with wt:=some (ks,g+1,w)},p.2) (eC b {p.1 with wt:=some (ks,g+1,w)} p.2 ps J):=⟨ps,J,hp,rfl⟩;refine d6 (ρ:=[some (.rf 0),none]) rfl (dL (aE (cg (cr rfl) (ag az) (bG e1))) (cK (cE (cg (cW (cr rfl) (ag az) e3) (ag az) (bG (gZ _ _))) rfl (jX (k7 (some (ks,g+1,w)) rfl (nJ (ds:=[.tuple (aD ks),.int (g+1),iB w]) (ai (cW (cr rfl) (ag az) e0) (ai (ag (ah rfl)) (ai (cW (cr rfl) (ag az) e2) aC))) (Mc rfl))) (tf (aE (cg (ag (d:= .int (g+1)) (ah rfl)) (cW (ny rfl) (ag az) e4) (bG (jG _ _)))) (fun z=> ?_) fun z=> ?_)))))
  ·rw[if_pos (of_decide_eq_true z)];obtain⟨Z2,h2,Q1⟩:=kM vb Qv (p:=({p.1 with wt:=some (ks,g+1,w)},p.2)) ⟨sw.sa.ac,sw.sa.oc⟩ rfl v' (show p.2.length<900 by omega);exact cN (cz Qv (by decide+kernel) rfl aC rfl h2) ⟨rfl,Q1⟩
  ·rw[if_neg (of_decide_eq_false z)];exact fy ⟨rfl,Qv⟩
noncomputable def Qc.Tg:Qc->Bool
 | .turn=>true
 |_=>false
noncomputable def Qc.isDown:Qc->Bool
 | .down _=>true
 |_=>false
def EV (b:Bd):Qc->Prop
 | .down k=>(k:Int)<b.n
 | .up k=>(k:Int)<b.n
 | .turn=>True
theorem zP {e:Qc} (sw:SW b s) (he:EV b e):SW b (dj b s e).1:=by
 cases e with
 |down k=>exact A1 vb (p:=(s,[])) sw he
 |up k=>exact EE vb (p:=(s,[])) sw
 |turn=>exact FU vb (p:=(s,[])) sw
omit vb in
theorem sA:∀l:List (Nat×Mn),aF rq (l.map pD)=some (l.map iC)
 |[]=>rfl
 |q::r=>by rw[Ms];unfold aF;rw[sA r];rfl
omit vb in
theorem wv:∀(l acc:List (Nat×Mn)),((acc++l).map (·.1)).Nodup->gm (acc.map iC) (l.map iC)=(acc++l).map iC
 |[],acc,_=>by rw[ME];rfl
 |q::r,acc,h=>by
  have hn:∀x∈acc,x.1≠q.1:=fun x hx e=>by rw[MZ,P0] at h;exact h.2.2 _ (Nd.mpr ⟨x,hx,rfl⟩) q.1 Mp e
  have e1:cZ (acc.map iC) (iC q).1 (iC q).2=(acc++[q]).map iC:=by
   unfold cZ;rw[if_neg ?_,MZ]
   ·rfl
   ·intro z;obtain⟨kv,h1,h2⟩:=N2.mp z;obtain⟨x,h3,rfl⟩:=Nd.mp h1;have:=Sum.inl.inj (of_decide_eq_true h2);exact hn x h3 (by omega)
  show gm (cZ (acc.map iC) (iC q).1 (iC q).2) (r.map iC)=_;rw[e1,wv r (acc++[q]) (by rw[Ni];exact h),Ni];rfl
omit vb in
theorem Er:dX [.rf 0,.fz (bD b),.fz (eW s)] [.obj "Hand" []]= .ok (.fz .none) (eC b s [] (ez s.ac) []):=by
 have e0:aG (eW s) (.int 0)=some (.fz (.tuple ((ez s.ac).map pD))):=ij;have e1:aG (eW s) (.int 1)=some (.fz (fE s.wt)):=iE;have e2:aG (eW s) (.int 2)=some (.fz (lm s.oc)):=ld;have p0:ff "bed" (.fz (bD b)) []=([("bed",.fz (bD b))]:List (Str×SV)):=rfl;have p1:ff "acts" (.rf 1) ([("bed",.fz (bD b))]:List (Str×SV))=([("bed",.fz (bD b)),("acts",.rf 1)]:List (Str×SV)):=by unfold ff;rw[if_neg (by decide+kernel)];rfl
 have p2:ff "waiting" (.fz (fE s.wt)) ([("bed",.fz (bD b)),("acts",.rf 1)]:List (Str×SV))=([("bed",.fz (bD b)),("acts",.rf 1),("waiting",.fz (fE s.wt))]:List (Str×SV)):=by unfold ff;rw[if_neg (by decide+kernel)];unfold ff;rw[if_neg (by decide+kernel)];rfl
 have p3:ff "once" (.fz (lm s.oc)) ([("bed",.fz (bD b)),("acts",.rf 1),("waiting",.fz (fE s.wt))]:List (Str×SV))=([("bed",.fz (bD b)),("acts",.rf 1),("waiting",.fz (fE s.wt)),("once",.fz (lm s.oc))]:List (Str×SV)):=by unfold ff;rw[if_neg (by decide+kernel)];unfold ff;rw[if_neg (by decide+kernel)];unfold ff;rw[if_neg (by decide+kernel)];rfl
 have p4:ff "sent" (.rf 2) ([("bed",.fz (bD b)),("acts",.rf 1),("waiting",.fz (fE s.wt)),("once",.fz (lm s.oc))]:List (Str×SV))=sf b s:=by unfold ff;rw[if_neg (by decide+kernel)];unfold ff;rw[if_neg (by decide+kernel)];unfold ff;rw[if_neg (by decide+kernel)];unfold ff;rw[if_neg (by decide+kernel)];rfl
 have mg:gm [] ((ez s.ac).map iC)=(ez s.ac).map iC:=wv (ez s.ac) [] (qj s.ac);have n2:∀{x:SV} {ρ:bS} {fs:List (Str×SV)} {Z:bv} {fe:bK} {f:Str} {c:Cell} {Z1:bv},ρ[0]? =some (some (.rf 0))->fe ρ Z= .ok x (.obj "Hand" fs::Z1)->fs.length<100->Pl "Hand" f (aq 0) fe ρ Z= .ok (.nx ρ) (.obj "Hand" (ff f x fs)::Z1):=fun h he hl=>(xX he (bj h) rfl hl).trans rfl
 have ha:vC (af (au aG (aa 2) (pC (.int 0)))) [some (.rf 0),some (.fz (bD b)),some (.fz (eW s))] [.obj "Hand" ([("bed",.fz (bD b))]:List (Str×SV))]= .ok (.rf 1) [.obj "Hand" ([("bed",.fz (bD b))]:List (Str×SV)),.Oe ((ez s.ac).map iC)]:=
  (Gq (ag (d:= .tuple ((ez s.ac).map pD)) (aw (rv:= .fz (.tuple ((ez s.ac).map pD))) (ah rfl) az rfl rfl e0)) (sA _)).trans (by rw[mg];rfl)
 refine mj (ρ:=[some (.rf 0),some (.fz (bD b)),some (.fz (eW s))]) (ρ1:=[some (.rf 0),some (.fz (bD b)),some (.fz (eW s))]) rfl (gp (n2 rfl (c:= .dead) (ag (d:=bD b) (ah rfl)) (Mc rfl)) (gp (n2 rfl (c:= .dead) ha (Mc rfl)) (gp (n2 rfl (c:= .dead) (ag (d:=fE s.wt) (aw (rv:= .fz (fE s.wt)) (ah rfl) az rfl rfl e1)) (Mc rfl)) (gp (n2 rfl (c:= .dead) (ag (d:=lm s.oc) (aw (rv:= .fz (lm s.oc)) (ah rfl) az rfl rfl e2)) (Mc rfl)) ?_))));rw[p1,p2,p3];refine(n2 (fs:=([("bed",.fz (bD b)),("acts",.rf 1),("waiting",.fz (fE s.wt)),("once",.fz (lm s.oc))]:List (Str×SV))) rfl (c:= .dead) (fm (ds:=[]) (i9 aA rfl (MN _))) (Mc rfl)).trans ?_;show RS.ok _ (Cell.obj "Hand" (ff "sent" (.rf 2) ([("bed",.fz (bD b)),("acts",.rf 1),("waiting",.fz (fE s.wt)),("once",.fz (lm s.oc))]:List (Str×SV)))::_)=_;rw[p4];rfl
omit vb in
theorem Ex (e:Qc):∃x:Str,aG (dg e) (.int 0)=some (.fz (.str x))/\bQ (.str x) (.str "turn")=some (.fz (.bool (e.Tg)))/\bQ (.str x) (.str "down")=some (.fz (.bool (e.isDown))):=by
 have o1:Mb.strOk "down"=true:=by decide+kernel
 have o2:Mb.strOk "up"=true:=by decide+kernel
 have o3:Mb.strOk "turn"=true:=by decide+kernel
 cases e with
 |down k=>exact⟨"down",ij,lC o1 o3 (by decide+kernel),v9 o1⟩
 |up k=>exact⟨"up",ij,lC o2 o3 (by decide+kernel),lC o2 o1 (by decide+kernel)⟩
 |turn=>exact⟨"turn",ij,v9 o3,lC o3 o1 (by decide+kernel)⟩
theorem EI {e:Qc} (sw:SW b s) (he:EV b e):∃Z',oi [.fz (bD b),.fz (eW s),.fz (dg e)] []= .ok (.tp [.rf 2,.fz (eW (dj b s e).1)]) Z'/\sh Z' (.rf 2)=some (.list ((dj b s e).2.map i7)):=by
 have WT:HS b (s,[]) (eC b s [] (ez s.ac) []):=⟨ez s.ac,[],.refl _,rfl⟩;obtain⟨x,w0,w1,w2⟩:=Ex e;have t1:∀{Z:bv},aM (ar (au bQ (au aG (aa 2) (pC (.int 0))) (pC (.str "turn")))) [some (.fz (bD b)),some (.fz (eW s)),some (.fz (dg e)),some (.rf 0)] Z= .ok (e.Tg) Z:=aQ (ρ':=b6 [some (.fz (bD b)),some (.fz (eW s)),some (.fz (dg e)),some (.rf 0)]) (aZ (aw (rv:= .fz (.bool (e.Tg))) (aw (rv:= .fz (.str x)) (ah rfl) az rfl rfl w0) az rfl rfl w1) rfl);have t2:∀{Z:bv},aM (ar (au bQ (au aG (aa 2) (pC (.int 0))) (pC (.str "down")))) [some (.fz (bD b)),some (.fz (eW s)),some (.fz (dg e)),some (.rf 0)] Z= .ok (e.isDown) Z:=aQ (ρ':=b6 [some (.fz (bD b)),some (.fz (eW s)),some (.fz (dg e)),some (.rf 0)]) (aZ (aw (rv:= .fz (.bool (e.isDown))) (aw (rv:= .fz (.str x)) (ah rfl) az rfl rfl w0) az rfl rfl w2) rfl);have fin:∀{Z:bv},HS b (dj b s e) Z->ON (hV (jZ (am (cx "Hand" "sent" (aq 3)) (am (bc "Hand" "stands" bJ 1 (aq 3) aJ) aJ))) [some (.fz (bD b)),some (.fz (eW s)),some (.fz (dg e)),some (.rf 0)] Z) (fun _ Z'=>SV.fz .none= .tp [.rf 2,.fz (eW (dj b s e).1)]/\sh Z' (.rf 2)=some (.list ((dj b s e).2.map i7))) (fun _ _=>False) (fun r Z'=>r= .tp [.rf 2,.fz (eW (dj b s e).1)]/\sh Z' (.rf 2)=some (.list ((dj b s e).2.map i7))):=fun{Z} hs=>by obtain⟨Z1,h1,Qv⟩:=nI hs;have m:=cz (ρ:=[some (.fz (bD b)),some (.fz (eW s)),some (.fz (dg e)),some (.rf 0)]) (i:=3) (m:= "stands") (fa:=aJ) hs (by decide+kernel) rfl aC rfl h1;obtain⟨ps,J,hp,rfl⟩:=hs;obtain⟨qs,J2,hq,rfl⟩:=Qv;exact nH (G9 (ai (uP rfl) (ai m aC)) (Mc rfl) rfl rfl) ⟨rfl,gq rfl⟩
 have mk:tj "Hand" dX 3 (am (af (aa 0)) (am (af (aa 1)) aJ)) [some (.fz (bD b)),some (.fz (eW s)),some (.fz (dg e)),none] []= .ok (.rf 0) (eC b s [] (ez s.ac) []):=Hl (ai (ag (ah rfl)) (ai (ag (ah rfl)) aC)) rfl Er;refine d6 (ρ:=[some (.fz (bD b)),some (.fz (eW s)),some (.fz (dg e)),none]) rfl (cE mk rfl ?_);show ON (aL _ _ [some (.fz (bD b)),some (.fz (eW s)),some (.fz (dg e)),some (.rf 0)] _) _ _ _;cases e with
 |turn=>obtain⟨Z1,h1,Qv⟩:=Ez vb (p:=(s,[])) WT sw (show 0<800 by decide);exact fG t1 (dJ (cz WT (by decide+kernel) rfl aC rfl h1) (fin Qv))
 |down k=>obtain⟨Z1,h1,Qv⟩:=CM vb (p:=(s,[])) WT sw he (show 0<800 by decide);have i1:aG (dg (.down k)) (.int 1)=some (.fz (nd k)):=iE;exact dL t1 (fG t2 (dJ (cz WT (by decide+kernel) rfl (ai (ag (d:=nd k) (aw (rv:= .fz (nd k)) (ah rfl) az rfl rfl i1)) aC) rfl h1) (fin Qv)))
 |up k=>obtain⟨Z1,h1,Qv⟩:=Gg vb (p:=(s,[])) WT sw he (show 0<700 by decide);have i1:aG (dg (.up k)) (.int 1)=some (.fz (nd k)):=iE;exact dL t1 (dL t2 (dJ (cz WT (by decide+kernel) rfl (ai (ag (d:=nd k) (aw (rv:= .fz (nd k)) (ah rfl) az rfl rfl i1)) aC) rfl h1) (fin Qv)))
theorem JU {e:Qc} (sw:SW b s) (he:EV b e):sZ oi 3 [.fz (bD b),.fz (eW s),.fz (dg e)] Z= .ok (.tp [.rf Z.length,.fz (eW (dj b s e).1)]) (Z++[.lst (((dj b s e).2.map i7).map .fz)]):=by
 obtain⟨Z',h1,h2⟩:=EI vb sw he;unfold sZ;rw[if_pos (show([.fz (bD b),.fz (eW s),.fz (dg e)]:List SV).length=3 from rfl),show aF tO [.fz (bD b),.fz (eW s),.fz (dg e)]=some [bD b,eW s,dg e] from rfl];dsimp only;rw[show[bD b,eW s,dg e].map SV.fz=[.fz (bD b),.fz (eW s),.fz (dg e)] from rfl,h1];show(match AZ Z' Z.length [.rf 2,.fz (eW (dj b s e).1)] with
  |some (l',cs,js)=>if js.Nodup then RS.ok (SV.tp l') (Z++cs.map K1) else .bad
  |none=> .bad)=_
 have hg:AZ Z' Z.length [.rf 2,.fz (eW (dj b s e).1)]=some ([.rf Z.length,.fz (eW (dj b s e).1)],[(dj b s e).2.map i7],[2]):=by unfold AZ;rw[h2];rfl
 rw[hg];dsimp only;rw[if_pos (by decide)];rfl
end
noncomputable def lX:NS:=⟨fun _=>none,none,none⟩
theorem Gf (b:Bd):SW b lX:=⟨⟨fun k a e=>(by cases e),fun o e=>(by cases e)⟩,fun ks g w e=>(by cases e)⟩
theorem kO {α:Type} {f:α->D}:∀{l:List α},(∀a∈l,Mb.canLay0 (f a)=true)->Mb.canLayAll0 (l.map f)=true
 |[],_=>rfl
 |a::r,h=>by show(Mb.canLay0 (f a)&&Mb.canLayAll0 (r.map f))=true;rw[h a Mp,kO fun x hx=>h x (Mj _ hx)];rfl
theorem jM {α:Type} {f:α->D} {n:Nat}:∀{l:List α},(∀a∈l,Mb.depth (f a)<=n)->Mb.depthAll (l.map f)<=n
 |[],_=>MN _
 |a::r,h=>Y7.mpr ⟨h a Mp,jM fun x hx=>h x (Mj _ hx)⟩
theorem DM {d:D} (h1:Mb.canLay0 d=true) (h2:Mb.depth d<=64):ju d=true:=by unfold ju;rw[h1,decide_eq_true h2];rfl
theorem u8 {d:D} (h:ju d=true):Mb.canLay0 d=true:=by unfold ju at h;exact(MB _ _▸h:_/\_).1
theorem uN {d:D} (h:ju d=true):oN d d=some (.fz (.bool false)):=by unfold oN;rw[h,u8 h,NX,if_pos rfl,Y8 d (u8 h)];rfl
def Pz (sn:Sn):Prop:=∀q∈sn,q.1<26
theorem FP {q:Nat×Bool} (h:q.1<26):Mb.canLay0 (i7 q)=true:=by show(Mb.strOk (dh q.1)&&(Mb.strOk (if q.2=true then "down" else "up")&&true))=true;rw[nR h];cases q.2<;>decide+kernel
theorem yG (q:Nat×Bool):Mb.depth (i7 q)<=1:=Mc rfl
theorem Cu {sn:Sn} (h:Pz sn):ju (.list (sn.map i7))=true:=by refine DM (kO fun q hq=>FP (h q hq)) ?_;show Mb.depthAll (sn.map i7)+1<=64;have:=jM (f:=i7) (l:=sn) fun q _=>yG q;omega
theorem BT {b:Bd} {s:NS} (h:SW b s):ju (eW s)=true:=by
 have l1:Mb.canLayAll0 ((ez s.ac).map pD)=true:=kO fun q hq=>by show(true&&(Mb.canLay0 (mD q.2)&&true))=true;rw[qI (h.sa.ac _ _ (jF.mp hq).2).2.lb];rfl
 have d0:∀m:Mn,Mb.depth (mD m)<=1:=fun m=>by cases m<;>exact Mc rfl
 have d1:Mb.depthAll ((ez s.ac).map pD)<=2:=jM fun q _=>by show max 0 (max (Mb.depth (mD q.2)) 0)+1<=2;have:=d0 q.2;omega
 have l2:Mb.canLay0 (fE s.wt)=true/\Mb.depth (fE s.wt)<=2:=by
  cases q:s.wt with
  |none=>exact⟨rfl,MN _⟩
  |some x=>
   obtain⟨ks,g,w⟩:=x;have v:=(h.wt ks g w q).1;constructor
   ·show(Mb.canLayAll0 (aD ks)&&(true&&(Mb.canLay0 (iB w)&&true)))=true
    rw[gL];cases w with
    |none=>show Mb.canLay0 (.tuple [.str "chord"])&&true=true;decide+kernel
    |some cn=>obtain⟨c,n⟩:=cn;have lb:LB (.Qw c n):=(v.tp c n rfl).1;show(Mb.canLay0 (mD (.Qw c n))&&true)=true;rw[qI lb];rfl
   ·show max (Mb.depthAll (aD ks)+1) (max 0 (max (Mb.depth (iB w)) 0))+1<=2
    rw[jQ];cases w with
    |none=>exact Mc rfl
    |some cn=>exact Mc rfl
 have l3:Mb.canLay0 (lm s.oc)=true/\Mb.depth (lm s.oc)=0:=by cases s.oc<;>exact⟨rfl,rfl⟩
 refine DM ?_ ?_
 ·show(Mb.canLayAll0 ((ez s.ac).map pD)&&(Mb.canLay0 (fE s.wt)&&(Mb.canLay0 (lm s.oc)&&true)))=true;rw[l1,l2.1,l3.1];rfl
 ·show max (Mb.depthAll ((ez s.ac).map pD)+1) (max (Mb.depth (fE s.wt)) (max (Mb.depth (lm s.oc)) 0))+1<=64;rw[l3.2];have:=l2.2;omega
section
variable {b:Bd} (vb:VB b) {s:NS} {p:NS×Sn} {k:Nat} {a:Mn}
theorem Pz.app {x y:Sn} (hx:Pz x) (hy:Pz y):Pz (x++y):=fun q hq=>(Nh.mp hq).elim (hx q) (hy q)
theorem kR (h:Pz p.2) (ha:LB a):Pz (dS p k a).2:=by
 refine h.app fun q hq=> ?_;cases a with
 |Mr c=>
  have hq:q∈(if gY p.1.ac (.Mr c)=true then[] else[(c,true)]:Sn):=hq;split at hq
  ·cases hq
  ·rw[MC.mp hq];exact ha
 |_=>cases hq
theorem DU (qs:List (Nat×Mn)):∀{p:NS×Sn},Pz p.2->(∀q∈qs,LB q.2)->Pz (eE p qs).2:=by
 induction qs with
 |nil=>exact fun h _=>h
 |cons q r ih=>exact fun h hq=>ih (kR h (hq q Mp)) fun x hx=>hq x (Mj _ hx)
theorem Hb (h:Pz p.2) (ha:SA b p.1):Pz (go p k).2:=by
 unfold go;split
 ·rename_i a q
  have lb:=(ha.ac k a q).2.lb;refine h.app fun x hx=> ?_;cases a with
  |Mr c=>
   have hx:x∈(if gY (gU p.1.ac k none) (.Mr c)=true then[] else[(c,false)]:Sn):=hx;split at hx
   ·cases hx
   ·rw[MC.mp hx];exact lb
  |_=>cases hx
 ·exact h
include vb
theorem mF (h:Pz p.2) (hw:WD b p.1):Pz (bN b p).2:=by
 unfold bN;split
 ·exact h
 ·rename_i ks g w q;exact DU _ (p:=({p.1 with wt:=none},p.2)) h fun x hx=>(pp vb (hw ks g w q) x hx).2.lb
theorem IH (h:Pz p.2) (sa:SA b p.1) (hk:(k:Int)<b.n):Pz (vX b p k).2:=by
 obtain⟨L0,L1⟩:=qW vb sa;obtain⟨vm,nb⟩:=pH vb (k:=k) L0 L1 hk;have eb:vX b p k=lG b (ii p.1.ac p.1.oc) (cR p.1 (look b (ii p.1.ac p.1.oc) k),p.2) k (look b (ii p.1.ac p.1.oc) k):=rfl;rw[eb];generalize look b (ii p.1.ac p.1.oc) k=m at vm nb;generalize ii p.1.ac p.1.oc=L at vm;have lb:=vm.lb;cases m with
 |Qw c n=>exact h
 |Mr c=>
  show Pz (if(decide (L=0)&& !(ck b [k]).isEmpty)=true then({cR p.1 (.Mr c) with wt:=some ([k],0,none)},p.2) else dS (cR p.1 (.Mr c),p.2) k (.Mr c)).2;split
  ·exact h
  ·exact kR (p:=(cR p.1 (.Mr c),p.2)) h lb
 |Nq n=>exact kR (p:=(cR p.1 (.Nq n),p.2)) h lb
 |once n=>exact kR (p:=(cR p.1 (.once n),p.2)) (k:=k) (a:= .none) h trivial
 |none=>exact kR (p:=(cR p.1 .none,p.2)) h lb
 |below=>exact absurd rfl nb
theorem F8 {e:Qc} (sw:SW b s) (he:EV b e):Pz (dj b s e).2:=by
 have h0:Pz []:=fun q hq=>by cases hq
 cases e with
 |turn=>
  show Pz (gv b (s,[])).2;unfold gv;split
  ·exact h0
  ·rename_i ks g w q
   have v:=(sw.wt ks g w q).1;split
   ·exact mF vb (p:=({s with wt:=some (ks,g+1,w)},[])) h0 fun _ _ _ e=>by cases e;exact⟨v.ne,v.nd,v.kn,v.kf,by have:=v.g0;omega,v.tp,v.ch⟩
   ·exact h0
 |up k=>
  show Pz (sd b (s,[]) k).2;unfold sd;split
  ·rename_i q
   have z:=jt vb (p:=(s,[])) sw q;refine Hb ?_ z.1.sa;unfold bU;split
   ·exact mF vb (p:=(s,[])) h0 (SW.wd vb sw)
   ·rename_i c n e;have hc:c<26:=((sw.wt _ _ _ e).1.tp c n rfl).1;exact kR (p:=({s with wt:=none},[])) h0 hc
   ·exact h0
  ·exact Hb (p:=(s,[])) h0 sw.sa
 |down k=>
  show Pz (g8 b (s,[]) k).2;unfold g8;split
  ·exact h0
  ·rename_i q
   rw[Qr,not_or] at q;have ha:s.ac k=none:=by
    cases z:s.ac k with
    |none=>rfl
    |some x=>exact absurd (show(s.ac k).isSome=true by rw[z];rfl) q.1
   have hn:oS s.wt k=false:=by
    cases z:oS s.wt k with
    |false=>rfl
    |true=>exact absurd z q.2
   split
   ·rename_i qm
    obtain⟨ks,g,e1,e2,e3,e4⟩:=ro vb (p:=(s,[])) sw he ha hn qm;have e1:s.wt=some (ks,g,none):=e1;unfold j0;dsimp only;rw[e1];dsimp only;split
    ·exact mF vb (p:=({s with wt:=some (ks++[k],g,none)},[])) h0 fun _ _ _ e=>by cases e;exact e3
    ·exact h0
   ·have d:=fx vb (p:=(s,[])) sw.sa (SW.wd vb sw);exact IH vb (mF vb (p:=(s,[])) h0 (SW.wd vb sw)) d.1.sa he
end
noncomputable def qu (b:Bd):NS->List Qc->NS×List Sn
 |s,[]=>(s,[])
 |s,e::r=>((qu b (dj b s e).1 r).1,(dj b s e).2::(qu b (dj b s e).1 r).2)
theorem zt (b:Bd):∀(xs:List Qc) (s:NS) (i:Nat) (e:Qc),xs[i]? =some e->(qu b s (xs.take (i+1))).1=(dj b (qu b s (xs.take i)).1 e).1/\(qu b s xs).2[i]? =some (dj b (qu b s (xs.take i)).1 e).2
 |[],_,_,_,h=>by cases h
 |x::r,s,0,e,h=>by cases h;exact⟨rfl,rfl⟩
 |x::r,s,i+1,e,h=>by have:=zt b r (dj b s x).1 i e h;exact this
theorem zB {b:Bd} (vb:VB b):∀(xs:List Qc) {s:NS},SW b s->(∀e∈xs,EV b e)->SW b (qu b s xs).1
 |[],_,h,_=>h
 |e::r,s,h,he=>zB vb r (zP vb h (he e Mp)) fun x hx=>he x (Mj _ hx)
end STP
namespace K35
open PySem L2 L3 STP
noncomputable def ot:FS:=(dG (Ii (ar (au F7 (aa 1) (eN dN (ae (aa 0) ao)))) (au aG (aa 0) (aa 1)) (pC (.int 0))))
noncomputable def bF:FN:=gb 2 ot
noncomputable def kz:FS:=(bz (de (au ef (au eI (au cS (au ef (aa 0) (pC (.int 1000033))) (aa 1)) (au cS (aa 1) (pC (.int 521)))) (pC (.int 1000033))) (gN 3))
 (bz (de (au ef (au cS (au cS (au eI (aa 3) (aa 3)) (au eY (aa 0) (pC (.int 1000033)))) (au eI (pC (.int 7)) (aa 1))) (pC (.int 999983))) (gN 3))
 (dG (au ef (au eY (aa 3) (pC (.int 3))) (aa 2)))))
noncomputable def bq:FN:=gb 4 kz
noncomputable def eP:FS:=(bz (de (au jk (pC (.str "abcd")) (eh bq 3 (ae (aa 0) (ae (pC (.int 5)) (ae (pC (.int 4)) ao))))) (gN 3))
 (bz (de (au cS (pC (.int 1)) (eh bq 3 (ae (aa 0) (ae (pC (.int 7)) (ae (eN wf (ae (pC (.int 1)) (ae (au oU (aa 2) (pC (.int 1))) ao))) ao))))) (gN 4))
 (bz (de (eh bq 3 (ae (aa 0) (ae (pC (.int 3)) (ae (pC (.int 9)) ao)))) (gN 5))
 (bz (jW (ig (ar (au rU (aa 1) (pC (.int 0)))) (ar (au rU (aa 5) (pC (.int 6))))) (dG (aW (ae (pC (.str "below")) ao))) dH)
 (bz (jW (ar (au bQ (aa 5) (pC (.int 3)))) (dG (aW (ae (pC (.str "none")) ao))) dH)
 (bz (jW (ig (ar (au rU (aa 2) (pC (.int 1)))) (ar (au bQ (aa 5) (pC (.int 4))))) (dG (aW (ae (pC (.str "layer")) (ae (aa 4) ao)))) dH)
 (bz (jW (ig (ar (au rU (aa 2) (pC (.int 1)))) (ar (au bQ (aa 5) (pC (.int 5))))) (dG (aW (ae (pC (.str "tap")) (ae (aa 3) (ae (aa 4) ao))))) dH)
 (bz (jW (ig (ar (au rU (aa 2) (pC (.int 1)))) (ar (au bQ (aa 5) (pC (.int 6))))) (dG (aW (ae (pC (.str "once")) (ae (aa 4) ao)))) dH)
 (dG (aW (ae (pC (.str "letter")) (ae (aa 3) ao))))))))))))
noncomputable def eO:FN:=gb 6 eP
noncomputable def gJ:FS:=(bz (de (dk 1 [2] (lJ gS (ae (eN dN (ae (aa 2) ao)) ao)) (gN 0) (ar (au bQ (au aG (au aG (aa 1) (aa 0)) (pC (.int 0))) (pC (.str "letter")))) (aa 0)) (gN 3))
 (bz (de (cY ao) (gN 4))
 (bz (md (lJ gS (ae (pC (.int 4)) ao)) (gN 5) (bz (de (eh bF 2 (ae (aa 0) (ae (au cS (aa 1) (aa 5)) ao))) (gN 6))
 (bz (de (eN iG (ae (dk 1 [6] (gX (aa 3)) (gN 0) (ar (au rU (eh bq 3 (ae (au cS (aa 1) (au eI (pC (.int 31)) (aa 0))) (ae (pC (.int 13)) (ae (pC (.int 3)) ao)))) (pC (.int 0)))) (aa 0)) ao)) (gN 7))
 (jW (ig (ar (au rU (eN dN (ae (aa 7) ao)) (pC (.int 1)))) (ig (ar (au rU (eh bq 3 (ae (aa 6) (ae (pC (.int 17)) (ae (pC (.int 3)) ao)))) (pC (.int 0)))) (ar (au lr (aa 7) (dk 1 [] (su 4) (gN 0) fw (au aG (aa 0) (pC (.int 0)))))))) (gO (lL 4 (aW (ae (aa 7) (ae (au jk (pC (.str "abxy")) (eh bq 3 (ae (aa 6) (ae (pC (.int 19)) (ae (pC (.int 4)) ao))))) ao))))) dH))))
 (dG (eN iG (ae (aa 4) ao))))))
noncomputable def gI:FN:=gb 8 gJ
noncomputable def jD:FS:=(bz (de (eh bF 2 (ae (aa 0) (ae (pC (.int 0)) ao))) (gN 2))
 (bz (de (au cS (pC (.int 1)) (eh bq 3 (ae (aa 2) (ae (pC (.int 1)) (ae (aa 1) ao))))) (gN 3))
 (bz (de (au cS (pC (.int 1)) (eh bq 3 (ae (aa 2) (ae (pC (.int 2)) (ae (pC (.int 3)) ao))))) (gN 4))
 (bz (de (cY ao) (gN 5))
 (bz (md (lJ gS (ae (aa 4) ao)) (gN 6) (bz (de (dk 1 [0,3,6] (lJ gS (ae (aa 3) ao)) (gN 0) fw (eh bF 2 (ae (aa 1) (ae (au cS (au cS (pC (.int 1)) (au eI (aa 2) (aa 3))) (aa 0)) ao)))) (gN 7))
 (gO (lL 5 (eN iG (ae (dk 1 [6,4] (gX (aa 7)) (gN 0) fw (eh eO 3 (ae (aa 0) (ae (aa 1) (ae (aa 2) ao))))) ao))))))
 (dG (aW (ae (aa 3) (ae (eN iG (ae (aa 5) ao)) (ae (eh gI 3 (ae (aa 0) (ae (pC (.int 16)) (ae (au aG (aa 5) (pC (.int 0))) ao)))) (ae (au cS (pC (.int 1)) (eh bq 3 (ae (aa 2) (ae (pC (.int 23)) (ae (pC (.int 4)) ao))))) ao)))))))))))
noncomputable def jE:FN:=gb 8 jD
noncomputable def cM:FS:=(bz (de (au jk (pC (.str "abcdefghijklmnopqrstuvwxyz")) (au ef (au eY (aa 0) (pC (.int 7))) (pC (.int 26)))) (gN 3))
 (bz (de (au cS (pC (.int 1)) (au ef (au eY (aa 0) (pC (.int 182))) (eN wf (ae (pC (.int 1)) (ae (au oU (aa 2) (pC (.int 1))) ao))))) (gN 4))
 (bz (jW (ig (ar (au bQ (au ef (aa 0) (pC (.int 7))) (pC (.int 1)))) (ar (au rU (aa 1) (pC (.int 0))))) (dG (aW (ae (pC (.str "below")) ao))) dH)
 (bz (jW (ar (au bQ (au ef (aa 0) (pC (.int 7))) (pC (.int 2)))) (dG (aW (ae (pC (.str "none")) ao))) dH)
 (bz (jW (ig (ar (au bQ (au ef (aa 0) (pC (.int 7))) (pC (.int 3)))) (ar (au rU (aa 2) (pC (.int 1))))) (dG (aW (ae (pC (.str "layer")) (ae (aa 4) ao)))) dH)
 (bz (jW (ig (ar (au bQ (au ef (aa 0) (pC (.int 7))) (pC (.int 4)))) (ar (au rU (aa 2) (pC (.int 1))))) (dG (aW (ae (pC (.str "tap")) (ae (aa 3) (ae (aa 4) ao))))) dH)
 (bz (jW (ig (ar (au bQ (au ef (aa 0) (pC (.int 7))) (pC (.int 5)))) (ar (au rU (aa 2) (pC (.int 1))))) (dG (aW (ae (pC (.str "once")) (ae (aa 4) ao)))) dH)
 (dG (aW (ae (pC (.str "letter")) (ae (aa 3) ao)))))))))))
noncomputable def dA:FN:=gb 5 cM
noncomputable def fC:FS:=(bz (de (au cS (pC (.int 1)) (au ef (aa 0) (aa 1))) (gN 4))
 (bz (de (au cS (pC (.int 1)) (au ef (au eY (aa 0) (aa 1)) (aa 2))) (gN 5))
 (bz (de (au eY (au eY (aa 0) (aa 1)) (aa 2)) (gN 0))
 (bz (de (au cS (pC (.int 1)) (au ef (aa 0) (aa 3))) (gN 6))
 (bz (de (au eY (aa 0) (aa 3)) (gN 0))
 (bz (de (cY ao) (gN 7))
 (bz (md (lJ gS (ae (aa 5) ao)) (gN 8) (bz (de (cY ao) (gN 9))
 (bz (md (lJ gS (ae (aa 4) ao)) (gN 10) (bz (gO (lL 9 (eh dA 3 (ae (au ef (aa 0) (pC (.int 364))) (ae (aa 8) (ae (aa 5) ao))))))
 (de (au eY (aa 0) (pC (.int 364))) (gN 0))))
 (gO (lL 7 (eN iG (ae (aa 9) ao)))))))
 (bz (de (cY ao) (gN 11))
 (bz (md (lJ gS (ae (pC (.int 4)) ao)) (gN 12) (bz (de (eN iG (ae (dk 1 [0,7] (lJ gS (ae (aa 4) ao)) (gN 0) (ig (ar (au bQ (au wF (au D0 (aa 1) (aa 0)) (pC (.int 1))) (pC (.int 1)))) (ar (au bQ (au aG (au aG (au aG (aa 2) (pC (.int 0))) (aa 0)) (pC (.int 0))) (pC (.str "letter"))))) (aa 0)) ao)) (gN 13))
 (bz (jW (ig (ar (au rU (eN dN (ae (aa 13) ao)) (pC (.int 1)))) (ar (au lr (aa 13) (dk 1 [] (su 11) (gN 0) fw (au aG (aa 0) (pC (.int 0))))))) (gO (lL 11 (aW (ae (aa 13) (ae (au jk (pC (.str "abcdefghijklmnopqrstuvwxyz")) (au ef (au eY (aa 0) (pC (.int 32))) (pC (.int 26)))) ao))))) dH)
 (de (au eY (aa 0) (pC (.int 832))) (gN 0)))))
 (dG (aW (ae (aa 4) (ae (eN iG (ae (aa 7) ao)) (ae (eN iG (ae (aa 11) ao)) (ae (aa 6) ao)))))))))))))))
noncomputable def fD:FN:=gb 14 fC
noncomputable def dQ:FS:=(bz (de (cY ao) (gN 2))
 (bz (de (au ef (aa 0) (pC (.int 41))) (gN 3))
 (bz (de (au eY (aa 0) (pC (.int 41))) (gN 0))
 (bz (md (lJ gS (ae (aa 3) ao)) (gN 4) (bz (de (au ef (aa 0) (au cS (au eI (pC (.int 2)) (aa 1)) (pC (.int 1)))) (gN 5))
 (bz (de (au eY (aa 0) (au cS (au eI (pC (.int 2)) (aa 1)) (pC (.int 1)))) (gN 0))
 (gO (lL 2 (au aG (cY (ae (aW (ae (pC (.str "down")) (ae (au ef (aa 5) (aa 1)) ao))) (ae (aW (ae (pC (.str "up")) (ae (au ef (aa 5) (aa 1)) ao))) (ae (aW (ae (pC (.str "turn")) (ae (pC (.int 0)) ao))) ao)))) (au eY (aa 5) (aa 1))))))))
 (dG (aa 2))))))
noncomputable def cV:FN:=gb 6 dQ
noncomputable def gF:FS:=(bz (de (cY ao) (gN 3))
 (bz (md (gX (JX KS (aa 0) (sN (aa 1)) (sN (pC (.int 63))))) (gN 4) (bz (de (eh bq 3 (ae (aa 4) (ae (pC (.int 29)) (ae (au cS (au eI (pC (.int 5)) (aa 2)) (pC (.int 3))) ao)))) (gN 5))
 (jW (ar (au F7 (aa 5) (au eI (pC (.int 2)) (aa 2)))) (gO (lL 3 (aW (ae (pC (.str "down")) (ae (au eY (aa 5) (pC (.int 2))) ao))))) (jW (ar (au F7 (aa 5) (au eI (pC (.int 4)) (aa 2)))) (gO (lL 3 (aW (ae (pC (.str "up")) (ae (au oU (au eY (aa 5) (pC (.int 2))) (aa 2)) ao))))) (jW (ar (au F7 (aa 5) (au eI (pC (.int 5)) (aa 2)))) (gO (lL 3 (aW (ae (pC (.str "down")) (ae (au oU (aa 5) (au eI (pC (.int 4)) (aa 2))) ao))))) (gO (lL 3 (aW (ae (pC (.str "turn")) (ae (pC (.int 0)) ao))))))))))
 (dG (aa 3))))
noncomputable def fq:FN:=gb 6 gF
noncomputable def fV:FS:=(bz (de (eh jE 2 (ae (aa 0) (ae (pC (.int 5)) ao))) (gN 1))
 (bz (jW (yh (ar (n9 J4 F7 (pC (.int 0)) (eh bF 2 (ae (aa 0) (ae (pC (.int 1)) ao))) (au z6 (pC (.int 10)) (pC (.int 18)))))) (de (eh fD 4 (ae (eN wZ (ae (eh bF 2 (ae (aa 0) (ae (pC (.int 1)) ao))) ao)) (ae (pC (.int 5)) (ae (pC (.int 3)) (ae (pC (.int 4)) ao))))) (gN 1)) dH)
 (bz (jW (yh (ar (n9 J4 F7 (pC (.int 0)) (eh bF 2 (ae (aa 0) (ae (pC (.int 2)) ao))) (au z6 (pC (.int 10)) (pC (.int 18)))))) (dG (aW (ae (aa 1) (ae (eh cV 2 (ae (eN wZ (ae (eh bF 2 (ae (aa 0) (ae (pC (.int 2)) ao))) ao)) (ae (au aG (aa 1) (pC (.int 0))) ao))) ao)))) dH)
 (dG (aW (ae (aa 1) (ae (eh fq 3 (ae (aa 0) (ae (pC (.int 20)) (ae (au aG (aa 1) (pC (.int 0))) ao)))) ao)))))))
noncomputable def ic:FN:=gb 2 fV
end K35
namespace K35
open PySem L2 L3 L10 STP
noncomputable def jO:eV:=(aL (bR (aY (iA iz (bu (aq 0) (af (pC (.str "once")))) (af (pC .none)))) (hV (bu (aq 0) (af (pC (.str "once"))))) cw)
 (hV (Bu ze (am (iA cS (af (cY (ae (pC (.int 0)) ao))) (qp 1 [] (bu (aq 0) (af (pC (.str "acts")))) (fO 0) (aM (ar (au bQ (au aG (aa 0) (pC (.int 0))) (pC (.str "layer"))))) (af (au aG (aa 0) (pC (.int 1)))))) aJ))))
noncomputable def ce:g9:=eF 1 jO
noncomputable def iI:eV:=(aL (bR (g6 (aM (ar (au bQ (au aG (aa 2) (pC (.int 0))) (pC (.str "letter"))))) (aY (iA lr (af (aa 2)) (mK (bu (aq 0) (af (pC (.str "acts")))))))) (bx (rV (bu (aq 0) (af (pC (.str "sent")))) (af (aW (ae (au aG (aa 2) (pC (.int 1))) (ae (pC (.str "down")) ao)))))) cw)
 (eS (bu (aq 0) (af (pC (.str "acts")))) (af (aa 1)) (af (aa 2))))
noncomputable def b3:g9:=eF 3 iI
noncomputable def kQ:eV:=(aL (dR (sS (bu (aq 0) (af (pC (.str "acts")))) (af (aa 1))) (fO 2))
 (bR (g6 (aM (ar (au bQ (au aG (aa 2) (pC (.int 0))) (pC (.str "letter"))))) (aY (iA lr (af (aa 2)) (mK (bu (aq 0) (af (pC (.str "acts")))))))) (bx (rV (bu (aq 0) (af (pC (.str "sent")))) (af (aW (ae (au aG (aa 2) (pC (.int 1))) (ae (pC (.str "up")) ao)))))) cw))
noncomputable def im:g9:=eF 3 kQ
noncomputable def iw:eV:=(aL (dR (bu (aq 1) (af (pC (.str "waiting")))) (EW 3 (jm (fO 2) (jm (fO 3) (jm (fO 4) vj)))))
 (aL (eS (aq 1) (af (pC (.str "waiting"))) (af (pC .none)))
 (aL (bR (aM (ar (au bQ (au aG (aa 4) (pC (.int 0))) (pC (.str "tap"))))) (aL (bx (cT b3 3 (am (aq 1) (am (af (au aG (aa 2) (pC (.int 0)))) (am (af (aW (ae (pC (.str "layer")) (ae (au aG (aa 4) (pC (.int 2))) ao)))) aJ)))))
 oo) cw)
 (aL (dR (wo (af (dk 1 [2] (gX (au aG (aa 0) (pC (.int 2)))) (gN 0) (ar (au bQ (eN oZ (ae (au aG (aa 0) (pC (.int 0))) ao)) (eN L9.gh (ae (aa 1) ao)))) (au aG (aa 0) (pC (.int 1)))))) (fO 5))
 (vH (oC (lJ gS (ae (eN dN (ae (aa 2) ao)) ao))) (fO 6) (bR (aM (ar (au bQ (aa 5) (cY ao)))) (bx (cT b3 3 (am (aq 1) (am (af (au aG (aa 2) (aa 6))) (am (af (au aG (au aG (au aG (aa 0) (pC (.int 1))) (pC (.int 0))) (au aG (aa 2) (aa 6)))) aJ))))) (bx (cT b3 3 (am (aq 1) (am (af (au aG (aa 2) (aa 6))) (am (af (au aG (cY (ae (aW (ae (pC (.str "letter")) (ae (au aG (aa 5) (pC (.int 0))) ao))) (ae (aW (ae (pC (.str "none")) ao)) ao))) (eN Gm (ae (au rU (aa 6) (pC (.int 0))) ao)))) aJ)))))))))))
noncomputable def cb:g9:=eF 7 iw
noncomputable def i6:eV:=(aL (bR (wX (aY (iA nF (bu (aq 1) (af (pC (.str "waiting")))) (af (pC .none)))) (wX (aY (iA oN (jk (bu (aq 1) (af (pC (.str "waiting")))) (af (pC (.int 2)))) (af (aW (ae (pC (.str "chord")) ao))))) (aY (iA rU (cT ce 1 (am (aq 1) aJ)) (af (pC (.int 0))))))) (hV (af (pC (.bool false)))) cw)
 (aL (dR (bu (aq 1) (af (pC (.str "waiting")))) (EW 3 (jm (fO 3) (jm (fO 4) (jm (fO 5) vj)))))
 (aL (dR (wo (af (au cS (eN oZ (ae (aa 3) ao)) (cY (ae (aa 2) ao))))) (fO 6))
 (aL (dR (wo (af (dk 1 [6] (gX (au aG (aa 0) (pC (.int 2)))) (gN 0) (ar (au bQ (eN dN (ae (aa 1) ao)) (eN dN (ae (dk 1 [1] (gX (au aG (aa 0) (pC (.int 0)))) (gN 0) (ar (au pY (aa 0) (aa 1))) (aa 0)) ao)))) (au aG (aa 0) (pC (.int 0)))))) (fO 7))
 (aL (bR (aM (ar (au bQ (aa 7) (cY ao)))) (hV (af (pC (.bool false)))) cw)
 (aL (eS (aq 1) (af (pC (.str "waiting"))) (af (aW (ae (au cS (aa 3) (aW (ae (aa 2) ao))) (ae (aa 4) (ae (aa 5) ao))))))
 (aL (bR (aM (ar (au bQ (dk 1 [] (gX (aa 7)) (gN 0) fw (eN dN (ae (aa 0) ao))) (cY (ae (eN dN (ae (aa 6) ao)) ao))))) (bx (cT cb 2 (am (af (aa 0)) (am (aq 1) aJ)))) cw)
 (hV (af (pC (.bool true)))))))))))
noncomputable def gK:g9:=eF 8 i6
noncomputable def j6:eV:=(aL (bR (aY (cT gK 3 (am (af (aa 0)) (am (aq 1) (am (af (aa 2)) aJ))))) oo cw)
 (aL (bR (aY (iA iz (bu (aq 1) (af (pC (.str "waiting")))) (af (pC .none)))) (bx (cT cb 2 (am (af (aa 0)) (am (aq 1) aJ)))) cw)
 (aL (dR (cT ce 1 (am (aq 1) aJ)) (fO 3))
 (aL (dR (af (au aG (au aG (au aG (aa 0) (pC (.int 1))) (aa 3)) (aa 2))) (fO 4))
 (aL (bR (aM (ar (au bQ (aa 4) (aW (ae (pC (.str "below")) ao))))) (dR (af (au aG (au aG (au aG (aa 0) (pC (.int 1))) (pC (.int 0))) (aa 2))) (fO 4)) cw)
 (aL (bR (aM (ar (au pY (au aG (aa 4) (pC (.int 0))) (aW (ae (pC (.str "letter")) (ae (pC (.str "tap")) (ae (pC (.str "none")) ao))))))) (eS (aq 1) (af (pC (.str "once"))) (af (pC .none))) cw)
 (bR (aM (ar (au bQ (au aG (aa 4) (pC (.int 0))) (pC (.str "tap"))))) (eS (aq 1) (af (pC (.str "waiting"))) (af (aW (ae (aW (ae (aa 2) ao)) (ae (pC (.int 0)) (ae (aa 4) ao)))))) (bR (aM (ig (ar (au bQ (au aG (aa 4) (pC (.int 0))) (pC (.str "letter")))) (ig (ar (au bQ (aa 3) (pC (.int 0)))) (ar (eN AC (ae (dk 1 [2] (gX (au aG (aa 0) (pC (.int 2)))) (gN 0) fw (au pY (aa 1) (au aG (aa 0) (pC (.int 0))))) ao)))))) (eS (aq 1) (af (pC (.str "waiting"))) (af (aW (ae (aW (ae (aa 2) ao)) (ae (pC (.int 0)) (ae (aW (ae (pC (.str "chord")) ao)) ao)))))) (bR (aM (ar (au bQ (au aG (aa 4) (pC (.int 0))) (pC (.str "once"))))) (aL (bx (cT b3 3 (am (aq 1) (am (af (aa 2)) (am (af (aW (ae (pC (.str "none")) ao))) aJ)))))
 (eS (aq 1) (af (pC (.str "once"))) (af (au aG (aa 4) (pC (.int 1)))))) (bx (cT b3 3 (am (aq 1) (am (af (aa 2)) (am (af (aa 4)) aJ))))))))))))))
noncomputable def iY:g9:=eF 5 j6
noncomputable def oE:eV:=(hV (Li (oW false (af (aa 1)) (bu (aq 0) (af (pC (.str "acts"))))) (xW (iA iz (bu (aq 0) (af (pC (.str "waiting")))) (af (pC .none))) (iA pY (af (aa 1)) (jk (bu (aq 0) (af (pC (.str "waiting")))) (af (pC (.int 0))))))))
noncomputable def eD:g9:=eF 2 oE
noncomputable def iV:eV:=(aL (dR (bu (aq 1) (af (pC (.str "waiting")))) (EW 3 (jm (fO 2) (jm (fO 3) (jm (fO 4) vj)))))
 (aL (eS (aq 1) (af (pC (.str "waiting"))) (af (aW (ae (aa 2) (ae (au cS (aa 3) (pC (.int 1))) (ae (aa 4) ao))))))
 (bR (aM (ar (au K4 (au cS (aa 3) (pC (.int 1))) (au aG (aa 0) (pC (.int 3)))))) (bx (cT cb 2 (am (af (aa 0)) (am (aq 1) aJ)))) cw)))
noncomputable def iL:g9:=eF 5 iV
noncomputable def iW:eV:=(aL (dR (af (aa 2)) (EW 2 (jm (fO 3) (jm (fO 4) vj))))
 (aL (eS (aq 1) (af (pC (.str "sent"))) (af (cY ao)))
 (bR (g6 (aM (ar (au bQ (aa 3) (pC (.str "down"))))) (oQ (aY (cT eD 2 (am (aq 1) (am (af (aa 4)) aJ)))))) (bx (cT iY 3 (am (af (aa 0)) (am (aq 1) (am (af (aa 4)) aJ))))) (bR (g6 (aM (ar (au bQ (aa 3) (pC (.str "up"))))) (aY (oW false (af (aa 4)) (bu (aq 1) (af (pC (.str "acts"))))))) (bx (cT im 2 (am (aq 1) (am (af (aa 4)) aJ)))) (bR (g6 (aM (ar (au bQ (aa 3) (pC (.str "up"))))) (aY (cT eD 2 (am (aq 1) (am (af (aa 4)) aJ))))) (aL (dR (jk (bu (aq 1) (af (pC (.str "waiting")))) (af (pC (.int 2)))) (fO 5))
 (aL (bR (aM (ar (au bQ (au aG (aa 5) (pC (.int 0))) (pC (.str "tap"))))) (aL (eS (aq 1) (af (pC (.str "waiting"))) (af (pC .none)))
 (bx (cT b3 3 (am (aq 1) (am (af (aa 4)) (am (af (aW (ae (pC (.str "letter")) (ae (au aG (aa 5) (pC (.int 1))) ao)))) aJ)))))) (bx (cT cb 2 (am (af (aa 0)) (am (aq 1) aJ)))))
 (bx (cT im 2 (am (aq 1) (am (af (aa 4)) aJ)))))) (bR (g6 (aM (ar (au bQ (aa 3) (pC (.str "turn"))))) (aY (iA iz (bu (aq 1) (af (pC (.str "waiting")))) (af (pC .none))))) (bx (cT iL 2 (am (af (aa 0)) (am (aq 1) aJ)))) cw))))))
noncomputable def iM:g9:=eF 6 iW
noncomputable def Cc:eV:=(aL (dR (af (eh ic 1 (ae (aa 0) ao))) (EW 2 (jm (fO 1) (jm (fO 2) vj))))
 (aL (dR (vQ [((af (pC (.str "acts"))),GL),((af (pC (.str "waiting"))),(af (pC .none))),((af (pC (.str "once"))),(af (pC .none))),((af (pC (.str "sent"))),(af (cY ao)))]) (fO 3))
 (aL (dR (af (aW (ae (aW ao) (ae (pC .none) (ae (pC .none) ao))))) (fO 4))
 (aL (vH (oC (gX (aa 2))) (fO 5) (aL (bx (cT iM 3 (am (af (aa 1)) (am (aq 3) (am (af (aa 5)) aJ)))))
 (aL (dR (wP STP.oi 3 (am (af (aa 1)) (am (af (aa 4)) (am (af (aa 5)) aJ)))) (fO 6))
 (aL (bR (wX (oQ (aY (BC "tuple" (aq 6)))) (wX (aY (iA oN (Bu dN (am (aq 6) aJ)) (af (pC (.int 2))))) (aY (iA oN (jk (aq 6) (af (pC (.int 0)))) (bu (aq 3) (af (pC (.str "sent")))))))) (hV (af (pC (.bool false)))) cw)
 (aL (dR (Bu iG (am (ni 1 [3] (jU (mP (bu (aq 3) (af (pC (.str "acts")))))) (fO 0) lD (jZ (am (af (aa 0)) (am (bu (bu (aq 1) (af (pC (.str "acts")))) (af (aa 0))) aJ)))) aJ)) (fO 7))
 (aL (bR (wX (oQ (aY (BC "list" (jk (aq 6) (af (pC (.int 0))))))) (aY (iA oN (jk (aq 6) (af (pC (.int 1)))) (jZ (am (af (aa 7)) (am (bu (aq 3) (af (pC (.str "waiting")))) (am (bu (aq 3) (af (pC (.str "once")))) aJ))))))) (hV (af (pC (.bool false)))) cw)
 (aL (bR (aY (iA oN (i8 cU 1 (am (jk (aq 6) (af (pC (.int 1)))) aJ)) (cT ce 1 (am (aq 3) aJ)))) (hV (af (pC (.bool false)))) cw)
 (aL (bx (rV (jk (aq 6) (af (pC (.int 0)))) (af (pC .none))))
 (aL (bR (aY (iA oN (wP STP.oi 3 (am (af (aa 1)) (am (af (aa 4)) (am (af (aa 5)) aJ)))) (jZ (am (bu (aq 3) (af (pC (.str "sent")))) (am (jk (aq 6) (af (pC (.int 1)))) aJ))))) (hV (af (pC (.bool false)))) cw)
 (dR (jk (aq 6) (af (pC (.int 1)))) (fO 4)))))))))))
 (hV (af (pC (.bool true))))))))
noncomputable def F_law:g9:=eF 8 Cc
noncomputable abbrev zf (d:D):Option PV:=some (.fz d)
noncomputable abbrev zo (l:List D):Option PV:=some (.ow l)
noncomputable abbrev LU (ns:List Int) (b:Bd) (r:aK):aK:=some (.fz (.list (ns.map .int)))::some (.fz (bD b))::r
theorem mn (ns:List Int) (k:Int) (hk:0<=k):∃c:Int,bF [.list (ns.map .int),.int k]= .ok (.fz (.int c)):=by
 obtain⟨n,rfl⟩:∃n:Nat,k=(n:Int):=⟨k.toNat,by omega⟩;have hl:dN [.list (ns.map .int)]=some (.fz (nd ns.length)):=(kF _).trans (by rw[L7]);by_cases h:n<ns.length
 ·refine⟨ns[n],lH (ρ:=[some (.fz (.list (ns.map .int))),some (.fz (nd n))]) rfl (eZ (pv:= .fz (.int ns[n])) (rv:= .fz (.int ns[n])) (Hj (aZ (aw (rv:= .fz (.bool true)) (ah rfl) (cG (rv:= .fz (nd ns.length)) (aj (ah rfl) aA) rfl hl) rfl rfl ?_) rfl) (aw (rv:= .fz (.int ns[n])) (ah rfl) (ah rfl) rfl rfl (Ln ?_))) rfl rfl)⟩
  ·rw[uZ,decide_eq_true (by omega)]
  ·rw[Ml,Mf h];rfl
 ·refine⟨0,lH (ρ:=[some (.fz (.list (ns.map .int))),some (.fz (nd n))]) rfl (eZ (pv:= .fz (.int 0)) (rv:= .fz (.int 0)) (Il (aZ (aw (rv:= .fz (.bool false)) (ah rfl) (cG (rv:= .fz (nd ns.length)) (aj (ah rfl) aA) rfl hl) rfl rfl ?_) rfl) az) rfl rfl)⟩;rw[uZ,decide_eq_false (by omega)]
theorem Ic {i j:Int} (h: -(2^64)<i/\i<2^64):eI (.int i) (.int j)=some (.fz (.int (i*j))):=F1 h
theorem LH {i j:Int} (h: -(2^64)<j/\j<2^64):eI (.int i) (.int j)=some (.fz (.int (i*j))):=F4 h
noncomputable def tF (x s m:Int):Int:=((x % 1000033+s)*(s+521) % 1000033*((x % 1000033+s)*(s+521) % 1000033)+x/1000033+7*s) % 999983/3 % m
theorem lV {x s m:Int} (hm:0<m):0<=tF x s m/\tF x s m<m:=⟨Pr _ (by omega),OS _ hm⟩
theorem gG (x:Int) {s m:Int} (h0:0<=s) (h1:s<1000) (hm:0<m):bq [.int x,.int s,.int m]= .ok (.fz (.int (tF x s m))):=by unfold tF;have m1:ef (.int x) (.int 1000033)=some (.fz (.int (x % 1000033))):=fM (by decide);have m2:eI (.int (x % 1000033+s)) (.int (s+521))=some (.fz (.int ((x % 1000033+s)*(s+521)))):=LH ⟨by omega,by omega⟩;generalize (x % 1000033+s)*(s+521)=y at m2;have m3:ef (.int y) (.int 1000033)=some (.fz (.int (y % 1000033))):=fM (by decide);have b1:0<=y % 1000033/\y % 1000033<1000033:=⟨Pr _ (by decide),OS _ (by decide)⟩;generalize y % 1000033=z at m3 b1;have m4:eI (.int z) (.int z)=some (.fz (.int (z*z))):=LH ⟨by omega,by omega⟩;have m5:eY (.int x) (.int 1000033)=some (.fz (.int (x/1000033))):=fY ⟨by decide,by decide⟩;have m6:eI (.int 7) (.int s)=some (.fz (.int (7*s))):=Ic ⟨by decide,by decide⟩;generalize z*z=u at m4;have m7:ef (.int (u+x/1000033+7*s)) (.int 999983)=some (.fz (.int ((u+x/1000033+7*s) % 999983))):=fM (by decide);generalize (u+x/1000033+7*s) % 999983=v at m7;have m8:eY (.int v) (.int 3)=some (.fz (.int (v/3))):=fY ⟨by decide,by decide⟩;have m9:ef (.int (v/3)) (.int m)=some (.fz (.int (v/3 % m))):=fM hm;exact lH (ρ:=[some (.fz (.int x)),some (.fz (.int s)),some (.fz (.int m)),none]) rfl (xG (DK (by walk_at "ev") rfl (xG (DK (by walk_at "ev") rfl (eZ (by walk_at "ev") rfl rfl)))))
theorem Ja {z:Str} {cs:List Nat} (hz:z.cps.toList=cs.map (97+·)) (hl:z.length<=1000000) {r:Int} {c:Nat} (h0:0<=r) (h:cs[r.toNat]? =some c):L3.jk (.str z) (.int r)=some (.fz (.str (dh c))):=by show(if z.length<=1000000 then(l7 z.cps.toList r).map (fun c=>RV.fz (.str ⟨#[c]⟩)) else none)=_;rw[if_pos hl,hz,zi (v:=97+c) h0 (by rw[Ml,h];rfl)];rfl
theorem xK {z:Str} (cs:List Nat) (hz:z.cps.toList=cs.map (97+·)) (hl:z.length<=1000000) (hc:∀c∈cs,c<26) {r:Int} (h0:0<=r) (h1:r<cs.length):∃c,c<26/\L3.jk (.str z) (.int r)=some (.fz (.str (dh c))):=by
 have hr:r.toNat<cs.length:=by omega
 exact⟨cs[r.toNat],hc _ (Qd hr),Ja hz hl h0 (Mf hr)⟩
theorem Dn (ns:List Int) (lo hi:Option Int):∃ms:List Int,ms.length<=ns.length/\KS (.list (ns.map .int)) lo hi=some (.ow (ms.map .int)):=by
 refine⟨(ns.drop (HT.sIx ns.length 0 lo)).take (HT.sIx ns.length ns.length hi - HT.sIx ns.length 0 lo),?_,?_⟩
 ·rw[Nl,Rv];omega
 ·show some (RV.ow (Ad (ns.map .int) lo hi))=_;unfold Ad;rw[L7,List.map_take,List.map_drop]
noncomputable def Gw (Ks:List (List Nat)):List D:=Ks.map fun K=> .tuple (aD K)
theorem zk:∀Ks:List (List Nat),Mb.canLayAll0 (Gw Ks)=true
 |[]=>rfl
 |K::r=>by show(Mb.canLayAll0 (aD K)&&Mb.canLayAll0 (Gw r))=true;rw[gL,zk r];rfl
theorem yM (s:List Nat):∀Ks:List (List Nat),((Gw Ks).any fun e=>Mb.eqv e (.tuple (aD s)))=decide (s∈Ks)
 |[]=>rfl
 |K::r=>by
  show(Mb.eqvAll (aD K) (aD s)||(Gw r).any fun e=>Mb.eqv e (.tuple (aD s)))=_;rw[yM s r,uX];by_cases h:K=s
  ·rw[decide_eq_true h,decide_eq_true (show s∈K::r by rw[h];exact Mp),Qk]
  ·rw[decide_eq_false h,Pk]
   by_cases g:s∈r
   ·rw[decide_eq_true g,decide_eq_true (Mj _ g)]
   ·rw[decide_eq_false g,decide_eq_false (fun z=>(MH.mp z).elim (fun e=>h e.symm) g)]
theorem zb (s:List Nat) (Ks:List (List Nat)):lr (.tuple (aD s)) (.list (Gw Ks))=some (.fz (.bool (!decide (s∈Ks)))):=by show(if(ju (.tuple (aD s))&&Mb.canLayAll0 (Gw Ks))=true then _ else _)=_;rw[Im,zk,NX,if_pos rfl,yM]
theorem sI (cs:List (List Nat×Nat)) (hl:cs.length<=1000) (cp:aK) (hc:df cp=cp):jq (dm (gN 0) fw (au aG (aa 0) (pC (.int 0))) (cs.map cF) (none::cp) [])= .ok (Gw (cs.map (·.1))):=by unfold Gw;rw[MV];exact mH cF (fun c=> .tuple (aD c.1)) cs hl hc fun c _=>aw (rv:= .fz (.tuple (aD c.1))) (ah rfl) az rfl rfl ij
theorem jo {n i k:Nat} (h:(Mz n)[i]? =some k):k=i/\i<n:=by obtain⟨h1,h2⟩:=Md.mp h;rw[Ue] at h2;rw[MW] at h1;exact⟨h2.symm,h1⟩
theorem yX {n nL:Int} {ls:List (List Mn)} {ms:List Mn} (h:VL n nL ls) (h1:(ms.length:Int)=n) (h2:∀m∈ms,VM ls.length nL m):VL n nL (ls++[ms]):=by
 intro i l hi;rcases L10.bC hi with h'|⟨rfl,rfl⟩
 ·exact h i l h'
 ·exact⟨h1,h2⟩
theorem Cq {nl:Int} (h1:1<=nl):∃M:Int,wf [.int 1,.int (nl - 1)]=some (.fz (.int M))/\1<=M/\(1<nl->M=nl - 1):=by refine⟨_,rfl,?_⟩;split<;>omega
theorem Fi (c:Int) (L:Nat) (nl:Int) (h1:1<=nl):∃m:Mn,VM L nl m/\eO [.int c,nd L,.int nl]= .ok (.fz (mD m)):=by
 have d5:=gG c (s:=5) (m:=4) (by decide) (by decide) (by decide);have b5:=lV (x:=c) (s:=5) (m:=4) (by decide);generalize tF c 5 4=r5 at d5 b5;obtain⟨l,hl,el⟩:=xK (z:= "abcd") [0,1,2,3] (by decide+kernel) (by decide+kernel) (by decide) b5.1 (show r5<4 from b5.2);obtain⟨M,em,M1,M2⟩:=Cq h1;have d7:=gG c (s:=7) (m:=M) (by decide) (by decide) (by omega);have b7:=lV (x:=c) (s:=7) (m:=M) (by omega);generalize tF c 7 M=r7 at d7 b7;have d3:=gG c (s:=3) (m:=9) (by decide) (by decide) (by decide);generalize tF c 3 9=r3 at d3;have gt0:rU (nd L) (.int 0)=some (.fz (.bool (decide ((0:Int)<L)))):=rfl;have key:∃rv,gb 6 eP [.int c,nd L,.int nl]= .ok rv/\∃m:Mn,VM L nl m/\rv= .fz (mD m):=by
  refine jP (T:=fun rv=>∃m:Mn,VM L nl m/\rv= .fz (mD m)) (ρ:=[zf (.int c),zf (nd L),zf (.int nl),none,none,none]) rfl ?_;unfold eP;refine bT (ρ3:=[zf (.int c),zf (nd L),zf (.int nl),zf (.str (dh l)),none,none]) (by walk_at "ev") rfl rfl ?_;refine bT (ρ3:=[zf (.int c),zf (nd L),zf (.int nl),zf (.str (dh l)),zf (.int (1+r7)),none]) (by walk_at "ev") rfl rfl ?_;refine bT (ρ3:=[zf (.int c),zf (nd L),zf (.int nl),zf (.str (dh l)),zf (.int (1+r7)),zf (.int r3)]) (by walk_at "ev") rfl rfl ?_;refine iO (b:=(decide ((0:Int)<L)&&decide (6<r3))) (ρ1:=[zf (.int c),zf (nd L),zf (.int nl),zf (.str (dh l)),zf (.int (1+r7)),zf (.int r3)]) (by walk_at "ev") (fun q=> ?_) (fun _=>dC ?_)
  ·rw[MB] at q;have q1:=of_decide_eq_true q.1;exact fT (pv:= .fz (mD .below)) (ρ1:=[zf (.int c),zf (nd L),zf (.int nl),zf (.str (dh l)),zf (.int (1+r7)),zf (.int r3)]) (show _=Res.ok (PV.fz (.tuple [.str "below"]),_) by walk_at "ev") rfl ⟨.below,by show(L:Int)≠0;omega,rfl⟩
  refine iO (b:=decide (r3=3)) (ρ1:=[zf (.int c),zf (nd L),zf (.int nl),zf (.str (dh l)),zf (.int (1+r7)),zf (.int r3)]) (by walk_at "ev") (fun q=> ?_) (fun _=>dC ?_)
  ·exact fT (pv:= .fz (mD .none)) (ρ1:=[zf (.int c),zf (nd L),zf (.int nl),zf (.str (dh l)),zf (.int (1+r7)),zf (.int r3)]) (show _=Res.ok (PV.fz (.tuple [.str "none"]),_) by walk_at "ev") rfl ⟨.none,trivial,rfl⟩
  refine iO (b:=(decide (1<nl)&&decide (r3=4))) (ρ1:=[zf (.int c),zf (nd L),zf (.int nl),zf (.str (dh l)),zf (.int (1+r7)),zf (.int r3)]) (by walk_at "ev") (fun q=> ?_) (fun _=>dC ?_)
  ·rw[MB] at q;have q1:=M2 (of_decide_eq_true q.1);exact fT (pv:= .fz (mD (.Nq (1+r7)))) (ρ1:=[zf (.int c),zf (nd L),zf (.int nl),zf (.str (dh l)),zf (.int (1+r7)),zf (.int r3)]) (show _=Res.ok (PV.fz (.tuple [.str "layer",.int (1+r7)]),_) by walk_at "ev") rfl ⟨.Nq (1+r7),⟨by omega,by omega⟩,rfl⟩
  refine iO (b:=(decide (1<nl)&&decide (r3=5))) (ρ1:=[zf (.int c),zf (nd L),zf (.int nl),zf (.str (dh l)),zf (.int (1+r7)),zf (.int r3)]) (by walk_at "ev") (fun q=> ?_) (fun _=>dC ?_)
  ·rw[MB] at q;have q1:=M2 (of_decide_eq_true q.1);exact fT (pv:= .fz (mD (.Qw l (1+r7)))) (ρ1:=[zf (.int c),zf (nd L),zf (.int nl),zf (.str (dh l)),zf (.int (1+r7)),zf (.int r3)]) (show _=Res.ok (PV.fz (.tuple [.str "tap",.str (dh l),.int (1+r7)]),_) by walk_at "ev") rfl ⟨.Qw l (1+r7),⟨hl,by omega,by omega⟩,rfl⟩
  refine iO (b:=(decide (1<nl)&&decide (r3=6))) (ρ1:=[zf (.int c),zf (nd L),zf (.int nl),zf (.str (dh l)),zf (.int (1+r7)),zf (.int r3)]) (by walk_at "ev") (fun q=> ?_) (fun _=>dC ?_)
  ·rw[MB] at q;have q1:=M2 (of_decide_eq_true q.1);exact fT (pv:= .fz (mD (.once (1+r7)))) (ρ1:=[zf (.int c),zf (nd L),zf (.int nl),zf (.str (dh l)),zf (.int (1+r7)),zf (.int r3)]) (show _=Res.ok (PV.fz (.tuple [.str "once",.int (1+r7)]),_) by walk_at "ev") rfl ⟨.once (1+r7),⟨by omega,by omega⟩,rfl⟩
  exact eZ (pv:= .fz (mD (.Mr l))) (ρ1:=[zf (.int c),zf (nd L),zf (.int nl),zf (.str (dh l)),zf (.int (1+r7)),zf (.int r3)]) (show _=Res.ok (PV.fz (.tuple [.str "letter",.str (dh l)]),_) by walk_at "ev") rfl ⟨.Mr l,hl,rfl⟩
 obtain⟨rv,h,m,v1,rfl⟩:=key;exact⟨m,v1,h⟩
theorem Dj {r:Int} (h0:0<=r) (h1:r<26):∃c,c<26/\L3.jk (.str "abcdefghijklmnopqrstuvwxyz") (.int r)=some (.fz (.str (dh c))):=
 xK (z:= "abcdefghijklmnopqrstuvwxyz") (Mz 26) (by decide+kernel) (by decide+kernel) (by decide) h0 (by rw[MW];exact h1)
theorem Dx (x:Int) (L:Nat) (nl:Int) (h1:1<=nl) (h3:nl<=3):∃m:Mn,VM L nl m/\dA [.int x,nd L,.int nl]= .ok (.fz (mD m)):=by
 have e1:eY (.int x) (.int 7)=some (.fz (.int (x/7))):=fY ⟨by decide,by decide⟩;have e2:ef (.int (x/7)) (.int 26)=some (.fz (.int (x/7 % 26))):=fM (by decide);obtain⟨l,hl,el⟩:=Dj (r:=x/7 % 26) (by omega) (by omega);obtain⟨M,em,M1,M2⟩:=Cq h1;have e3:eY (.int x) (.int 182)=some (.fz (.int (x/182))):=fY ⟨by decide,by decide⟩;have e4:ef (.int (x/182)) (.int M)=some (.fz (.int (x/182 % M))):=fM (by omega);have b7:0<=x/182 % M/\x/182 % M<M:=⟨Pr _ (by omega),OS _ (by omega)⟩;generalize x/182 % M=r7 at e4 b7;have e5:ef (.int x) (.int 7)=some (.fz (.int (x % 7))):=fM (by decide);generalize x % 7=r3 at e5;have gt0:rU (nd L) (.int 0)=some (.fz (.bool (decide ((0:Int)<L)))):=rfl;have key:∃rv,gb 5 cM [.int x,nd L,.int nl]= .ok rv/\∃m:Mn,VM L nl m/\rv= .fz (mD m):=by
  refine jP (T:=fun rv=>∃m:Mn,VM L nl m/\rv= .fz (mD m)) (ρ:=[zf (.int x),zf (nd L),zf (.int nl),none,none]) rfl ?_;unfold cM;refine bT (ρ3:=[zf (.int x),zf (nd L),zf (.int nl),zf (.str (dh l)),none]) (by walk_at "ev") rfl rfl ?_;refine bT (ρ3:=[zf (.int x),zf (nd L),zf (.int nl),zf (.str (dh l)),zf (.int (1+r7))]) (by walk_at "ev") rfl rfl ?_;refine iO (b:=(decide (r3=1)&&decide ((0:Int)<L))) (ρ1:=[zf (.int x),zf (nd L),zf (.int nl),zf (.str (dh l)),zf (.int (1+r7))]) (by walk_at "ev") (fun q=> ?_) (fun _=>dC ?_)
  ·rw[MB] at q;have q1:=of_decide_eq_true q.2;exact fT (pv:= .fz (mD .below)) (ρ1:=[zf (.int x),zf (nd L),zf (.int nl),zf (.str (dh l)),zf (.int (1+r7))]) (show _=Res.ok (PV.fz (.tuple [.str "below"]),_) by walk_at "ev") rfl ⟨.below,by show(L:Int)≠0;omega,rfl⟩
  refine iO (b:=decide (r3=2)) (ρ1:=[zf (.int x),zf (nd L),zf (.int nl),zf (.str (dh l)),zf (.int (1+r7))]) (by walk_at "ev") (fun q=> ?_) (fun _=>dC ?_)
  ·exact fT (pv:= .fz (mD .none)) (ρ1:=[zf (.int x),zf (nd L),zf (.int nl),zf (.str (dh l)),zf (.int (1+r7))]) (show _=Res.ok (PV.fz (.tuple [.str "none"]),_) by walk_at "ev") rfl ⟨.none,trivial,rfl⟩
  refine iO (b:=(decide (r3=3)&&decide (1<nl))) (ρ1:=[zf (.int x),zf (nd L),zf (.int nl),zf (.str (dh l)),zf (.int (1+r7))]) (by walk_at "ev") (fun q=> ?_) (fun _=>dC ?_)
  ·rw[MB] at q;have q1:=M2 (of_decide_eq_true q.2);exact fT (pv:= .fz (mD (.Nq (1+r7)))) (ρ1:=[zf (.int x),zf (nd L),zf (.int nl),zf (.str (dh l)),zf (.int (1+r7))]) (show _=Res.ok (PV.fz (.tuple [.str "layer",.int (1+r7)]),_) by walk_at "ev") rfl ⟨.Nq (1+r7),⟨by omega,by omega⟩,rfl⟩
  refine iO (b:=(decide (r3=4)&&decide (1<nl))) (ρ1:=[zf (.int x),zf (nd L),zf (.int nl),zf (.str (dh l)),zf (.int (1+r7))]) (by walk_at "ev") (fun q=> ?_) (fun _=>dC ?_)
  ·rw[MB] at q;have q1:=M2 (of_decide_eq_true q.2);exact fT (pv:= .fz (mD (.Qw l (1+r7)))) (ρ1:=[zf (.int x),zf (nd L),zf (.int nl),zf (.str (dh l)),zf (.int (1+r7))]) (show _=Res.ok (PV.fz (.tuple [.str "tap",.str (dh l),.int (1+r7)]),_) by walk_at "ev") rfl ⟨.Qw l (1+r7),⟨hl,by omega,by omega⟩,rfl⟩
  refine iO (b:=(decide (r3=5)&&decide (1<nl))) (ρ1:=[zf (.int x),zf (nd L),zf (.int nl),zf (.str (dh l)),zf (.int (1+r7))]) (by walk_at "ev") (fun q=> ?_) (fun _=>dC ?_)
  ·rw[MB] at q;have q1:=M2 (of_decide_eq_true q.2);exact fT (pv:= .fz (mD (.once (1+r7)))) (ρ1:=[zf (.int x),zf (nd L),zf (.int nl),zf (.str (dh l)),zf (.int (1+r7))]) (show _=Res.ok (PV.fz (.tuple [.str "once",.int (1+r7)]),_) by walk_at "ev") rfl ⟨.once (1+r7),⟨by omega,by omega⟩,rfl⟩
  exact eZ (pv:= .fz (mD (.Mr l))) (ρ1:=[zf (.int x),zf (nd L),zf (.int nl),zf (.str (dh l)),zf (.int (1+r7))]) (show _=Res.ok (PV.fz (.tuple [.str "letter",.str (dh l)]),_) by walk_at "ev") rfl ⟨.Mr l,hl,rfl⟩
 obtain⟨rv,h,m,v1,rfl⟩:=key;exact⟨m,v1,h⟩
structure S7 (l0:List Mn) (cs:List (List Nat×Nat)):Prop where
 vc:∀c∈cs,VC l0 c
 un:cs.Pairwise fun a c=>a.1≠c.1
theorem S7.nil (l0:List Mn):S7 l0 []:=⟨fun c hc=>(by cases hc),Qq⟩
theorem S7.add {l0:List Mn} {cs:List (List Nat×Nat)} {s:List Nat} {l:Nat} (h:S7 l0 cs) (h2:2<=s.length) (hp:s.Pairwise (·<·)) (hk:∀k∈s,nt l0 k=true) (hl:l<26) (hu:s∉cs.map (·.1)):S7 l0 (cs++[(s,l)]):=by
 refine⟨fun c hc=>(Nh.mp hc).elim (h.vc c) fun z=> ?_,List.pairwise_append.mpr ⟨h.un,List.pairwise_singleton _ _,fun a ha c hc=> ?_⟩⟩
 ·rw[MC.mp z];exact⟨h2,hp,hk,hl⟩
 ·rw[MC.mp hc];exact fun z=>hu (Nd.mpr ⟨a,ha,z⟩)
theorem BU {l0:List Mn} {k:Nat} (hk:k<l0.length):∃d,aG (cP l0) (nd k)=some (.fz d)/\∃w,aG d (.int 0)=some (.fz (.str w))/\bQ (.str w) (.str "letter")=some (.fz (.bool (nt l0 k))):=by
 have e5:nt l0 k=l0[k].UH:=by unfold nt;rw[Mf hk];rfl
 rw[e5];exact⟨mD l0[k],Gj (by rw[Ml,Mf hk];rfl),_,kl _,gA _⟩
theorem Ai (ns:List Int) (l0:List Mn) (hl:l0.length<=5):∃cs,S7 l0 cs/\cs.length<=4/\gI [.list (ns.map .int),.int 16,cP l0]= .ok (.fz (.tuple (cs.map cF))):=by
 have rg4:gS [.int 4]=some (aD (Mz 4)):=kN (n:=4) (by decide);have ll:dN [cP l0]=some (.fz (nd l0.length)):=(gj _).trans (by rw[L7]);have rgl:gS [nd l0.length]=some (aD (Mz l0.length)):=kN (by omega);have c1:jq (dm (gN 0) (ar (au bQ (au aG (au aG (aa 1) (aa 0)) (pC (.int 0))) (pC (.str "letter")))) (aa 0) (aD (Mz l0.length)) [none,some (.fz (cP l0))] [])= .ok (((Mz l0.length).filter (nt l0)).map nd):=iS nd nd (nt l0) (Mz l0.length) (by rw[MW];omega) rfl (fun k hk=>by obtain⟨d,e1,w,e2,e3⟩:=BU (NO.mp hk);walk_at "ev") fun k _ _=>ah rfl;have sp:((Mz l0.length).filter (nt l0)).Pairwise (·<·):=P1 _ Qm;have so:∀k∈(Mz l0.length).filter (nt l0),nt l0 k=true:=fun k hk=>(Ng.mp hk).2;have sl:((Mz l0.length).filter (nt l0)).length<=5:=by have:=Pe (nt l0) (Mz l0.length);rw[MW] at this;omega
 generalize (Mz l0.length).filter (nt l0)=ps at c1 sp so sl;have key:∃rv,gb 8 gJ [.list (ns.map .int),.int 16,cP l0]= .ok rv/\∃cs,S7 l0 cs/\cs.length<=4/\rv= .fz (.tuple (cs.map cF)):=by
  refine jP (T:=fun rv=>∃cs,S7 l0 cs/\cs.length<=4/\rv= .fz (.tuple (cs.map cF))) (ρ:=[zf (.list (ns.map .int)),zf (.int 16),zf (cP l0),none,none,none,none,none]) rfl ?_;unfold gJ;refine bT (ρ3:=[zf (.list (ns.map .int)),zf (.int 16),zf (cP l0),zo (aD ps),none,none,none,none]) (cX (cs:=[cP l0]) (ds:=aD (Mz l0.length)) (my (ds:=[nd l0.length]) (aj (cG (rv:= .fz (nd l0.length)) (ds:=[cP l0]) (aj (ah rfl) aA) rfl ll) aA) rfl rgl) rfl c1) rfl rfl ?_;refine bT (ρ3:=[zf (.list (ns.map .int)),zf (.int 16),zf (cP l0),zo (aD ps),zo [],none,none,none]) (by walk_at "ev") rfl rfl ?_;refine lO (fun i ρ=>∃(cs:List (List Nat×Nat)) (t3 o5 o6 o7:Option PV),S7 l0 cs/\cs.length<=i/\(t3=zo (aD ps)\/t3=zf (.list (aD ps)))/\ρ=[zf (.list (ns.map .int)),zf (.int 16),zf (cP l0),t3,zo (cs.map cF),o5,o6,o7]) (ds:=aD (Mz 4)) (ρ1:=[zf (.list (ns.map .int)),zf (.int 16),zf (cP l0),zo (aD ps),zo [],none,none,none]) (by walk_at "ev") ⟨[],_,none,none,none,S7.nil _,Mh _,.inl rfl,rfl⟩ ?_ ?_
  ·rintro i d ρ hi ⟨cs,t3,o5,o6,o7,q1,q2,q3,rfl⟩
   obtain⟨k,hk,rfl⟩:=iX hi;obtain⟨rfl,hil⟩:=jo hk;refine⟨[zf (.list (ns.map .int)),zf (.int 16),zf (cP l0),t3,zo (cs.map cF),zf (nd k),o6,o7],rfl,?_⟩;obtain⟨c,ec⟩:=mn ns (16+(k:Int)) (by omega);refine bT (ρ3:=[zf (.list (ns.map .int)),zf (.int 16),zf (cP l0),t3,zo (cs.map cF),zf (nd k),zf (.int c),o7]) (fJ (rv:= .fz (.int c)) (ds:=[.list (ns.map .int),.int (16+(k:Int))]) (aj (ah rfl) (aj (aw (rv:= .fz (.int (16+(k:Int)))) (ah rfl) (ah rfl) rfl rfl (gZ _ _)) aA)) rfl rfl ec) rfl rfl ?_;have cmp:jq (dm (gN 0) (ar (au rU (eh bq 3 (ae (au cS (aa 1) (au eI (pC (.int 31)) (aa 0))) (ae (pC (.int 13)) (ae (pC (.int 3)) ao)))) (pC (.int 0)))) (aa 0) (aD ps) [none,some (.fz (.int c))] [])= .ok ((ps.filter fun j:Nat=>decide ((0:Int)<tF (c+31*(j:Int)) 13 3)).map nd):=iS nd nd (fun j:Nat=>decide ((0:Int)<tF (c+31*(j:Int)) 13 3)) ps (by omega) rfl (fun j hj=>by have m1:eI (.int 31) (nd j)=some (.fz (.int (31*(j:Int)))):=Ic ⟨by decide,by decide⟩;have dd:=gG (c+31*(j:Int)) (s:=13) (m:=3) (by decide) (by decide) (by decide);exact aZ (aw (rv:= .fz (.bool (decide ((0:Int)<tF (c+31*(j:Int)) 13 3)))) (fJ (rv:= .fz (.int (tF (c+31*(j:Int)) 13 3))) (ds:=[.int (c+31*(j:Int)),.int 13,.int 3]) (aj (aw (rv:= .fz (.int (c+31*(j:Int)))) (ah rfl) (aw (rv:= .fz (.int (31*(j:Int)))) az (ah rfl) rfl rfl m1) rfl rfl (gZ _ _)) (aj az (aj az aA))) rfl rfl dd) az rfl rfl (oH _ _)) rfl) fun j _ _=>ah rfl;have XM:(ps.filter fun j:Nat=>decide ((0:Int)<tF (c+31*(j:Int)) 13 3)).Pairwise (·<·):=P1 _ sp;have X3:∀j∈ps.filter (fun j:Nat=>decide ((0:Int)<tF (c+31*(j:Int)) 13 3)),nt l0 j=true:=fun j hj=>so j (Ng.mp hj).1;generalize ps.filter (fun j:Nat=>decide ((0:Int)<tF (c+31*(j:Int)) 13 3))=s at cmp XM X3;have a2:eN iG (ae (dk 1 [6] (gX (aa 3)) (gN 0) (ar (au rU (eh bq 3 (ae (au cS (aa 1) (au eI (pC (.int 31)) (aa 0))) (ae (pC (.int 13)) (ae (pC (.int 3)) ao)))) (pC (.int 0)))) (aa 0)) ao) [zf (.list (ns.map .int)),zf (.int 16),zf (cP l0),t3,zo (cs.map cF),zf (nd k),zf (.int c),o7]= .ok (.fz (.tuple (aD s)),[zf (.list (ns.map .int)),zf (.int 16),zf (cP l0),zf (.list (aD ps)),zo (cs.map cF),zf (nd k),zf (.int c),o7]):=by
    rcases q3 with rfl|rfl
    ·exact cG (rv:= .fz (.tuple (aD s))) (ds:=[.list (aD s)]) (aj (cX (cs:=[.int c]) (ds:=aD ps) (fZ (gW rfl) rfl rfl) rfl cmp) aA) rfl rfl
    ·exact cG (rv:= .fz (.tuple (aD s))) (ds:=[.list (aD s)]) (aj (cX (cs:=[.int c]) (ds:=aD ps) (fZ (ah rfl) rfl rfl) rfl cmp) aA) rfl rfl
   refine bT (ρ3:=[zf (.list (ns.map .int)),zf (.int 16),zf (cP l0),zf (.list (aD ps)),zo (cs.map cF),zf (nd k),zf (.int c),zf (.tuple (aD s))]) a2 rfl rfl ?_;have hls:dN [.tuple (aD s)]=some (.fz (nd s.length)):=(gj _).trans (by rw[cJ]);have nin:=zb s (cs.map (·.1));have d17:=gG c (s:=17) (m:=3) (by decide) (by decide) (by decide);generalize tF c 17 3=Zo at d17;have d19:=gG c (s:=19) (m:=4) (by decide) (by decide) (by decide);have ZO:=lV (x:=c) (s:=19) (m:=4) (by decide);generalize tF c 19 4=r19 at d19 ZO;obtain⟨l,Wy,el⟩:=xK (z:= "abxy") [0,1,23,24] (by decide+kernel) (by decide+kernel) (by decide) ZO.1 (show r19<4 from ZO.2);refine wH (b:=decide ((1:Int)<(s.length:Int))&&(decide ((0:Int)<Zo)&& !decide (s∈cs.map (·.1)))) (ρ1:=[zf (.list (ns.map .int)),zf (.int 16),zf (cP l0),zf (.list (aD ps)),zo (cs.map cF),zf (nd k),zf (.int c),zf (.tuple (aD s))])
    (jR (aZ (aw (rv:= .fz (.bool (decide ((1:Int)<(s.length:Int))))) (cG (rv:= .fz (nd s.length)) (aj (ah rfl) aA) rfl hls) az rfl rfl (oH _ _)) rfl) fun _=>jR (aZ (aw (rv:= .fz (.bool (decide ((0:Int)<Zo)))) (fJ (rv:= .fz (.int Zo)) (ds:=[.int c,.int 17,.int 3]) (aj (ah rfl) (aj az (aj az aA))) rfl rfl d17) az rfl rfl (oH _ _)) rfl) fun _=>aZ (aw (rv:= .fz (.bool (!decide (s∈cs.map (·.1))))) (ah rfl) (cX (cs:=[]) (ds:=cs.map cF) (by unfold su;rfl) rfl (sI cs (by omega) [] rfl)) rfl rfl nin) rfl) (fun q=> ?_) fun _=>yF ⟨cs,_,_,_,_,q1,by omega,.inr rfl,rfl⟩
   have q':=(MB _ _▸q:_/\_);have g1:=of_decide_eq_true q'.1;have q'':=(MB _ _▸q'.2:_/\_).2;have g2:s∉cs.map (·.1):=fun z=>by rw[decide_eq_true z] at q'';cases q''
   exact k6 (pv:= .fz .none) (ρ1:=[zf (.list (ns.map .int)),zf (.int 16),zf (cP l0),zf (.list (aD ps)),zo (cs.map cF++[cF (s,l)]),zf (nd k),zf (.int c),zf (.tuple (aD s))]) (kd (ds:=cs.map cF) (d:=cF (s,l)) rfl (eX (ds:=[.tuple (aD s),.str (dh l)]) (aj (ah rfl) (aj (aw (rv:= .fz (.str (dh l))) az (fJ (rv:= .fz (.int r19)) (ds:=[.int c,.int 19,.int 4]) (aj (ah rfl) (aj az (aj az aA))) rfl rfl d19) rfl rfl el) aA)) rfl (Mc rfl)) rfl rfl (by rw[L7];omega) rfl) ⟨cs++[(s,l)],_,_,_,_,q1.add (by omega) XM X3 Wy g2,by rw[Mg];show cs.length+1<=_;omega,.inr rfl,by rw[MZ];rfl⟩
  ·rintro ρ ⟨cs,t3,o5,o6,o7,q1,q2,q3,rfl⟩;rw[cJ,MW] at q2;exact eZ (pv:= .fz (.tuple (cs.map cF))) (ρ1:=[zf (.list (ns.map .int)),zf (.int 16),zf (cP l0),t3,zo (cs.map cF),o5,o6,o7]) (cG (rv:= .fz (.tuple (cs.map cF))) (ds:=[.list (cs.map cF)]) (aj (gW rfl) aA) rfl rfl) rfl ⟨cs,q1,q2,rfl⟩
 obtain⟨rv,h,cs,v1,v2,rfl⟩:=key;exact⟨cs,v1,v2,h⟩
theorem G0 {n w:Int} {rs:List (List Mn)} {l0:List Mn} {cs:List (List Nat×Nat)} (n1:1<=n) (n5:n<=5) (hl:rs.length<=3) (h0:rs[0]? =some l0) (hv:VL n rs.length rs) (hc:S7 l0 cs) (c4:cs.length<=4) (w1:1<=w) (w4:w<=4):VB ⟨n,rs,cs,w⟩:=by
 cases rs with
 |nil=>cases h0
 |cons x r=>cases Mw h0;exact⟨n1,n5,by show 1<=r.length+1;omega,hl,hv,c4,hc.vc,hc.un,w1,w4⟩
theorem Jz (ns:List Int):∃b:Bd,VB b/\jE [.list (ns.map .int),.int 5]= .ok (.fz (bD b)):=by
 obtain⟨c0,e0⟩:=mn ns 0 (by decide);have d1:=gG c0 (s:=1) (m:=5) (by decide) (by decide) (by decide);have b1:=lV (x:=c0) (s:=1) (m:=5) (by decide);generalize tF c0 1 5=r1 at d1 b1;have d2:=gG c0 (s:=2) (m:=3) (by decide) (by decide) (by decide);have b2:=lV (x:=c0) (s:=2) (m:=3) (by decide);generalize tF c0 2 3=r2 at d2 b2;have d23:=gG c0 (s:=23) (m:=4) (by decide) (by decide) (by decide);have b23:=lV (x:=c0) (s:=23) (m:=4) (by decide);generalize tF c0 23 4=r23 at d23 b23;obtain⟨n,hn⟩:∃n:Nat,1+r1=(n:Int):=⟨(1+r1).toNat,by omega⟩;obtain⟨nl,hnl⟩:∃n:Nat,1+r2=(n:Int):=⟨(1+r2).toNat,by omega⟩;have ZJ:gS [.int (1+r1)]=some (aD (Mz n)):=by rw[hn];exact kN (by omega)
 have rgl:gS [.int (1+r2)]=some (aD (Mz nl)):=by rw[hnl];exact kN (by omega)
 have key:∃rv,gb 8 jD [.list (ns.map .int),.int 5]= .ok rv/\∃b:Bd,VB b/\rv= .fz (bD b):=by
  refine jP (T:=fun rv=>∃b:Bd,VB b/\rv= .fz (bD b)) (ρ:=[zf (.list (ns.map .int)),zf (.int 5),none,none,none,none,none,none]) rfl ?_;unfold jD;refine bT (ρ3:=[zf (.list (ns.map .int)),zf (.int 5),zf (.int c0),none,none,none,none,none]) (by walk_at "ev") rfl rfl ?_;refine bT (ρ3:=[zf (.list (ns.map .int)),zf (.int 5),zf (.int c0),zf (.int (1+r1)),none,none,none,none]) (by walk_at "ev") rfl rfl ?_;refine bT (ρ3:=[zf (.list (ns.map .int)),zf (.int 5),zf (.int c0),zf (.int (1+r1)),zf (.int (1+r2)),none,none,none]) (by walk_at "ev") rfl rfl ?_;refine bT (ρ3:=[zf (.list (ns.map .int)),zf (.int 5),zf (.int c0),zf (.int (1+r1)),zf (.int (1+r2)),zo [],none,none]) (by walk_at "ev") rfl rfl ?_;refine lO (fun i ρ=>∃(rs:List (List Mn)) (o6 o7:Option PV),rs.length=i/\VL (1+r1) (1+r2) rs/\ρ=[zf (.list (ns.map .int)),zf (.int 5),zf (.int c0),zf (.int (1+r1)),zf (.int (1+r2)),zo (rs.map cP),o6,o7]) (ds:=aD (Mz nl)) (ρ1:=[zf (.list (ns.map .int)),zf (.int 5),zf (.int c0),zf (.int (1+r1)),zf (.int (1+r2)),zo [],none,none]) (by walk_at "ev") ⟨[],none,none,rfl,(fun j r h=>by cases h),rfl⟩ ?_ ?_
  ·rintro i d ρ hi ⟨rs,o6,o7,hl,hr,rfl⟩
   obtain⟨L,hL,rfl⟩:=iX hi;obtain⟨rfl,hin⟩:=jo hL;refine⟨[zf (.list (ns.map .int)),zf (.int 5),zf (.int c0),zf (.int (1+r1)),zf (.int (1+r2)),zo (rs.map cP),zf (nd L),o7],rfl,?_⟩;have mu:eI (.int (1+r1)) (nd L)=some (.fz (.int ((1+r1)*L))):=Ic ⟨by omega,by omega⟩;obtain⟨xs,c1,c2,c3⟩:=vF (gt:=gN 0) (ft:=fw) (fe:=eh bF 2 (ae (aa 1) (ae (au cS (au cS (pC (.int 1)) (au eI (aa 2) (aa 3))) (aa 0)) ao))) (ds:=aD (Mz n)) (ρ:=[none,some (.fz (.list (ns.map .int))),some (.fz (.int (1+r1))),some (.fz (nd L))]) (fun ρ=>∃o,ρ=[o,some (.fz (.list (ns.map .int))),some (.fz (.int (1+r1))),some (.fz (nd L))]) (fun _ x=>∃a:Int,x= .int a/\True) ⟨none,rfl⟩ (by rw[cJ,MW];omega) (by rintro j d hj ρ ⟨o,rfl⟩;obtain⟨k,hk,rfl⟩:=iX hj;obtain⟨c,ec⟩:=mn ns (1+(1+r1)*L+k) (by have:=Int.mul_nonneg (show 0<=1+r1 by omega) (show(0:Int)<=L by omega);omega);refine⟨.int c,_,E2 (ρ1:=[some (.fz (nd k)),some (.fz (.list (ns.map .int))),some (.fz (.int (1+r1))),some (.fz (nd L))]) rfl rfl (fJ (rv:= .fz (.int c)) (ds:=[.list (ns.map .int),.int (1+(1+r1)*L+k)]) (aj (ah rfl) (aj (aw (rv:= .fz (.int (1+(1+r1)*L+k))) (aw (rv:= .fz (.int (1+(1+r1)*L))) az (aw (rv:= .fz (.int ((1+r1)*L))) (ah rfl) (ah rfl) rfl rfl mu) rfl rfl (gZ _ _)) (ah rfl) rfl rfl (gZ _ _)) aA)) rfl rfl ec) rfl rfl,⟨_,rfl⟩,c,rfl,trivial⟩);obtain⟨cs,rfl,_⟩:=tL (f:=Mb.int) (Q:=fun _ (_:Int)=>True) xs 0 c3;rw[cJ,MW,L7] at c2;refine bT (pv:= .ow (cs.map .int)) (ρ3:=[zf (.list (ns.map .int)),zf (.int 5),zf (.int c0),zf (.int (1+r1)),zf (.int (1+r2)),zo (rs.map cP),zf (nd L),zo (cs.map .int)]) (cX (cs:=[.list (ns.map .int),.int (1+r1),nd L]) (ds:=aD (Mz n)) (by walk_at "ev") rfl c1) rfl rfl ?_;obtain⟨ys,c4,c5,c6⟩:=vF (gt:=gN 0) (ft:=fw) (fe:=eh eO 3 (ae (aa 0) (ae (aa 1) (ae (aa 2) ao)))) (ds:=cs.map .int) (ρ:=[none,some (.fz (nd L)),some (.fz (.int (1+r2)))]) (fun ρ=>∃o,ρ=[o,some (.fz (nd L)),some (.fz (.int (1+r2)))]) (fun _ x=>∃a:Mn,x=mD a/\VM L (1+r2) a) ⟨none,rfl⟩ (by rw[L7];omega) (by
    rintro j d hj ρ ⟨o,rfl⟩;obtain⟨c,rfl⟩:∃c:Int,d= .int c:=by
     rw[Ml] at hj;cases q:cs[j]? with
     |none=>rw[q] at hj;cases hj
     |some x=>rw[q] at hj;exact⟨x,(Mw hj).symm⟩
    obtain⟨m,v1,em⟩:=Fi c L (1+r2) (by omega);exact⟨mD m,_,E2 (ρ1:=[some (.fz (.int c)),some (.fz (nd L)),some (.fz (.int (1+r2)))]) rfl rfl (fJ (rv:= .fz (mD m)) (ds:=[.int c,nd L,.int (1+r2)]) (aj (ah rfl) (aj (ah rfl) (aj (ah rfl) aA))) rfl rfl em) rfl rfl,⟨_,rfl⟩,m,rfl,v1⟩)
   obtain⟨ms,rfl,q6⟩:=tL (f:=mD) (Q:=fun _ a=>VM L (1+r2) a) ys 0 c6;rw[L7,L7] at c5;have tu:iG [.list (ms.map mD)]=some (.fz (cP ms)):=rfl;have Vr:(rs.map cP).length<1000000:=by rw[L7];omega
   refine k6 (pv:= .fz .none) (ρ1:=[zf (.list (ns.map .int)),zf (.int 5),zf (.int c0),zf (.int (1+r1)),zf (.int (1+r2)),zo (rs.map cP++[cP ms]),zf (nd L),zf (.list (cs.map .int))]) (kd (pa:= .fz (cP ms)) (d:=cP ms) rfl (cG (rv:= .fz (cP ms)) (ds:=[.list (ms.map mD)]) (aj (cX (cs:=[nd L,.int (1+r2)]) (ds:=cs.map .int) (fZ (gW rfl) rfl rfl) rfl c4) aA) rfl tu) rfl rfl Vr rfl) ⟨rs++[ms],_,_,by rw[Mg,hl];rfl,yX hr (by omega) (fun m hm=> ?_),by rw[MZ];rfl⟩;obtain⟨t,ht⟩:=Pf.mp hm;rw[hl];exact q6 t m ht
  ·rintro ρ ⟨rs,o6,o7,hl,hr,rfl⟩;rw[cJ,MW] at hl;obtain⟨l0,h0⟩:∃l0,rs[0]? =some l0:=⟨_,Mf (show 0<rs.length by omega)⟩;have hl0:=(hr 0 l0 h0).1;obtain⟨cs,v1,v2,ec⟩:=Ai ns l0 (by omega);have i0:aG (.list (rs.map cP)) (.int 0)=some (.fz (cP l0)):=J0 (by decide) (by show(rs.map cP)[0]? =_;rw[Ml,h0];rfl);have tu:iG [.list (rs.map cP)]=some (.fz (.tuple (rs.map cP))):=rfl;refine eZ (pv:= .fz (bD ⟨1+r1,rs,cs,1+r23⟩)) (ρ1:=[zf (.list (ns.map .int)),zf (.int 5),zf (.int c0),zf (.int (1+r1)),zf (.int (1+r2)),zo (rs.map cP),o6,o7]) (eX (ds:=[.int (1+r1),.tuple (rs.map cP),.tuple (cs.map cF),.int (1+r23)]) (aj (ah rfl) (aj (cG (rv:= .fz (.tuple (rs.map cP))) (ds:=[.list (rs.map cP)]) (aj (gW rfl) aA) rfl tu) (aj (fJ (rv:= .fz (.tuple (cs.map cF))) (ds:=[.list (ns.map .int),.int 16,cP l0]) (aj (ah rfl) (aj az (aj (aw (rv:= .fz (cP l0)) (dx:= .list (rs.map cP)) (gW rfl) az rfl rfl i0) aA))) rfl rfl ec) (aj (aw (rv:= .fz (.int (1+r23))) az (by walk_at "ev") rfl rfl (gZ _ _)) aA)))) rfl (Mc rfl)) rfl ⟨_,G0 (by omega) (by omega) (by omega) h0 (by rw[show((rs.length:Nat):Int)=1+r2 by omega];exact hr) v1 v2 (by omega) (by omega),rfl⟩
 obtain⟨rv,h,b,B,rfl⟩:=key;exact⟨b,B,h⟩
theorem J9 (i:Int) (k:Nat):D0 (.int i) (nd k)=some (.fz (.int (i/2^k))):=by show(if Lm i (k:Int)=true then some (RV.fz (.int (i/2^((k:Nat):Int).toNat))) else none)=_;rw[if_pos (by unfold Lm;exact decide_eq_true (by omega)),ND]
noncomputable def zX (x:Int) (k:Nat):Bool:=decide (MU.bitAnd (x/2^k) 1=1)
noncomputable abbrev RE (x n nl w:Int) (t7 o8 o9 QV t11 Ug Tr:Option PV):aK:=[zf (.int x),zf (.int 5),zf (.int 3),zf (.int 4),zf (.int n),zf (.int nl),zf (.int w),t7,o8,o9,QV,t11,Ug,Tr]
theorem Ek (x:Int):∃b:Bd,VB b/\fD [.int x,.int 5,.int 3,.int 4]= .ok (.fz (bD b)):=by
 have m1:ef (.int x) (.int 5)=some (.fz (.int (x % 5))):=fM (by decide);have m2:eY (.int x) (.int 5)=some (.fz (.int (x/5))):=fY ⟨by decide,by decide⟩;have m3:ef (.int (x/5)) (.int 3)=some (.fz (.int (x/5 % 3))):=fM (by decide);have m4:eY (.int (x/5)) (.int 3)=some (.fz (.int (x/5/3))):=fY ⟨by decide,by decide⟩;have bn:1<=1+x % 5/\1+x % 5<=5:=by omega
 have bl:1<=1+x/5 % 3/\1+x/5 % 3<=3:=by omega
 have key:∃rv,gb 14 fC [.int x,.int 5,.int 3,.int 4]= .ok rv/\∃b:Bd,VB b/\rv= .fz (bD b):=by
  refine jP (T:=fun rv=>∃b:Bd,VB b/\rv= .fz (bD b)) (ρ:=[zf (.int x),zf (.int 5),zf (.int 3),zf (.int 4),none,none,none,none,none,none,none,none,none,none]) rfl ?_;unfold fC;refine bT (ρ3:=[zf (.int x),zf (.int 5),zf (.int 3),zf (.int 4),zf (.int (1+x % 5)),none,none,none,none,none,none,none,none,none]) (by walk_at "ev") rfl rfl ?_;refine bT (ρ3:=[zf (.int x),zf (.int 5),zf (.int 3),zf (.int 4),zf (.int (1+x % 5)),zf (.int (1+x/5 % 3)),none,none,none,none,none,none,none,none]) (by walk_at "ev") rfl rfl ?_;generalize 1+x % 5=n at bn;generalize 1+x/5 % 3=nl at bl;refine bT (ρ3:=[zf (.int (x/5/3)),zf (.int 5),zf (.int 3),zf (.int 4),zf (.int n),zf (.int nl),none,none,none,none,none,none,none,none]) (by walk_at "ev") rfl rfl ?_;generalize x/5/3=y;have m5:ef (.int y) (.int 4)=some (.fz (.int (y % 4))):=fM (by decide);have m6:eY (.int y) (.int 4)=some (.fz (.int (y/4))):=fY ⟨by decide,by decide⟩;have bw:1<=1+y % 4/\1+y % 4<=4:=by omega
  refine bT (ρ3:=RE y n nl (1+y % 4) none none none none none none none) (by walk_at "ev") rfl rfl ?_;generalize 1+y % 4=w at bw;refine bT (ρ3:=RE (y/4) n nl w none none none none none none none) (by walk_at "ev") rfl rfl ?_;generalize y/4=z;refine bT (ρ3:=RE z n nl w (zo []) none none none none none none) (by walk_at "ev") rfl rfl ?_;have ZJ:gS [.int n]=some (aD (Mz n.toNat)):=xM (by omega) (by omega);have rgl:gS [.int nl]=some (aD (Mz nl.toNat)):=xM (by omega) (by omega);have rg4:gS [.int 4]=some (aD (Mz 4)):=kN (n:=4) (by decide);refine lO (fun i ρ=>∃(z:Int) (rs:List (List Mn)) (o8 o9 QV:Option PV),rs.length=i/\VL n nl rs/\ρ=RE z n nl w (zo (rs.map cP)) o8 o9 QV none none none) (ds:=aD (Mz nl.toNat)) (ρ1:=RE z n nl w (zo []) none none none none none none) (by walk_at "ev") ⟨z,[],none,none,none,rfl,(fun j r h=>by cases h),rfl⟩ ?_ ?_
  ·rintro i d ρ hi ⟨z,rs,o8,o9,QV,hl,hr,rfl⟩
   obtain⟨L,hL,rfl⟩:=iX hi;obtain⟨rfl,hin⟩:=jo hL;refine⟨RE z n nl w (zo (rs.map cP)) (zf (nd L)) o9 QV none none none,rfl,?_⟩;refine bT (ρ3:=RE z n nl w (zo (rs.map cP)) (zf (nd L)) (zo []) QV none none none) (by walk_at "ev") rfl rfl ?_;refine lO (fun i ρ=>∃(z:Int) (ms:List Mn) (QV:Option PV),ms.length=i/\(∀m∈ms,VM L nl m)/\ρ=RE z n nl w (zo (rs.map cP)) (zf (nd L)) (zo (ms.map mD)) QV none none none) (ds:=aD (Mz n.toNat)) (ρ1:=RE z n nl w (zo (rs.map cP)) (zf (nd L)) (zo []) QV none none none) (by walk_at "ev") ⟨z,[],QV,rfl,(fun m h=>by cases h),rfl⟩ ?_ ?_
   ·rintro j d ρ hj ⟨z,ms,QV,hm,hv,rfl⟩
    obtain⟨k,hk,rfl⟩:=iX hj;obtain⟨rfl,hjn⟩:=jo hk;refine⟨RE z n nl w (zo (rs.map cP)) (zf (nd L)) (zo (ms.map mD)) (zf (nd k)) none none none,rfl,?_⟩;have e1:ef (.int z) (.int 364)=some (.fz (.int (z % 364))):=fM (by decide);have e2:eY (.int z) (.int 364)=some (.fz (.int (z/364))):=fY ⟨by decide,by decide⟩;obtain⟨m,vm,em⟩:=Dx (z % 364) L nl bl.1 bl.2;have Vr:(ms.map mD).length<1000000:=by rw[L7];omega
    refine t6 (pv:= .fz .none) (ρ1:=RE z n nl w (zo (rs.map cP)) (zf (nd L)) (zo (ms.map mD++[mD m])) (zf (nd k)) none none none) (kd (pa:= .fz (mD m)) (d:=mD m) rfl (fJ (rv:= .fz (mD m)) (ds:=[.int (z % 364),nd L,.int nl]) (aj (aw (rv:= .fz (.int (z % 364))) (ah rfl) az rfl rfl e1) (aj (ah rfl) (aj (ah rfl) aA))) rfl rfl em) rfl rfl Vr rfl) ?_;refine .eq (ra (ρ3:=RE (z/364) n nl w (zo (rs.map cP)) (zf (nd L)) (zo (ms.map mD++[mD m])) (zf (nd k)) none none none) (by walk_at "ev") rfl rfl) ⟨⟨z/364,ms++[m],_,by rw[Mg,hm];rfl,fun x hx=>(Nh.mp hx).elim (hv x) fun q=>by rw[MC.mp q];exact vm,by rw[MZ];rfl⟩⟩
   ·rintro ρ ⟨z,ms,QV,hm,hv,rfl⟩
    rw[cJ,MW] at hm;have Vr:(rs.map cP).length<1000000:=by rw[L7];omega
    have tu:iG [.list (ms.map mD)]=some (.fz (cP ms)):=rfl;exact k6 (pv:= .fz .none) (ρ1:=RE z n nl w (zo (rs.map cP++[cP ms])) (zf (nd L)) (zo (ms.map mD)) QV none none none) (kd (pa:= .fz (cP ms)) (d:=cP ms) rfl (cG (rv:= .fz (cP ms)) (ds:=[.list (ms.map mD)]) (aj (gW rfl) aA) rfl tu) rfl rfl Vr rfl) ⟨z,rs++[ms],_,_,_,by rw[Mg,hl];rfl,yX hr (by omega) (by rw[hl];exact hv),by rw[MZ];rfl⟩
  ·rintro ρ ⟨z,rs,o8,o9,QV,hl,hr,rfl⟩
   rw[cJ,MW] at hl;obtain⟨l0,h0⟩:∃l0,rs[0]? =some l0:=⟨_,Mf (show 0<rs.length by omega)⟩;have hl0:=(hr 0 l0 h0).1;have i0:aG (.list (rs.map cP)) (.int 0)=some (.fz (cP l0)):=J0 (by decide) (by show(rs.map cP)[0]? =_;rw[Ml,h0];rfl);refine bT (ρ3:=RE z n nl w (zo (rs.map cP)) o8 o9 QV (zo []) none none) (by walk_at "ev") rfl rfl ?_;refine lO (fun i ρ=>∃(z:Int) (cs:List (List Nat×Nat)) (t7 Ug Tr:Option PV),S7 l0 cs/\cs.length<=i/\(t7=zo (rs.map cP)\/t7=zf (.list (rs.map cP)))/\ρ=RE z n nl w t7 o8 o9 QV (zo (cs.map cF)) Ug Tr) (ds:=aD (Mz 4)) (ρ1:=RE z n nl w (zo (rs.map cP)) o8 o9 QV (zo []) none none) (by walk_at "ev") ⟨z,[],_,none,none,S7.nil _,Mh _,.inl rfl,rfl⟩ ?_ ?_
   ·rintro i d ρ hi ⟨z,cs,t7,Ug,Tr,q1,q2,q3,rfl⟩
    obtain⟨j,hj,rfl⟩:=iX hi;obtain⟨rfl,hil⟩:=jo hj;refine⟨RE z n nl w t7 o8 o9 QV (zo (cs.map cF)) (zf (nd j)) Tr,rfl,?_⟩;have cmp:jq (dm (gN 0) (ig (ar (au bQ (au wF (au D0 (aa 1) (aa 0)) (pC (.int 1))) (pC (.int 1)))) (ar (au bQ (au aG (au aG (au aG (aa 2) (pC (.int 0))) (aa 0)) (pC (.int 0))) (pC (.str "letter"))))) (aa 0) (aD (Mz n.toNat)) [none,some (.fz (.int z)),some (.fz (.list (rs.map cP)))] [])= .ok (((Mz n.toNat).filter fun k=>zX z k&&nt l0 k).map nd):=iS nd nd (fun k=>zX z k&&nt l0 k) (Mz n.toNat) (by rw[MW];omega) rfl (fun k hk=>by have WX:=NO.mp hk;obtain⟨d,e1,wd,e2,e3⟩:=BU (l0:=l0) (k:=k) (by omega);have s1:=J9 z k;have s2:wF (.int (z/2^k)) (.int 1)=some (.fz (.int (MU.bitAnd (z/2^k) 1))):=rfl;exact jR (aZ (aw (rv:= .fz (.bool (zX z k))) (aw (rv:= .fz (.int (MU.bitAnd (z/2^k) 1))) (aw (rv:= .fz (.int (z/2^k))) (ah rfl) (ah rfl) rfl rfl s1) az rfl rfl s2) az rfl rfl (jG _ _)) rfl) fun _=>aZ (aw (rv:= .fz (.bool (nt l0 k))) (aw (rv:= .fz (.str wd)) (aw (rv:= .fz d) (aw (rv:= .fz (cP l0)) (ah rfl) az rfl rfl i0) (ah rfl) rfl rfl e1) az rfl rfl e2) az rfl rfl e3) rfl) fun k _ _=>ah rfl;have XM:((Mz n.toNat).filter fun k=>zX z k&&nt l0 k).Pairwise (·<·):=P1 _ Qm;have X3:∀k∈(Mz n.toNat).filter (fun k=>zX z k&&nt l0 k),nt l0 k=true:=fun k hk=>(MB _ _▸(Ng.mp hk).2:_/\_).2;generalize (Mz n.toNat).filter (fun k=>zX z k&&nt l0 k)=s at cmp XM X3;have a2:eN iG (ae (dk 1 [0,7] (lJ gS (ae (aa 4) ao)) (gN 0) (ig (ar (au bQ (au wF (au D0 (aa 1) (aa 0)) (pC (.int 1))) (pC (.int 1)))) (ar (au bQ (au aG (au aG (au aG (aa 2) (pC (.int 0))) (aa 0)) (pC (.int 0))) (pC (.str "letter"))))) (aa 0)) ao) (RE z n nl w t7 o8 o9 QV (zo (cs.map cF)) (zf (nd j)) Tr)= .ok (.fz (.tuple (aD s)),RE z n nl w (zf (.list (rs.map cP))) o8 o9 QV (zo (cs.map cF)) (zf (nd j)) Tr):=by
     rcases q3 with rfl|rfl
     ·exact cG (rv:= .fz (.tuple (aD s))) (ds:=[.list (aD s)]) (aj (cX (cs:=[.int z,.list (rs.map cP)]) (ds:=aD (Mz n.toNat)) (my (ds:=[.int n]) (aj (ah rfl) aA) rfl ZJ) rfl cmp) aA) rfl rfl
     ·exact cG (rv:= .fz (.tuple (aD s))) (ds:=[.list (aD s)]) (aj (cX (cs:=[.int z,.list (rs.map cP)]) (ds:=aD (Mz n.toNat)) (my (ds:=[.int n]) (aj (ah rfl) aA) rfl ZJ) rfl cmp) aA) rfl rfl
    refine bT (ρ3:=RE z n nl w (zf (.list (rs.map cP))) o8 o9 QV (zo (cs.map cF)) (zf (nd j)) (zf (.tuple (aD s)))) a2 rfl rfl ?_;have hls:dN [.tuple (aD s)]=some (.fz (nd s.length)):=(gj _).trans (by rw[cJ]);have nin:=zb s (cs.map (·.1));have f1:eY (.int z) (.int 32)=some (.fz (.int (z/32))):=fY ⟨by decide,by decide⟩;have f2:ef (.int (z/32)) (.int 26)=some (.fz (.int (z/32 % 26))):=fM (by decide);have f3:eY (.int z) (.int 832)=some (.fz (.int (z/832))):=fY ⟨by decide,by decide⟩;obtain⟨l,Wy,el⟩:=Dj (r:=z/32 % 26) (by omega) (by omega);have fin:∀(WL:List (List Nat×Nat)),S7 l0 WL->WL.length<=j+1->Go (de (au eY (aa 0) (pC (.int 832))) (gN 0) (RE z n nl w (zf (.list (rs.map cP))) o8 o9 QV (zo (WL.map cF)) (zf (nd j)) (zf (.tuple (aD s))))) (fun ρ=>∃(z:Int) (cs:List (List Nat×Nat)) (t7 Ug Tr:Option PV),S7 l0 cs/\cs.length<=j+1/\(t7=zo (rs.map cP)\/t7=zf (.list (rs.map cP)))/\ρ=RE z n nl w t7 o8 o9 QV (zo (cs.map cF)) Ug Tr) (fun ρ=>∃(z:Int) (cs:List (List Nat×Nat)) (t7 Ug Tr:Option PV),S7 l0 cs/\cs.length<=j+1/\(t7=zo (rs.map cP)\/t7=zf (.list (rs.map cP)))/\ρ=RE z n nl w t7 o8 o9 QV (zo (cs.map cF)) Ug Tr) (fun rv=>∃b:Bd,VB b/\rv= .fz (bD b)):=fun WL h1 h2=>
     .eq (ra (ρ3:=RE (z/832) n nl w (zf (.list (rs.map cP))) o8 o9 QV (zo (WL.map cF)) (zf (nd j)) (zf (.tuple (aD s)))) (by walk_at "ev") rfl rfl) ⟨⟨z/832,WL,_,_,_,h1,h2,.inr rfl,rfl⟩⟩
    refine iO (b:=decide ((1:Int)<(s.length:Int))&& !decide (s∈cs.map (·.1))) (ρ1:=RE z n nl w (zf (.list (rs.map cP))) o8 o9 QV (zo (cs.map cF)) (zf (nd j)) (zf (.tuple (aD s))))
     (jR (aZ (aw (rv:= .fz (.bool (decide ((1:Int)<(s.length:Int))))) (cG (rv:= .fz (nd s.length)) (aj (ah rfl) aA) rfl hls) az rfl rfl (oH _ _)) rfl) fun _=>aZ (aw (rv:= .fz (.bool (!decide (s∈cs.map (·.1))))) (ah rfl) (cX (cs:=[]) (ds:=cs.map cF) (by unfold su;rfl) rfl (sI cs (by omega) [] rfl)) rfl rfl nin) rfl) (fun q=> ?_) fun _=>dC (fin cs q1 (by omega))
    have q':=(MB _ _▸q:_/\_);have g1:=of_decide_eq_true q'.1;have g2:s∉cs.map (·.1):=fun z=>by rw[decide_eq_true z] at q';cases q'.2
    exact t6 (pv:= .fz .none) (ρ1:=RE z n nl w (zf (.list (rs.map cP))) o8 o9 QV (zo ((cs++[(s,l)]).map cF)) (zf (nd j)) (zf (.tuple (aD s)))) (kd (ds:=cs.map cF) (d:=cF (s,l)) rfl (eX (ds:=[.tuple (aD s),.str (dh l)]) (aj (ah rfl) (aj (aw (rv:= .fz (.str (dh l))) az (aw (rv:= .fz (.int (z/32 % 26))) (aw (rv:= .fz (.int (z/32))) (ah rfl) az rfl rfl f1) az rfl rfl f2) rfl rfl el) aA)) rfl (Mc rfl)) rfl rfl (by rw[L7];omega) (by rw[MZ];rfl)) (fin _ (q1.add (by omega) XM X3 Wy g2) (by rw[Mg];show cs.length+1<=_;omega))
   ·rintro ρ ⟨z,cs,t7,Ug,Tr,q1,q2,q3,rfl⟩
    rw[cJ,MW] at q2;have vb:VB ⟨n,rs,cs,w⟩:=G0 (by omega) (by omega) (by omega) h0 (by rw[show((rs.length:Nat):Int)=nl by omega];exact hr) q1 q2 (by omega) (by omega);have tr:∀t7,(t7=zo (rs.map cP)\/t7=zf (.list (rs.map cP)))->aW (ae (aa 4) (ae (eN iG (ae (aa 7) ao)) (ae (eN iG (ae (aa 11) ao)) (ae (aa 6) ao)))) (RE z n nl w t7 o8 o9 QV (zo (cs.map cF)) Ug Tr)= .ok (.fz (.tuple [.int n,.tuple (rs.map cP),.tuple (cs.map cF),.int w]),RE z n nl w t7 o8 o9 QV (zo (cs.map cF)) Ug Tr):=by
     rintro t7 (rfl|rfl)
     ·exact eX (aj (ah rfl) (aj (cG (rv:= .fz (.tuple (rs.map cP))) (ds:=[.list (rs.map cP)]) (aj (gW rfl) aA) rfl rfl) (aj (cG (rv:= .fz (.tuple (cs.map cF))) (ds:=[.list (cs.map cF)]) (aj (gW rfl) aA) rfl rfl) (aj (ah rfl) aA)))) rfl (Mc rfl)
     ·exact eX (aj (ah rfl) (aj (cG (rv:= .fz (.tuple (rs.map cP))) (ds:=[.list (rs.map cP)]) (aj (ah rfl) aA) rfl rfl) (aj (cG (rv:= .fz (.tuple (cs.map cF))) (ds:=[.list (cs.map cF)]) (aj (gW rfl) aA) rfl rfl) (aj (ah rfl) aA)))) rfl (Mc rfl)
    exact eZ (pv:= .fz (bD ⟨n,rs,cs,w⟩)) (ρ1:=RE z n nl w t7 o8 o9 QV (zo (cs.map cF)) Ug Tr) (tr t7 q3) rfl ⟨_,vb,rfl⟩
 obtain⟨rv,h,b,B,rfl⟩:=key;exact⟨b,B,h⟩
theorem Ki {n r:Int} (hn:1<=n/\n<=5) (hr:0<=r/\r<2*n+1):r/n=0\/r/n=1\/r/n=2:=by
 have:n=1\/n=2\/n=3\/n=4\/n=5:=by omega
 rcases this with rfl|rfl|rfl|rfl|rfl<;>omega
noncomputable abbrev VE (ns:List Int) (n:Int) (es:List Qc) (o4 o5:Option PV):aK:=[zf (.list (ns.map .int)),zf (.int 20),zf (.int n),zo (es.map dg),o4,o5]
theorem AB {b:Bd} (B:VB b) (ns:List Int) (SU:ns.length<=63):∃es:List Qc,es.length<=63/\(∀e∈es,EV b e)/\fq [.list (ns.map .int),.int 20,.int b.n]= .ok (.ow (es.map dg)):=by
 have n1:=B.n1;have n5:=B.n5;obtain⟨ms,hms,esl⟩:=Dn ns (some 20) (some 63);have key:∃rv,gb 6 gF [.list (ns.map .int),.int 20,.int b.n]= .ok rv/\∃es:List Qc,es.length<=63/\(∀e∈es,EV b e)/\rv= .ow (es.map dg):=by
  refine jP (T:=fun rv=>∃es:List Qc,es.length<=63/\(∀e∈es,EV b e)/\rv= .ow (es.map dg)) (ρ:=[zf (.list (ns.map .int)),zf (.int 20),zf (.int b.n),none,none,none]) rfl ?_;unfold gF;refine bT (ρ3:=VE ns b.n [] none none) (by walk_at "ev") rfl rfl ?_;refine lO (fun i ρ=>∃(es:List Qc) (o4 o5:Option PV),es.length=i/\(∀e∈es,EV b e)/\ρ=VE ns b.n es o4 o5) (ds:=ms.map .int) (ρ1:=VE ns b.n [] none none) (fZ (pa:= .ow (ms.map .int)) (G3 (rv:= .ow (ms.map .int)) (ah rfl) (wb (ah rfl) rfl) (by walk_at "ev") rfl esl) rfl rfl) ⟨[],none,none,rfl,(fun e h=>by cases h),rfl⟩ ?_ ?_
  ·rintro i d ρ hi ⟨es,o4,o5,hl,he,rfl⟩
   have him:i<ms.length:=by have:=(Md.mp hi).1;rwa [L7] at this
   obtain⟨x,rfl⟩:∃x:Int,d= .int x:=by
    rw[Ml] at hi;cases q:ms[i]? with
    |none=>rw[q] at hi;cases hi
    |some x=>rw[q] at hi;exact⟨x,(Mw hi).symm⟩
   refine⟨VE ns b.n es (zf (.int x)) o5,rfl,?_⟩;have m5:eI (.int 5) (.int b.n)=some (.fz (.int (5*b.n))):=Ic ⟨by decide,by decide⟩;have m2:eI (.int 2) (.int b.n)=some (.fz (.int (2*b.n))):=Ic ⟨by decide,by decide⟩;have m4:eI (.int 4) (.int b.n)=some (.fz (.int (4*b.n))):=Ic ⟨by decide,by decide⟩;have dd:=gG x (s:=29) (m:=5*b.n+3) (by decide) (by decide) (by omega);have db:=lV (x:=x) (s:=29) (m:=5*b.n+3) (by omega);generalize tF x 29 (5*b.n+3)=r at dd db;have di:eY (.int r) (.int 2)=some (.fz (.int (r/2))):=fY ⟨by omega,by omega⟩;have Vr:(es.map dg).length<1000000:=by rw[L7];omega
   refine bT (ρ3:=VE ns b.n es (zf (.int x)) (zf (.int r))) (fJ (rv:= .fz (.int r)) (ds:=[.int x,.int 29,.int (5*b.n+3)]) (aj (ah rfl) (aj az (aj (aw (rv:= .fz (.int (5*b.n+3))) (aw (rv:= .fz (.int (5*b.n))) az (ah rfl) rfl rfl m5) az rfl rfl (gZ _ _)) aA))) rfl rfl dd) rfl rfl ?_;have fin:∀(e:Qc) (d:D) (fe:FE),EV b e->d=dg e->fe (VE ns b.n es (zf (.int x)) (zf (.int r)))= .ok (.fz d,VE ns b.n es (zf (.int x)) (zf (.int r)))->Go (gO (lL 3 fe) (VE ns b.n es (zf (.int x)) (zf (.int r)))) (fun ρ=>∃(es:List Qc) (o4 o5:Option PV),es.length=i+1/\(∀e∈es,EV b e)/\ρ=VE ns b.n es o4 o5) (fun ρ=>∃(es:List Qc) (o4 o5:Option PV),es.length=i+1/\(∀e∈es,EV b e)/\ρ=VE ns b.n es o4 o5) (fun rv=>∃es:List Qc,es.length<=63/\(∀e∈es,EV b e)/\rv= .ow (es.map dg)):=fun e d fe V0 hd hf=>by subst hd;exact k6 (pv:= .fz .none) (ρ1:=VE ns b.n (es++[e]) (zf (.int x)) (zf (.int r))) (kd (pa:= .fz (dg e)) (d:=dg e) (ds:=es.map dg) rfl hf rfl rfl Vr (by show[_,_,_,zo (es.map dg++[dg e]),_,_]=_;rw[show es.map dg++[dg e]=(es++[e]).map dg by rw[MZ];rfl])) ⟨es++[e],_,_,by rw[Mg,hl];rfl,fun x hx=>(Nh.mp hx).elim (he x) fun z=>by rw[MC.mp z];exact V0,rfl⟩
   refine wH (b:=decide (r<2*b.n)) (ρ1:=VE ns b.n es (zf (.int x)) (zf (.int r))) (by walk_at "ev") (fun q=> ?_) fun q1=>wH (b:=decide (r<4*b.n)) (ρ1:=VE ns b.n es (zf (.int x)) (zf (.int r))) (by walk_at "ev") (fun q=> ?_) fun q2=>wH (b:=decide (r<5*b.n)) (ρ1:=VE ns b.n es (zf (.int x)) (zf (.int r))) (by walk_at "ev") (fun q=> ?_) fun q3=> ?_
   ·have q:=of_decide_eq_true q;exact fin (.down (r/2).toNat) (.tuple [.str "down",.int (r/2)]) _ (by show(((r/2).toNat:Nat):Int)<b.n;omega) (by show _=Mb.tuple [.str "down",.int (((r/2).toNat:Nat):Int)];rw[OI (by omega)]) (by walk_at "ev")
   ·have q:=of_decide_eq_true q;have q1:=of_decide_eq_false q1;exact fin (.up (r/2 - b.n).toNat) (.tuple [.str "up",.int (r/2 - b.n)]) _ (by show(((r/2 - b.n).toNat:Nat):Int)<b.n;omega) (by show _=Mb.tuple [.str "up",.int (((r/2 - b.n).toNat:Nat):Int)];rw[OI (by omega)]) (by walk_at "ev")
   ·have q:=of_decide_eq_true q;have q2:=of_decide_eq_false q2;exact fin (.down (r - 4*b.n).toNat) (.tuple [.str "down",.int (r - 4*b.n)]) _ (by show(((r - 4*b.n).toNat:Nat):Int)<b.n;omega) (by show _=Mb.tuple [.str "down",.int (((r - 4*b.n).toNat:Nat):Int)];rw[OI (by omega)]) (by walk_at "ev")
   ·exact fin .turn (.tuple [.str "turn",.int 0]) _ trivial rfl (by walk_at "ev")
  ·rintro ρ ⟨es,o4,o5,hl,he,rfl⟩;rw[L7] at hl;exact eZ (pv:= .pl 3) (ρ1:=VE ns b.n es o4 o5) (gW rfl) rfl ⟨es,by omega,he,rfl⟩
 obtain⟨rv,h,es,h1,h2,rfl⟩:=key;exact⟨es,h1,h2,h⟩
noncomputable abbrev WE (y n:Int) (es:List Qc) (m:Int) (o4 o5:Option PV):aK:=[zf (.int y),zf (.int n),zo (es.map dg),zf (.int m),o4,o5]
theorem xF {b:Bd} (B:VB b) (x:Int):∃es:List Qc,es.length<=63/\(∀e∈es,EV b e)/\cV [.int x,.int b.n]= .ok (.ow (es.map dg)):=by
 have n1:=B.n1;have n5:=B.n5;have m1:ef (.int x) (.int 41)=some (.fz (.int (x % 41))):=fM (by decide);have m2:eY (.int x) (.int 41)=some (.fz (.int (x/41))):=fY ⟨by decide,by decide⟩;have bm:0<=x % 41/\x % 41<41:=by omega
 have key:∃rv,gb 6 dQ [.int x,.int b.n]= .ok rv/\∃es:List Qc,es.length<=63/\(∀e∈es,EV b e)/\rv= .ow (es.map dg):=by
  refine jP (T:=fun rv=>∃es:List Qc,es.length<=63/\(∀e∈es,EV b e)/\rv= .ow (es.map dg)) (ρ:=[zf (.int x),zf (.int b.n),none,none,none,none]) rfl ?_;unfold dQ;refine bT (ρ3:=[zf (.int x),zf (.int b.n),zo [],none,none,none]) (by walk_at "ev") rfl rfl ?_;refine bT (ρ3:=WE x b.n [] (x % 41) none none) (by walk_at "ev") rfl rfl ?_;generalize x % 41=m at bm;refine bT (ρ3:=WE (x/41) b.n [] m none none) (by walk_at "ev") rfl rfl ?_;generalize x/41=y;have rg:gS [.int m]=some (aD (Mz m.toNat)):=xM (by omega) (by omega);refine lO (fun i ρ=>∃(y:Int) (es:List Qc) (o4 o5:Option PV),es.length=i/\(∀e∈es,EV b e)/\ρ=WE y b.n es m o4 o5) (ds:=aD (Mz m.toNat)) (ρ1:=WE y b.n [] m none none) (by walk_at "ev") ⟨y,[],none,none,rfl,(fun e h=>by cases h),rfl⟩ ?_ ?_
  ·rintro i d ρ hi ⟨y,es,o4,o5,hl,he,rfl⟩
   obtain⟨j,hj,rfl⟩:=iX hi;obtain⟨rfl,hil⟩:=jo hj;refine⟨WE y b.n es m (zf (nd j)) o5,rfl,?_⟩;have mu:eI (.int 2) (.int b.n)=some (.fz (.int (2*b.n))):=Ic ⟨by decide,by decide⟩;have e1:ef (.int y) (.int (2*b.n+1))=some (.fz (.int (y % (2*b.n+1)))):=fM (by omega);have e2:eY (.int y) (.int (2*b.n+1))=some (.fz (.int (y/(2*b.n+1)))):=fY ⟨by omega,by omega⟩;have db:0<=y % (2*b.n+1)/\y % (2*b.n+1)<2*b.n+1:=⟨Pr _ (by omega),OS _ (by omega)⟩;generalize y % (2*b.n+1)=r at e1 db;generalize y/(2*b.n+1)=y2 at e2;have Vr:(es.map dg).length<1000000:=by rw[L7];omega
   refine bT (ρ3:=WE y b.n es m (zf (nd j)) (zf (.int r))) (aw (rv:= .fz (.int r)) (ah rfl) (aw (rv:= .fz (.int (2*b.n+1))) (aw (rv:= .fz (.int (2*b.n))) az (ah rfl) rfl rfl mu) az rfl rfl (gZ _ _)) rfl rfl e1) rfl rfl ?_;refine bT (ρ3:=WE y2 b.n es m (zf (nd j)) (zf (.int r))) (aw (rv:= .fz (.int y2)) (ah rfl) (aw (rv:= .fz (.int (2*b.n+1))) (aw (rv:= .fz (.int (2*b.n))) az (ah rfl) rfl rfl mu) az rfl rfl (gZ _ _)) rfl rfl e2) rfl rfl ?_;have mo:ef (.int r) (.int b.n)=some (.fz (.int (r % b.n))):=fM (by omega);have di:eY (.int r) (.int b.n)=some (.fz (.int (r/b.n))):=fY ⟨by omega,by omega⟩;have m0:=Pr r (show b.n≠0 by omega);have m1:=OS r (show 0<b.n by omega);generalize r % b.n=k at mo m0 m1;obtain⟨k,rfl⟩:∃j:Nat,k=(j:Int):=⟨k.toNat,by omega⟩;have pk:=Ki (n:=b.n) (r:=r) ⟨n1,n5⟩ db;obtain⟨e,he',ee⟩:∃e:Qc,EV b e/\aG (.list [.tuple [.str "down",.int (k:Int)],.tuple [.str "up",.int (k:Int)],.tuple [.str "turn",.int 0]]) (.int (r/b.n))=some (.fz (dg e)):=by
    rcases pk with q|q|q
    ·exact⟨.down k,m1,by rw[q];rfl⟩
    ·exact⟨.up k,m1,by rw[q];rfl⟩
    ·exact⟨.turn,trivial,by rw[q];rfl⟩
   exact k6 (pv:= .fz .none) (ρ1:=[zf (.int y2),zf (.int b.n),zo (es.map dg++[dg e]),zf (.int m),zf (nd j),zf (.int r)]) (kd (pa:= .fz (dg e)) (d:=dg e) rfl (aw (rv:= .fz (dg e)) (show _=Res.ok (PV.ow [.tuple [.str "down",.int (k:Int)],.tuple [.str "up",.int (k:Int)],.tuple [.str "turn",.int 0]],_) by walk_at "ev") (by walk_at "ev") rfl rfl ee) rfl rfl Vr rfl) ⟨y2,es++[e],_,_,by rw[Mg,hl];rfl,fun x hx=>(Nh.mp hx).elim (he x) fun z=>by rw[MC.mp z];exact he',by unfold WE;rw[MZ];rfl⟩
  ·rintro ρ ⟨y,es,o4,o5,hl,he,rfl⟩;rw[cJ,MW] at hl;exact eZ (pv:= .pl 2) (ρ1:=WE y b.n es m o4 o5) (gW rfl) rfl ⟨es,by omega,he,rfl⟩
 obtain⟨rv,h,es,h1,h2,rfl⟩:=key;exact⟨es,h1,h2,h⟩
theorem C3 (ns:List Int) (SU:ns.length<=63):∃(b:Bd) (es:List Qc),VB b/\es.length<=63/\(∀e∈es,EV b e)/\ic [.list (ns.map .int)]= .ok (.fz (.tuple [bD b,.list (es.map dg)])):=by
 obtain⟨b0,B0,e0⟩:=Jz ns;obtain⟨c1,e1⟩:=mn ns 1 (by decide);obtain⟨c2,e2⟩:=mn ns 2 (by decide);obtain⟨b1,B1,eb⟩:=Ek (if c1<0 then -c1 else c1);have a1:wZ [.int c1]=some (.fz (.int (if c1<0 then -c1 else c1))):=rfl;have a2:wZ [.int c2]=some (.fz (.int (if c2<0 then -c2 else c2))):=rfl;have key:∃rv,gb 2 fV [.list (ns.map .int)]= .ok rv/\∃(b:Bd) (es:List Qc),VB b/\es.length<=63/\(∀e∈es,EV b e)/\rv= .fz (.tuple [bD b,.list (es.map dg)]):=by
  refine jP (T:=fun rv=>∃(b:Bd) (es:List Qc),VB b/\es.length<=63/\(∀e∈es,EV b e)/\rv= .fz (.tuple [bD b,.list (es.map dg)])) (ρ:=[zf (.list (ns.map .int)),none]) rfl ?_;have fin:∀b:Bd,VB b->Go ((bz (jW (yh (ar (n9 J4 F7 (pC (.int 0)) (eh bF 2 (ae (aa 0) (ae (pC (.int 2)) ao))) (au z6 (pC (.int 10)) (pC (.int 18)))))) (dG (aW (ae (aa 1) (ae (eh cV 2 (ae (eN wZ (ae (eh bF 2 (ae (aa 0) (ae (pC (.int 2)) ao))) ao)) (ae (au aG (aa 1) (pC (.int 0))) ao))) ao)))) dH) (dG (aW (ae (aa 1) (ae (eh fq 3 (ae (aa 0) (ae (pC (.int 20)) (ae (au aG (aa 1) (pC (.int 0))) ao)))) ao))))) [zf (.list (ns.map .int)),zf (bD b)]) (fun _=>∃(b:Bd) (es:List Qc),VB b/\es.length<=63/\(∀e∈es,EV b e)/\RV.fz .none= .fz (.tuple [bD b,.list (es.map dg)])) (fun _=>False) (fun rv=>∃(b:Bd) (es:List Qc),VB b/\es.length<=63/\(∀e∈es,EV b e)/\rv= .fz (.tuple [bD b,.list (es.map dg)])):=fun b B=>by
   have i0:aG (bD b) (.int 0)=some (.fz (.int b.n)):=ij;obtain⟨Y9,x1,x2,x3⟩:=xF B (if c2<0 then -c2 else c2);obtain⟨ZY,y1,y2,y3⟩:=AB B ns SU;refine iO (b:= !(decide (0<=c2)&&decide (c2<10^18))) (ρ1:=[zf (.list (ns.map .int)),zf (bD b)]) (by walk_at "ev") (fun _=> ?_) fun _=>dC ?_
   ·exact fT (pv:= .fz (.tuple [bD b,.list (Y9.map dg)])) (ρ1:=[zf (.list (ns.map .int)),zf (bD b)]) (eX (aj (ah rfl) (aj (fJ (rv:= .ow (Y9.map dg)) (ds:=[.int (if c2<0 then -c2 else c2),.int b.n]) (aj (cG (rv:= .fz (.int (if c2<0 then -c2 else c2))) (by walk_at "ev") rfl a2) (aj (aw (rv:= .fz (.int b.n)) (ah rfl) az rfl rfl i0) aA)) rfl rfl x3) aA)) rfl (Mc rfl)) rfl ⟨b,Y9,B,x1,x2,rfl⟩
   ·exact eZ (pv:= .fz (.tuple [bD b,.list (ZY.map dg)])) (ρ1:=[zf (.list (ns.map .int)),zf (bD b)]) (eX (aj (ah rfl) (aj (fJ (rv:= .ow (ZY.map dg)) (ds:=[.list (ns.map .int),.int 20,.int b.n]) (aj (ah rfl) (aj az (aj (aw (rv:= .fz (.int b.n)) (ah rfl) az rfl rfl i0) aA))) rfl rfl y3) aA)) rfl (Mc rfl)) rfl ⟨b,ZY,B,y1,y2,rfl⟩
  unfold fV;refine bT (ρ3:=[zf (.list (ns.map .int)),zf (bD b0)]) (fJ (rv:= .fz (bD b0)) (ds:=[.list (ns.map .int),.int 5]) (aj (ah rfl) (aj az aA)) rfl rfl e0) rfl rfl ?_;refine iO (b:= !(decide (0<=c1)&&decide (c1<10^18))) (ρ1:=[zf (.list (ns.map .int)),zf (bD b0)]) (by walk_at "ev") (fun _=> ?_) fun _=>dC (fin b0 B0);exact bT (ρ3:=[zf (.list (ns.map .int)),zf (bD b1)]) (fJ (rv:= .fz (bD b1)) (ds:=[.int (if c1<0 then -c1 else c1),.int 5,.int 3,.int 4]) (aj (cG (rv:= .fz (.int (if c1<0 then -c1 else c1))) (by walk_at "ev") rfl a1) (aj az (aj az (aj az aA)))) rfl rfl eb) rfl rfl (fin b1 B1)
 obtain⟨rv,h,b,es,v1,v2,v3,rfl⟩:=key;exact⟨b,es,v1,v2,v3,h⟩
noncomputable def oB (s:NS) (t:Nat):List (bt×SV):=[(.inr "acts",.rf 0),(.inr "waiting",.fz (fE s.wt)),(.inr "once",.fz (lm s.oc)),(.inr "sent",.rf t)]
structure N0 (p:NS×Sn) (t:Nat) (Z:bv):Prop where
 ex:∃ps:List (Nat×Mn),ps.Perm (ez p.1.ac)/\Z[0]? =some (.Oe (ps.map iC))
 sp:Z[2]? =some (.Oe (oB p.1 t))
 sn:Z[t]? =some (.lst ((p.2.map i7).map .fz))
 t0:t≠0
 t2:t≠2
theorem fA {x y:Str} {v:SV} {r:List (bt×SV)} (h:(x==y)=false):e9 ((.inr x,v)::r) (.inr y)=e9 r (.inr y):=by unfold e9;rw[List.find?_cons_of_neg];intro z;have:=Sum.inr.inj (of_decide_eq_true z);rw[this] at h;simp at h
theorem pG {y:Str} {v:SV} {r:List (bt×SV)}:e9 ((.inr y,v)::r) (.inr y)=some v:=by unfold e9;rw[List.find?_cons_of_pos (p:=fun kv:bt×SV=>decide (kv.1= .inr y)) (decide_eq_true rfl)];rfl
theorem CG (s:NS) (t:Nat):e9 (oB s t) (.inr "acts")=some (.rf 0):=pG
theorem wO (s:NS) (t:Nat):e9 (oB s t) (.inr "waiting")=some (.fz (fE s.wt)):=(fA (by decide+kernel)).trans pG
theorem wI (s:NS) (t:Nat):e9 (oB s t) (.inr "once")=some (.fz (lm s.oc)):=(fA (by decide+kernel)).trans ((fA (by decide+kernel)).trans pG)
theorem vU (s:NS) (t:Nat):e9 (oB s t) (.inr "sent")=some (.rf t):=(fA (by decide+kernel)).trans ((fA (by decide+kernel)).trans ((fA (by decide+kernel)).trans pG))
theorem jK {x y:Str} {A:Type} {a c:A} (h:(x==y)=false):(if(Sum.inr x:bt)=Sum.inr y then a else c)=c:=if_neg fun z=>by have:=Sum.inr.inj z;rw[this] at h;simp at h
theorem tK {kvs:List (bt×SV)} {k:bt} {x y:SV} (h:e9 kvs k=some y):cZ kvs k x=kvs.map fun kv=>if kv.1=k then(kv.1,x) else kv:=by
 unfold cZ;rw[if_pos];unfold e9 at h;cases q:kvs.find? fun kv=>decide (kv.1=k) with
 |none=>rw[q] at h;cases h
 |some kv=>exact N2.mpr ⟨kv,PY q,Va (p:=fun kv:bt×SV=>decide (kv.1=k)) q⟩
theorem qA (s:NS) (t:Nat) (w:Wq):cZ (oB s t) (.inr "waiting") (.fz (fE w))=oB {s with wt:=w} t:=by rw[tK (wO s t)];unfold oB;simp only[Ms,N9];rw[jK (by decide+kernel),if_pos trivial,jK (by decide+kernel),jK (by decide+kernel)]
theorem rG (s:NS) (t:Nat) (o:Option Int):cZ (oB s t) (.inr "once") (.fz (lm o))=oB {s with oc:=o} t:=by rw[tK (wI s t)];unfold oB;simp only[Ms,N9];rw[jK (by decide+kernel),jK (by decide+kernel),if_pos trivial,jK (by decide+kernel)]
theorem DZ (s:NS) (t t':Nat):cZ (oB s t) (.inr "sent") (.rf t')=oB s t':=by rw[tK (vU s t)];unfold oB;simp only[Ms,N9];rw[jK (by decide+kernel),jK (by decide+kernel),jK (by decide+kernel),if_pos trivial]
section
variable {b:Bd} {p:NS×Sn} {t i:Nat} {Z Z1 Z2:bv} {ρ:bS} {k:Nat} {a:Mn} {x y z:SV} {d dx dy:D} {ds:List D}
theorem N0.app (h:N0 p t Z) (K:bv):N0 p t (Z++K):=
 ⟨let⟨ps,h1,h2⟩:=h.ex;⟨ps,h1,ei h2⟩,ei h.sp,ei h.sn,h.t0,h.t2⟩
theorem fH {A:Type} {l:List A} {i j:Nat} {x:A} (h:i≠j):(l.set i x)[j]? =l[j]? :=Ox h
theorem nK {A:Type} {l:List A} {i:Nat} {x y:A} (h:l[i]? =some y):(l.set i x)[i]? =some x:=N7 (Md.mp h).1
theorem N0.aaf (h:N0 p t Z) (w:Wq):N0 ({p.1 with wt:=w},p.2) t (Z.set 2 (.Oe (cZ (oB p.1 t) (.inr "waiting") (.fz (fE w))))):=
 ⟨let⟨ps,h1,h2⟩:=h.ex;⟨ps,h1,by rw[fH (by decide)];exact h2⟩,by rw[nK h.sp,qA],by rw[fH (Ne.symm h.t2)];exact h.sn,h.t0,h.t2⟩
theorem N0.Wc (h:N0 p t Z) (o:Option Int):N0 ({p.1 with oc:=o},p.2) t (Z.set 2 (.Oe (cZ (oB p.1 t) (.inr "once") (.fz (lm o))))):=
 ⟨let⟨ps,h1,h2⟩:=h.ex;⟨ps,h1,by rw[fH (by decide)];exact h2⟩,by rw[nK h.sp,rG],by rw[fH (Ne.symm h.t2)];exact h.sn,h.t0,h.t2⟩
theorem kx (h:N0 p t Z) (hr:ρ[i]? =some (some (.rf 2))):bu (aq i) (af (pC (.str "acts"))) ρ Z= .ok (.rf 0) Z:=kY (bj hr) (ag (d:= .str "acts") az) rfl h.sp (CG _ _)
theorem fK (h:N0 p t Z) (hr:ρ[i]? =some (some (.rf 2))):bu (aq i) (af (pC (.str "waiting"))) ρ Z= .ok (.fz (fE p.1.wt)) Z:=kY (bj hr) (ag (d:= .str "waiting") az) rfl h.sp (wO _ _)
theorem tI (h:N0 p t Z) (hr:ρ[i]? =some (some (.rf 2))):bu (aq i) (af (pC (.str "once"))) ρ Z= .ok (.fz (lm p.1.oc)) Z:=kY (bj hr) (ag (d:= .str "once") az) rfl h.sp (wI _ _)
theorem u9 (h:N0 p t Z) (hr:ρ[i]? =some (some (.rf 2))):bu (aq i) (af (pC (.str "sent"))) ρ Z= .ok (.rf t) Z:=kY (bj hr) (ag (d:= .str "sent") az) rfl h.sp (vU _ _)
theorem n6 (h:N0 p t Z) (hr:ρ[i]? =some (some (.rf 2))) {fv:bK} {w:Wq} (hv:fv ρ Z= .ok (.fz (fE w)) Z):∃Z',eS (aq i) (af (pC (.str "waiting"))) fv ρ Z= .ok (.nx ρ) Z'/\N0 ({p.1 with wt:=w},p.2) t Z':=
 ⟨_,ng hv (bj hr) (ag (d:= .str "waiting") az) rfl h.sp (by show 4<1000000;decide),h.aaf w⟩
theorem BL (h:N0 p t Z) (hr:ρ[i]? =some (some (.rf 2))) {fv:bK} {o:Option Int} (hv:fv ρ Z= .ok (.fz (lm o)) Z):∃Z',eS (aq i) (af (pC (.str "once"))) fv ρ Z= .ok (.nx ρ) Z'/\N0 ({p.1 with oc:=o},p.2) t Z':=
 ⟨_,ng hv (bj hr) (ag (d:= .str "once") az) rfl h.sp (by show 4<1000000;decide),h.Wc o⟩
theorem Ew {f:D->D->Option RV} (hx:sh Z x=some dx) (hy:sh Z y=some dy) (h:f dx dy=some (.ow ds)):lQ f x y Z= .ok (.rf Z.length) (Z++[.lst (ds.map .fz)]):=by unfold lQ;rw[hx,hy];show((RS.M3 Z (f dx dy)).bind fun rv Z1=>kG Z1 rv)=_;rw[h];rfl
theorem bH {F:g9} {n:Nat} {fa:lB} {xs:List SV} (ha:fa ρ Z= .ok xs Z1) (hn:xs.length=n) (hF:F xs Z1= .ok x Z2):cT F n fa ρ Z= .ok x Z2:=by unfold cT;rw[ha,RS.bind_ok,if_pos hn,hF];rfl
theorem qV {α:Type} {gt:pL} {ft:jf} {fe:bK} (e:α->D) (f:α->Option SV) (Z:bv) (I:bS->Prop):∀(xs:List α) (ρ:bS) (acc:List SV),I ρ->acc.length+xs.length<=1000000->(∀x∈xs,∀ρ,I ρ->∃ρ',gt (.fz (e x)) ρ Z= .ok ρ' Z/\I ρ'/\((∃y,f x=some y/\ft ρ' Z= .ok true Z/\fe ρ' Z= .ok y Z)\/(f x=none/\ft ρ' Z= .ok false Z)))->bW gt ft fe (xs.map e) ρ Z acc= .ok (acc++xs.filterMap f) Z
 |[],ρ,acc,_,_,_=>by show RS.ok acc Z=_;rw[Ub,ME]
 |x::r,ρ,acc,h0,hl,hs=>by
  obtain⟨ρ',h1,h4,h⟩:=hs x Mp ρ h0;rw[Mm] at hl;show((gt (.fz (e x)) ρ Z).bind _)=_;rcases h with⟨y,hy,h2,h3⟩|⟨hy,h2⟩
  ·rw[h1,RS.bind_ok,h2,RS.bind_ok,if_pos rfl,h3,RS.bind_ok,if_pos (by omega),qV e f Z I r ρ' _ h4 (by rw[Mg,Pd];omega) fun y hy=>hs y (Mj _ hy),Ni,Qb hy];rfl
  ·rw[h1,RS.bind_ok,h2,RS.bind_ok,if_neg Mx,qV e f Z I r ρ' _ h4 (by omega) fun y hy=>hs y (Mj _ hy),Qa hy]
theorem IU (vb:VB b) {s:NS} (sa:SA b s) {ps:List (Nat×Mn)} (hp:ps.Perm (ez s.ac)):wY (0::ps.filterMap wQ)=mC s.ac:=by
 obtain⟨m1,m2⟩:=xb (ns:=0::ps.filterMap wQ) (by rw[Mm];omega);obtain⟨l0,l1,l2,l3⟩:=zD vb sa;have mem:∀n:Int,n∈ps.filterMap wQ↔∃k,k<5/\s.ac k=some (.Nq n):=fun n=>by
  constructor
  ·intro h
   obtain⟨⟨k,a⟩,h1,h2⟩:=N8.mp h;have:=(io hp).mp h1;cases a with
   |Nq j=>cases h2;exact⟨k,this⟩
   |_=>cases h2
  ·rintro⟨k,h1,h2⟩;exact N8.mpr ⟨(k,.Nq n),(io hp).mpr ⟨h1,h2⟩,rfl⟩
 have a1:wY (0::ps.filterMap wQ)<=mC s.ac:=by
  rcases MH.mp m1 with h|h
  ·rw[h];exact l0
  ·obtain⟨k,_,h2⟩:=(mem _).mp h;exact l2 k _ h2
 have a2:mC s.ac<=wY (0::ps.filterMap wQ):=by
  rcases l3 with h|⟨k,h⟩
  ·rw[h];exact m2 0 Mp
  ·refine m2 _ (Mj _ ((mem _).mpr ⟨k,?_,h⟩));have:=(sa.ac k _ h).1;have:=vb.n5;omega
 omega
theorem z7 {kvs:List (bt×SV)} {xs:List SV} {Z:bv} (h:Z[0]? =some (.Oe kvs)):Tz (Z.set 0 .dead++[Cell.lst xs]) 0 (Cell.Oe kvs)=Z++[Cell.lst xs]:=by
 cases Z with
 |nil=>cases h
 |cons c r=>cases Mw h;rfl
theorem zr (vb:VB b) (h:N0 p t Z) (sa:SA b p.1):∃Z',ce [.rf 2] Z= .ok (.fz (.int (ii p.1.ac p.1.oc))) Z'/\∃K,Z'=Z++K:=by
 refine d6 (v:= .fz (.int (ii p.1.ac p.1.oc))) (W:=fun Z'=>∃K,Z'=Z++K) (ρ:=[some (.rf 2)]) rfl ?_;unfold jO;cases q:p.1.oc with
 |some o=>
  have e1:iz (lm p.1.oc) .none=some (.fz (.bool true)):=by rw[q];rfl
  refine fG (Z1:=Z) (aE (cg (tI h rfl) (ag az) (bG e1))) (A9 (tI h rfl) ⟨?_,[],(ME _).symm⟩);rw[q];rfl
 |none=>
  have e1:iz (lm p.1.oc) .none=some (.fz (.bool false)):=by rw[q];rfl
  refine dL (Z1:=Z) (aE (cg (tI h rfl) (ag az) (bG e1))) (cK ?_);obtain⟨ps,hp,hc⟩:=h.ex;have hl5:=rJ hp;have hd:(ps.map iC).map (·.2)=(ps.map fun p=>mD p.2).map SV.fz:=by rw[MV,MV];rfl
  have nl:(ps.filterMap wQ).length<=5:=MQ (SG _ _) hl5;have mx:=IU vb sa hp;have cv:∀Z:bv,bW (fO 0) (aM (ar (au bQ (au aG (aa 0) (pC (.int 0))) (pC (.str "layer"))))) (af (au aG (aa 0) (pC (.int 1)))) (ps.map fun p=>mD p.2) [none] Z []= .ok (((ps.filterMap wQ).map Mb.int).map SV.fz) Z:=fun Z=>by
   refine(qV (fun p:Nat×Mn=>mD p.2) (fun p=>(wQ p).map fun n=>SV.fz (.int n)) Z (fun ρ=>∃o,ρ=[o]) ps [none] [] ⟨none,rfl⟩ (by rw[NH];omega) ?_).trans (by rw[Od,MV,Uc];rfl);rintro⟨k,a⟩ _ ρ ⟨o,rfl⟩;refine⟨[some (.fz (mD a))],rfl,⟨_,rfl⟩,?_⟩;have e1:=kl a;have e2:=vN a;have ht:aM (ar (au bQ (au aG (aa 0) (pC (.int 0))) (pC (.str "layer")))) [some (.fz (mD a))] Z= .ok a.RI Z:=aQ (by walk_at "ev");cases a with
   |Nq n=>exact .inl ⟨.fz (.int n),rfl,ht,ag (aw (rv:= .fz (.int n)) (ah rfl) az rfl rfl iE)⟩
   |_=>exact .inr ⟨rfl,ht⟩
  generalize ps.filterMap wQ=ns at nl mx cv;have ad:cS (.list [.int 0]) (.list (ns.map .int))=some (.ow ((0::ns).map .int)):=by show(if 1+(ns.map Mb.int).length<=1000000 then some (RV.ow ([.int 0]++ns.map Mb.int)) else none)=_;rw[L7,if_pos (by omega)];rfl
  have hm:ze [.list ((0::ns).map .int)]=some (.fz (.int (mC p.1.ac))):=by show(match kA ((0::ns).map Mb.int) with|some ns=>if 0<ns.length then some (RV.fz (.int (wY ns))) else none|none=>none)=_;rw[L3.kC];show(if 0<(0::ns).length then some (RV.fz (.int (wY (0::ns)))) else none)=_;rw[if_pos (by rw[Mm];omega),mx]
  have h1:af (cY (ae (pC (.int 0)) ao)) [some (.rf 2)] Z= .ok (.rf Z.length) (Z++[Cell.lst ([Mb.int 0].map .fz)]):=fm (ds:=[.int 0]) (by walk_at "ev");have hA:=h.app [Cell.lst ([Mb.int 0].map .fz)]
  have h2:qp 1 [] (bu (aq 0) (af (pC (.str "acts")))) (fO 0) (aM (ar (au bQ (au aG (aa 0) (pC (.int 0))) (pC (.str "layer"))))) (af (au aG (aa 0) (pC (.int 1)))) [some (.rf 2)] (Z++[Cell.lst ([Mb.int 0].map .fz)])= .ok (.rf (Z++[Cell.lst ([Mb.int 0].map .fz)]).length) (Z++[Cell.lst ([Mb.int 0].map .fz)]++[Cell.lst ((ns.map Mb.int).map .fz)]):=
   (Bw (i:=0) (kvs:=ps.map iC) (Z2:=(Z++[Cell.lst ([Mb.int 0].map .fz)]).set 0 .dead) (kx hA rfl) (ei hc) hd (cv _)).trans (by rw[z7 (ei hc),Nc])
  have h3:lQ cS (.rf Z.length) (.rf (Z++[Cell.lst ([Mb.int 0].map .fz)]).length) (Z++[Cell.lst ([Mb.int 0].map .fz)]++[Cell.lst ((ns.map Mb.int).map .fz)])=_:=Ew (gq (ds:=[.int 0]) (ei aN)) (gq (ds:=ns.map .int) aN) ad;refine nH (Bh (ds:=[.list ((0::ns).map .int)]) (ai (cg h1 h2 h3) aC) (jI (gq aN)) hm) ⟨?_,_,by rw[Ni,Ni]⟩;rfl
theorem CN (vb:VB b) (h:N0 p t Z) (sa:SA b p.1):∃Z',ce [.rf 2] Z= .ok (.fz (.int (ii p.1.ac p.1.oc))) Z'/\N0 p t Z':=by obtain⟨Z',h1,K,rfl⟩:=zr vb h sa;exact⟨_,h1,h.app K⟩
theorem N0.put (h:N0 p t Z) (hk:k<5):∃kvs,Z[0]? =some (.Oe kvs)/\kvs.length<1000000/\N0 ({p.1 with ac:=gU p.1.ac k (some a)},p.2) t (Z.set 0 (.Oe (cZ kvs (.inl (k:Int)) (.fz (mD a))))):=by obtain⟨ps,hp,hc⟩:=h.ex;obtain⟨qs,d1,d2⟩:=yy hp (k:=k) (a:=a) hk;refine⟨_,hc,by rw[L7];have:=rJ hp;omega,⟨qs,d2,by rw[nK hc,d1]⟩,by rw[fH (by decide)];exact h.sp,by rw[fH (Ne.symm h.t0)];exact h.sn,h.t0,h.t2⟩
theorem N0.snd (h:N0 p t Z) (q:Nat×Bool):N0 (p.1,p.2++[q]) t (Z.set t (.lst ((p.2.map i7).map .fz++[.fz (i7 q)]))):=
 ⟨let⟨ps,h1,h2⟩:=h.ex;⟨ps,h1,by rw[fH h.t0];exact h2⟩,by rw[fH h.t2];exact h.sp,by rw[nK h.sn,MZ,MZ];rfl,h.t0,h.t2⟩
theorem Cv (h:N0 p t Z) (hr:ρ[i]? =some (some (.rf 2))) (hA:AK p.1.ac) (ha:LB a):∃r Z',mK (bu (aq i) (af (pC (.str "acts")))) ρ Z= .ok r Z'/\N0 p t Z'/\lQ lr (.fz (mD a)) r Z'= .ok (.fz (.bool (!gY p.1.ac a))) Z':=by
 obtain⟨ps,hp,hc⟩:=h.ex;have e1:gY p.1.ac a=decide (a∈ps.map (·.2)):=decide_eq_decide.mpr (hp.map (·.2)).symm.mem_iff;have lb:∀m∈ps.map (·.2),LB m:=fun m hm=>by obtain⟨q,h1,rfl⟩:=Nd.mp hm;exact(hA _ _ ((io hp).mp h1).2).2
 refine⟨_,_,yR (kx h hr) hc,h.app _,?_⟩;rw[e1];exact re rfl (gq (by rw[vV];exact aN)) (Dq ha lb)
theorem me (h:N0 p t Z) (hA:AK p.1.ac) (hk:k<5) (ha:LB a) (hl:p.2.length<1000):∃Z',b3 [.rf 2,.fz (nd k),.fz (mD a)] Z= .ok (.fz .none) Z'/\N0 (dS p k a) t Z':=by
 refine d6 (W:=fun Z'=>N0 (dS p k a) t Z') (ρ:=[some (.rf 2),some (.fz (nd k)),some (.fz (mD a))]) rfl ?_;unfold iI;have y1:=kl a;have y2:=gA a;have fin:∀Z',N0 (p.1,p.2++kg p.1.ac a) t Z'->ON (eS (bu (aq 0) (af (pC (.str "acts")))) (af (aa 1)) (af (aa 2)) [some (.rf 2),some (.fz (nd k)),some (.fz (mD a))] Z') (fun _ Z'=>SV.fz .none= .fz .none/\N0 (dS p k a) t Z') (fun _ _=>False) (fun r Z'=>r= .fz .none/\N0 (dS p k a) t Z'):=fun Z' h'=>by obtain⟨kvs,h1,h2,h3⟩:=h'.put (k:=k) (a:=a) hk;exact ji (ng (k:= .inl (k:Int)) (y:= .fz (mD a)) (i:=0) (ag (ah rfl)) (kx h' rfl) (ag (d:=nd k) (ah rfl)) rfl h1 h2) ⟨rfl,h3⟩
 cases qm:a.UH with
 |false=>
  rw[qm] at y2;refine dL (Z1:=Z) (cD (aQ (b:=false) (by walk_at "ev"))) (cK (fin Z ?_));have:kg p.1.ac a=[]:=by
   cases a with
   |Mr c=>cases qm
   |_=>rfl
  rw[this,ME];exact h
 |true=>
  rw[qm] at y2;obtain⟨r,Z',v1,v2,v3⟩:=Cv (ρ:=[some (.rf 2),some (.fz (nd k)),some (.fz (mD a))]) (i:=0) h rfl hA ha;have Rz:g6 (aM (ar (au bQ (au aG (aa 2) (pC (.int 0))) (pC (.str "letter"))))) (aY (iA lr (af (aa 2)) (mK (bu (aq 0) (af (pC (.str "acts"))))))) [some (.rf 2),some (.fz (nd k)),some (.fz (mD a))] Z= .ok (!gY p.1.ac a) Z':=c7 (aQ (b:=true) (by walk_at "ev")) (aE (cg (x:= .fz (mD a)) (ag (ah rfl)) v1 v3));cases a with
  |Mr c=>
   cases qh:gY p.1.ac (.Mr c) with
   |true=>
    rw[qh] at Rz;refine dL Rz (cK (fin Z' ?_));have:kg p.1.ac (.Mr c)=[]:=by show(if gY p.1.ac (.Mr c)=true then[] else _)=[];rw[qh,if_pos rfl]
    rw[this,ME];exact v2
   |false=>
    rw[qh] at Rz;have i1:aG (mD (.Mr c)) (.int 1)=some (.fz (.str (dh c))):=iE;refine fG Rz (dJ (uu (i:=t) (x:= .fz (i7 (c,true))) (u9 v2 rfl) v2.sn (ag (d:=i7 (c,true)) (show _=Res.ok (PV.fz (.tuple [.str (dh c),.str "down"]),_) by walk_at "ev")) v2.sn (by rw[L7,L7];omega)) (fin _ ?_));have:kg p.1.ac (.Mr c)=[(c,true)]:=by show(if gY p.1.ac (.Mr c)=true then[] else _)=_;rw[qh,if_neg Mx]
    rw[this];exact v2.snd (c,true)
  |_=>cases qm
theorem GA (h:N0 p t Z) (hA:AK p.1.ac) (ha:p.1.ac k=some a) (hl:p.2.length<1000):∃Z',im [.rf 2,.fz (nd k)] Z= .ok (.fz .none) Z'/\N0 (go p k) t Z':=by
 have hk:=(hA k a ha).1;have lb:=(hA k a ha).2;refine d6 (W:=fun Z'=>N0 (go p k) t Z') (ρ:=[some (.rf 2),some (.fz (nd k)),none]) rfl ?_;unfold kQ;obtain⟨ps,hp,hc⟩:=h.ex;obtain⟨qs,d1,d2⟩:=wu hp (k:=k);have eg:go p k=({p.1 with ac:=gU p.1.ac k none},p.2++AY (gU p.1.ac k none) a):=by unfold go;rw[ha]
 rw[eg]
 have h':N0 ({p.1 with ac:=gU p.1.ac k none},p.2) t (Z.set 0 (.Oe (ja (ps.map iC) (.inl (k:Int))))):=
  ⟨⟨qs,d2,by rw[nK hc,d1]⟩,by rw[fH (by decide)];exact h.sp,by rw[fH (Ne.symm h.t0)];exact h.sn,h.t0,h.t2⟩
 have Wx:AK (gU p.1.ac k none):=fun j x e=>by
  unfold gU at e;split at e
  ·cases e
  ·exact hA j x e
 refine cE (x:= .fz (mD a)) (Z1:=Z.set 0 (.Oe (ja (ps.map iC) (.inl (k:Int))))) (ρ1:=[some (.rf 2),some (.fz (nd k)),some (.fz (mD a))]) (yj (k:= .inl (k:Int)) (i:=0) (kx h rfl) hc (ag (d:=nd k) (ah rfl)) rfl hc (by rw[ie hp hk,ha];rfl)) rfl ?_;generalize Z.set 0 (.Oe (ja (ps.map iC) (.inl (k:Int))))=Z0 at h';have y1:=kl a;have y2:=gA a;cases qm:a.UH with
 |false=>
  rw[qm] at y2;refine bp (Z1:=Z0) (cD (aQ (b:=false) (by walk_at "ev"))) (fy ⟨rfl,?_⟩);have:AY (gU p.1.ac k none) a=[]:=by
   cases a with
   |Mr c=>cases qm
   |_=>rfl
  rw[this,ME];exact h'
 |true=>
  rw[qm] at y2;obtain⟨r,Z',v1,v2,v3⟩:=Cv (ρ:=[some (.rf 2),some (.fz (nd k)),some (.fz (mD a))]) (i:=0) h' rfl Wx lb;have Rz:g6 (aM (ar (au bQ (au aG (aa 2) (pC (.int 0))) (pC (.str "letter"))))) (aY (iA lr (af (aa 2)) (mK (bu (aq 0) (af (pC (.str "acts"))))))) [some (.rf 2),some (.fz (nd k)),some (.fz (mD a))] Z0= .ok (!gY (gU p.1.ac k none) a) Z':=c7 (aQ (b:=true) (by walk_at "ev")) (aE (cg (x:= .fz (mD a)) (ag (ah rfl)) v1 v3));cases a with
  |Mr c=>
   cases qh:gY (gU p.1.ac k none) (.Mr c) with
   |true=>
    rw[qh] at Rz;refine bp Rz (fy ⟨rfl,?_⟩);have:AY (gU p.1.ac k none) (.Mr c)=[]:=by show(if gY (gU p.1.ac k none) (.Mr c)=true then[] else _)=[];rw[qh,if_pos rfl]
    rw[this,ME];exact v2
   |false=>
    rw[qh] at Rz;have i1:aG (mD (.Mr c)) (.int 1)=some (.fz (.str (dh c))):=iE;refine fW Rz (cN (uu (i:=t) (x:= .fz (i7 (c,false))) (u9 v2 rfl) v2.sn (ag (d:=i7 (c,false)) (show _=Res.ok (PV.fz (.tuple [.str (dh c),.str "up"]),_) by walk_at "ev")) v2.sn (by rw[L7,L7];show p.2.length<1000000;omega)) ⟨rfl,?_⟩);have:AY (gU p.1.ac k none) (.Mr c)=[(c,false)]:=by show(if gY (gU p.1.ac k none) (.Mr c)=true then[] else _)=_;rw[qh,if_neg Mx]
    rw[this];exact v2.snd (c,false)
  |_=>cases qm
theorem zd (h:N0 p t Z) (hk:k<5):eD [.rf 2,.fz (nd k)] Z= .ok (.fz (.bool ((p.1.ac k).isSome||oS p.1.wt k))) Z:=by
 obtain⟨ps,hp,hc⟩:=h.ex;have Za:=ie hp hk;have e0:oW false (af (aa 1)) (bu (aq 0) (af (pC (.str "acts")))) [some (.rf 2),some (.fz (nd k))] Z= .ok (.fz (.bool (p.1.ac k).isSome)) Z:=by have:=rm (neg:=false) (Z:=Z) (ρ:=[some (.rf 2),some (.fz (nd k))]) (fk:=af (aa 1)) (fd:=bu (aq 0) (af (pC (.str "acts")))) (i:=0) (k:= .inl (k:Int)) (x:= .fz (nd k)) (ag (ah rfl)) (kx h rfl) rfl hc;rw[Za] at this;rw[this];cases p.1.ac k<;>rfl
 refine kr (ρ:=[some (.rf 2),some (.fz (nd k))]) rfl (jT ?_);unfold Li;rw[aE e0,RS.bind_ok];cases q0:(p.1.ac k).isSome with
 |true=>rw[if_pos rfl];rfl
 |false=>
  rw[if_neg Mx,Pk];cases q:p.1.wt with
  |none=>
   have e1:iz (fE p.1.wt) .none=some (.fz (.bool false)):=by rw[q];rfl
   exact tE (aE (cg (fK h rfl) (ag az) (bG e1)))
  |some x=>
   obtain⟨ks,g,w⟩:=x;have e1:iz (fE p.1.wt) .none=some (.fz (.bool true)):=by rw[q];rfl
   have e2:aG (fE p.1.wt) (.int 0)=some (.fz (.tuple (aD ks))):=by rw[q];exact ij
   exact sQ (aE (cg (fK h rfl) (ag az) (bG e1))) (cg (x:= .fz (nd k)) (ag (ah rfl)) (cW (fK h rfl) (ag az) e2) (bG (nk _ _)))
end
theorem CO (w:Option (Nat×Int)):∃s,aG (iB w) (.int 0)=some (.fz (.str s))/\bQ (.str s) (.str "tap")=some (.fz (.bool w.isSome)):=by
 cases w with
 |none=>exact⟨"chord",ij,(K7 (by decide+kernel) (by decide+kernel)).trans (by rw[show(("chord":Str)== "tap")=false by decide+kernel];rfl)⟩
 |some cn=>exact⟨_,kl (.Qw cn.1 cn.2),xT (.Qw cn.1 cn.2)⟩
theorem J3 (l:List Nat) (h:∀c∈l,c<26):Mb.canLayAll0 (l.map fun c=> .str (dh c))=true:=kO fun c hc=>nR (h c hc)
theorem LF {ds:List D} (h:Mb.canLayAll0 ds=true) (hd:Mb.depthAll ds<=60):bQ (.list ds) (.list [])=some (.fz (.bool ds.isEmpty)):=by show(if((Mb.canLayAll0 ds&&decide (Mb.depthAll ds+1<=64))&&true)=true then some (RV.fz (.bool (Mb.eqvAll ds []))) else none)=_;rw[h,decide_eq_true (by omega)];cases ds<;>rfl
theorem IC {b:Bd} {ks:List Nat} {i k:Nat} (hi:ks[i]? =some k):(∀c,b.cs.find? (fun c=>decide (c.1=gr ks))=some c->(p9 b ks)[i]? =some (if i=0 then .Mr c.2 else .none))/\(b.cs.find? (fun c=>decide (c.1=gr ks))=none->(p9 b ks)[i]? =some (i4 b 0 k)):=by
 have il:=(Md.mp hi).1;constructor
 ·intro c h
  unfold p9;rw[h];dsimp only;cases i with
  |zero=>rfl
  |succ i=>rw[Qe,NB,if_pos (by omega)];rfl
 ·intro h;unfold p9;rw[h];dsimp only;rw[Ml,hi];rfl
theorem xU (p:NS×Sn) (qs:List (Nat×Mn)) (q:Nat×Mn):eE p (qs++[q])=dS (eE p qs) q.1 q.2:=by unfold eE;rw[List.foldl_append];rfl
section
variable {b:Bd} (vb:VB b) {p:NS×Sn} {t i:Nat} {Z Z1 Z2:bv} {ρ:bS} {k:Nat} {a:Mn} {x y z:SV} {d dx dy:D} {ds:List D} {ks:List Nat} {g:Int} {w:Option (Nat×Int)}
include vb
theorem jw (h:N0 p t Z) (sa:SA b p.1) (hw:p.1.wt=some (ks,g,w)) (v:WV b p.1.ac ks g w) (hl:p.2.length<900):∃Z',cb [.fz (bD b),.rf 2] Z= .ok (.fz .none) Z'/\N0 (bN b p) t Z':=by
 have l5:=v.len vb;have l1:=v.Wm;have h5:=vb.n5;have h1:=vb.l1;have ed:bN b p=eE ({p.1 with wt:=none},p.2) (ks.zip (eG b ks w)):=by unfold bN;rw[hw]
 rw[ed];refine d6 (v:= .fz .none) (W:=fun Z'=>N0 (eE ({p.1 with wt:=none},p.2) (ks.zip (eG b ks w))) t Z') (ρ:=[some (.fz (bD b)),some (.rf 2),none,none,none,none,none]) rfl ?_;unfold iw;have gw:=fK (i:=1) (ρ:=[some (.fz (bD b)),some (.rf 2),none,none,none,none,none]) h rfl;rw[hw] at gw;refine cE (ρ1:=[some (.fz (bD b)),some (.rf 2),some (.fz (.tuple (aD ks))),some (.fz (.int g)),some (.fz (iB w)),none,none]) (Z2:=Z) gw rfl ?_;obtain⟨Z1,pw,hp⟩:=n6 (i:=1) (ρ:=[some (.fz (bD b)),some (.rf 2),some (.fz (.tuple (aD ks))),some (.fz (.int g)),some (.fz (iB w)),none,none]) (fv:=af (pC .none)) (w:=none) h rfl (ag az);refine jX pw ?_;obtain⟨s,w1,w2⟩:=CO w;have hA:AK ({p.1 with wt:=none}:NS).ac:=sa.ak vb;cases w with
 |some cn=>
  obtain⟨c,n⟩:=cn;have k1:=(v.tp c n rfl).2.2;obtain⟨k0,rfl⟩:∃k0,ks=[k0]:=by
   cases ks with
   |nil=>simp at k1
   |cons x r=>cases r with
    |nil=>exact⟨x,rfl⟩
    |cons _ _=>simp at k1
  have hk0:=v.kn k0 Mp;have i2:aG (iB (some (c,n))) (.int 2)=some (.fz (.int n)):=ld;have i0:aG (.tuple (aD [k0])) (.int 0)=some (.fz (nd k0)):=ij;obtain⟨Z2,c1,Vs⟩:=me (k:=k0) (a:= .Nq n) hp hA (by omega) trivial (show p.2.length<1000 by omega);exact fG (aQ (b:=true) (aZ (aw (rv:= .fz (.bool true)) (aw (rv:= .fz (.str s)) (ah rfl) az rfl rfl w1) az rfl rfl w2) rfl)) (xI (dJ (bH (xs:=[.rf 2,.fz (nd k0),.fz (mD (.Nq n))]) (ai (bj rfl) (ai (ag (d:=nd k0) (aw (rv:= .fz (nd k0)) (ah rfl) az rfl rfl i0)) (ai (ag (d:=mD (.Nq n)) (show _=Res.ok (PV.fz (.tuple [.str "layer",.int n]),_) by walk_at "ev")) aC))) rfl c1) (mf ⟨rfl,Vs⟩)))
 |none=>
  refine dL (aQ (b:=false) (aZ (aw (rv:= .fz (.bool false)) (aw (rv:= .fz (.str s)) (ah rfl) az rfl rfl w1) az rfl rfl w2) rfl)) (cK ?_);have e2:aG (bD b) (.int 2)=some (.fz (.tuple (b.cs.map cF))):=ld;have e1:aG (bD b) (.int 1)=some (.fz (.tuple (b.ls.map cP))):=iE;have ZR:=oA (ks:=ks) (by omega);have c4:=vb.c4;have cmp:jq (dm (gN 0) (ar (au bQ (eN oZ (ae (au aG (aa 0) (pC (.int 0))) ao)) (eN L9.gh (ae (aa 1) ao)))) (au aG (aa 0) (pC (.int 1))) (b.cs.map cF) [none,some (.fz (.tuple (aD ks)))] [])= .ok ((b.cs.filter fun c=>decide (c.1=gr ks)).map fun c=> .str (dh c.2)):=iS cF (fun c=> .str (dh c.2)) (fun c=>decide (c.1=gr ks)) b.cs (by omega) rfl (fun c _=>by have q0:aG (cF c) (.int 0)=some (.fz (.tuple (aD c.1))):=ij;exact aZ (aw (rv:= .fz (.bool (decide (c.1=gr ks)))) (cG (rv:= .ow (aD c.1)) (by walk_at "ev") rfl rfl) (cG (rv:= .ow (aD (gr ks))) (by walk_at "ev") rfl ZR) rfl rfl (ma _ _)) rfl) fun c _ _=>aw (rv:= .fz (.str (dh c.2))) (ah rfl) az rfl rfl iE;have aal:∀c∈b.cs.filter (fun c=>decide (c.1=gr ks)),c.2<26:=fun c hc=>(vb.vc c (Ng.mp hc).1).2.2.2;have lay0:Mb.canLayAll0 ((b.cs.filter fun c=>decide (c.1=gr ks)).map fun c=>Mb.str (dh c.2))=true:=kO fun c hc=>nR (aal c hc);have ZP:Mb.depthAll ((b.cs.filter fun c=>decide (c.1=gr ks)).map fun c=>Mb.str (dh c.2))<=60:=jM fun c _=>(MN _);have XA:=LF lay0 ZP;have hd:(b.cs.filter fun c=>decide (c.1=gr ks)).head? =b.cs.find? fun c=>decide (c.1=gr ks):=List.head?_filter;generalize b.cs.filter (fun c=>decide (c.1=gr ks))=fl at cmp XA hd;refine cE (x:= .fz (.list (fl.map fun c=> .str (dh c.2)))) (Z1:=Z1++[.dead]) (ρ1:=[some (.fz (bD b)),some (.rf 2),some (.fz (.tuple (aD ks))),some (.fz (.int g)),some (.fz (iB none)),some (.fz (.list (fl.map fun c=> .str (dh c.2)))),none]) ((qX (fm (ds:=fl.map fun c=> .str (dh c.2)) (cX (cs:=[.tuple (aD ks)]) (ds:=b.cs.map cF) (fZ (aw (rv:= .fz (.tuple (b.cs.map cF))) (ah rfl) az rfl rfl e2) rfl rfl) rfl cmp)) (kW aN)).trans (by rw[gQ])) rfl ?_;have WN:=hp.app [Cell.dead];generalize Z1++[Cell.dead]=Z3 at WN;have ll:dN [.tuple (aD ks)]=some (.fz (nd ks.length)):=(gj _).trans (by rw[cJ]);have rg:gS [nd ks.length]=some (aD (Mz ks.length)):=kN (by omega);have zl:(ks.zip (p9 b ks)).length=ks.length:=by rw[RN,zS b l1];omega
  refine Bk (fun i ρ Z=>(∃o,ρ=[some (.fz (bD b)),some (.rf 2),some (.fz (.tuple (aD ks))),some (.fz (.int g)),some (.fz (iB none)),some (.fz (.list (fl.map fun c=> .str (dh c.2)))),o])/\N0 (eE ({p.1 with wt:=none},p.2) ((ks.zip (p9 b ks)).take i)) t Z) (ds:=aD (Mz ks.length)) (Z1:=Z3) (qY (my (ds:=[nd ks.length]) (aj (cG (rv:= .fz (nd ks.length)) (ds:=[.tuple (aD ks)]) (aj (ah rfl) aA) rfl ll) aA) rfl rg)) ⟨⟨_,rfl⟩,WN⟩ ?_ ?_
  ·rintro i d ρ Z hi ⟨⟨o,rfl⟩,hq⟩
   obtain⟨j,hj,rfl⟩:=iX hi;obtain⟨W3,Vh⟩:=Md.mp hj;rw[Ue] at Vh;rw[MW] at W3;subst Vh;refine⟨_,_,rfl,?_⟩;have WG:ks[i]? =some ks[i]:=Mf W3;have kn:=v.kn ks[i] (Qd W3);have ix:aG (.tuple (aD ks)) (nd i)=some (.fz (nd ks[i])):=Gj (by unfold aD;rw[Ml,WG];rfl);obtain⟨cA1,cA2⟩:=IC (b:=b) WG;have sub:∀q∈(ks.zip (p9 b ks)).take i,(q.1:Int)<b.n/\VA b.ls.length q.2:=fun q hq=>pp vb v q (TB hq);have sa':SA b (eE ({p.1 with wt:=none},p.2) ((ks.zip (p9 b ks)).take i)).1:=(SA.cms _ (p:=({p.1 with wt:=none},p.2)) ⟨sa.ac,sa.oc⟩ sub).1;have Wx:=sa'.ak vb;have ln:=tq ((ks.zip (p9 b ks)).take i) ({p.1 with wt:=none},p.2);have ln2:((ks.zip (p9 b ks)).take i).length<=5:=by rw[Nl];omega
   have ln3:(({p.1 with wt:=none},p.2):NS×Sn).2.length<900:=hl;have nxt:∀a,(p9 b ks)[i]? =some a->eE ({p.1 with wt:=none},p.2) ((ks.zip (p9 b ks)).take (i+1))=dS (eE ({p.1 with wt:=none},p.2) ((ks.zip (p9 b ks)).take i)) ks[i] a/\LB a:=fun a ha=>by
    have hz:(ks.zip (p9 b ks))[i]? =some (ks[i],a):=by rw[List.getElem?_zip_eq_some];exact⟨WG,ha⟩
    refine⟨?_,(Ci vb v a (Nb ha)).lb⟩;rw[Ur,hz];exact xU _ _ _
   generalize eE ({p.1 with wt:=none},p.2) ((ks.zip (p9 b ks)).take i)=pq at hq sa' Wx ln nxt;cases qf:b.cs.find? fun c=>decide (c.1=gr ks) with
   |none=>obtain⟨n1,n2⟩:=nxt _ (cA2 qf);rw[qf] at hd;have U2:fl=[]:=List.head?_eq_none_iff.mp hd;subst U2;obtain⟨d0,x1,x2⟩:=sX vb (L:=0) (k:=ks[i]) (by omega) kn;have x1:aG (.tuple (b.ls.map cP)) (.int 0)=some (.fz d0):=x1;obtain⟨Z4,c1,hp4⟩:=me (k:=ks[i]) (a:=i4 b 0 ks[i]) hq Wx (by omega) n2 (by omega);rw[n1];exact fW (aQ (b:=true) (aZ (aw (rv:= .fz (.bool true)) (dy:= .list []) (ah rfl) (i9 aA rfl (MN _)) rfl rfl XA) rfl)) (cN (bH (xs:=[.rf 2,.fz (nd ks[i]),.fz (mD (i4 b 0 ks[i]))]) (ai (bj rfl) (ai (ag (d:=nd ks[i]) (aw (rv:= .fz (nd ks[i])) (ah rfl) (ah rfl) rfl rfl ix)) (ai (ag (d:=mD (i4 b 0 ks[i])) (aw (rv:= .fz (mD (i4 b 0 ks[i]))) (aw (rv:= .fz d0) (aw (rv:= .fz (.tuple (b.ls.map cP))) (ah rfl) az rfl rfl e1) az rfl rfl x1) (aw (rv:= .fz (nd ks[i])) (ah rfl) (ah rfl) rfl rfl ix) rfl rfl x2)) aC))) rfl c1) ⟨⟨_,rfl⟩,hp4⟩)
   |some c=>
    obtain⟨n1,n2⟩:=nxt _ (cA1 c qf);rw[qf] at hd;obtain⟨r,rfl⟩:∃r,fl=c::r:=by
     cases fl with
     |nil=>cases hd
     |cons y r=>cases Mw hd;exact⟨r,rfl⟩
    obtain⟨Z4,c1,hp4⟩:=me (k:=ks[i]) (a:=if i=0 then .Mr c.2 else .none) hq Wx (by omega) n2 (by omega);rw[n1];have y0:aG (.list ((c::r).map fun c=> .str (dh c.2))) (.int 0)=some (.fz (.str (dh c.2))):=HQ;have y1:Gm [.bool (decide ((0:Int)<(i:Int)))]=some (.fz (.int (if decide ((0:Int)<(i:Int))=true then 1 else 0))):=rfl;have y2:aG (.list [.tuple [.str "letter",.str (dh c.2)],.tuple [.str "none"]]) (.int (if decide ((0:Int)<(i:Int))=true then 1 else 0))=some (.fz (mD (if i=0 then .Mr c.2 else .none))):=by
     by_cases hi0:i=0
     ·rw[if_pos hi0,if_neg (by rw[decide_eq_false (by omega)];simp)];exact HQ
     ·rw[if_neg hi0,if_pos (by rw[decide_eq_true (by omega)])];exact Kh
    exact bp (aQ (b:=false) (aZ (aw (rv:= .fz (.bool false)) (dy:= .list []) (ah rfl) (i9 aA rfl (MN _)) rfl rfl XA) rfl)) (cN (bH (xs:=[.rf 2,.fz (nd ks[i]),.fz (mD (if i=0 then .Mr c.2 else .none))]) (ai (bj rfl) (ai (ag (d:=nd ks[i]) (aw (rv:= .fz (nd ks[i])) (ah rfl) (ah rfl) rfl rfl ix)) (ai (ag (d:=mD (if i=0 then .Mr c.2 else .none)) (aw (rv:= .fz (mD (if i=0 then .Mr c.2 else .none))) (dx:= .list [.tuple [.str "letter",.str (dh c.2)],.tuple [.str "none"]]) (show _=Res.ok (PV.ow [.tuple [.str "letter",.str (dh c.2)],.tuple [.str "none"]],_) by walk_at "ev") (cG (rv:= .fz (.int (if decide ((0:Int)<(i:Int))=true then 1 else 0))) (ds:=[.bool (decide ((0:Int)<(i:Int)))]) (aj (aw (rv:= .fz (.bool (decide ((0:Int)<(i:Int))))) (ah rfl) az rfl rfl (oH _ _)) aA) rfl y1) rfl rfl y2)) aC))) rfl c1) ⟨⟨_,rfl⟩,hp4⟩)
  ·rintro ρ Z ⟨_,hq⟩;rw[cJ,MW,<-zl,List.take_length] at hq;exact⟨rfl,hq⟩
end
theorem xC {A W:List Nat} (hA:A.Nodup) (hW:W.Nodup):(W.length=(A.filter fun k=>decide (k∈W)).length)↔(W.all fun k=>decide (k∈A))=true:=by
 have hp:(A.filter fun k=>decide (k∈W)).Perm (W.filter fun k=>decide (k∈A)):=(Se (hA.sublist QT) (hW.sublist QT)).mpr fun x=>by rw[Ng,Ng,decide_eq_true_eq,decide_eq_true_eq];exact And.comm
 rw[hp.length_eq,OB];constructor
 ·intro h;exact Ri.mp h.symm
 ·intro h;exact(Ri.mpr h).symm
theorem BV {α:Type} (p:α->Bool) (l:List α):AC [.list (l.map fun c=>Mb.bool (p c))]=some (.fz (.bool (l.any p))):=by show(o0 _).map (fun bs=>RV.fz (.bool (bs.any id)))=_;rw[STP.rj];show some (RV.fz (.bool _))=_;rw[List.any_map];rfl
theorem Ea (b:Bd) (k:Nat):(!(ck b [k]).isEmpty)=b.cs.any fun c=>decide (k∈c.1):=by
 unfold ck;generalize b.cs=cs
 induction cs with
 |nil=>rfl
 |cons c r ih=>
  rw[OL,<-ih,Pj];by_cases h:k∈c.1
  ·rw[if_pos (by rw[VY,List.all_nil,P9];exact decide_eq_true h),decide_eq_true h];rfl
  ·rw[if_neg (by rw[VY,decide_eq_false h];simp),decide_eq_false h,Pk]
section
variable {b:Bd} (vb:VB b) {p:NS×Sn} {t i:Nat} {Z Z1 Z2:bv} {ρ:bS} {k:Nat} {a:Mn} {x y z:SV} {d dx dy:D} {ds:List D} {ks:List Nat} {g:Int} {w:Option (Nat×Int)}
include vb
theorem Ie (h:nt (b.ls.headD []) k=true):(k:Int)<b.n:=by
 have h1:=vb.l1;have hv:=vb.vl 0;cases q:b.ls with
 |nil=>rw[q] at h1;simp at h1
 |cons l r=>
  rw[q] at h hv;have hl:=(hv l rfl).1;have h:nt l k=true:=h;unfold nt at h;cases z:l[k]? with
  |none=>rw[z] at h;cases h
  |some m=>have:=(Md.mp z).1;omega
omit vb in
theorem A5 (cs:List (List Nat×Nat)):Mb.canLayAll0 (cs.map fun c=>Mb.tuple (aD c.1))=true:=kO fun c _=>gL _
theorem zY (h:N0 p t Z) (sw:SW b p.1) (hk:(k:Int)<b.n) (ha:p.1.ac k=none) (hn:oS p.1.wt k=false) (hl:p.2.length<900):∃Z',gK [.fz (bD b),.rf 2,.fz (nd k)] Z= .ok (.fz (.bool (mN b p.1 k))) Z'/\N0 (if mN b p.1 k=true then j0 b p k else p) t Z':=by
 have L0:=qW vb sw.sa;refine d6 (v:= .fz (.bool (mN b p.1 k))) (W:=fun Z'=>N0 (if mN b p.1 k=true then j0 b p k else p) t Z') (ρ:=[some (.fz (bD b)),some (.rf 2),some (.fz (nd k)),none,none,none,none,none]) rfl ?_;unfold i6;have no:∀{Z:bv} {ρ:bS} {g:eV},N0 p t Z->mN b p.1 k=false->ON (aL (hV (af (pC (.bool false)))) g ρ Z) (fun _ Z'=>SV.fz .none= .fz (.bool (mN b p.1 k))/\N0 (if mN b p.1 k=true then j0 b p k else p) t Z') (fun _ _=>False) (fun r Z'=>r= .fz (.bool (mN b p.1 k))/\N0 (if mN b p.1 k=true then j0 b p k else p) t Z'):=fun h e=>A9 (ag az) ⟨by rw[e],by rw[e,if_neg Mx];exact h⟩;cases q:p.1.wt with
 |none=>
  have em:mN b p.1 k=false:=by unfold mN;rw[q]
  have e1:nF (fE p.1.wt) .none=some (.fz (.bool true)):=by rw[q];rfl
  exact fG (Z1:=Z) (kj (aE (cg (fK h rfl) (ag az) (bG e1)))) (no h em)
 |some x=>
  obtain⟨ks,g,w⟩:=x;obtain⟨v,hg⟩:=sw.wt ks g w q;have l5:=v.len vb;have e1:nF (fE p.1.wt) .none=some (.fz (.bool false)):=by rw[q];rfl
  have e2:aG (fE p.1.wt) (.int 2)=some (.fz (iB w)):=by rw[q];exact ld
  have ec:=(vf (w:=w) fun c n h=>(v.tp c n h).1).2;have c1:aY (iA nF (bu (aq 1) (af (pC (.str "waiting")))) (af (pC .none))) [some (.fz (bD b)),some (.rf 2),some (.fz (nd k)),none,none,none,none,none] Z= .ok false Z:=aE (cg (fK h rfl) (ag az) (bG e1));have c2:aY (iA oN (jk (bu (aq 1) (af (pC (.str "waiting")))) (af (pC (.int 2)))) (af (aW (ae (pC (.str "chord")) ao)))) [some (.fz (bD b)),some (.rf 2),some (.fz (nd k)),none,none,none,none,none] Z= .ok w.isSome Z:=aE (cg (x:= .fz (iB w)) (y:= .fz (.tuple [.str "chord"])) (cW (fK h rfl) (ag az) e2) (ag (by walk_at "ev")) (bG ec));cases w with
  |some cn=>
   have em:mN b p.1 k=false:=by unfold mN;rw[q]
   exact fG (Z1:=Z) (dU c1 (kj c2)) (no h em)
  |none=>
   obtain⟨Z1,y1,h1⟩:=CN vb h sw.sa;have c3:aY (iA rU (cT ce 1 (am (aq 1) aJ)) (af (pC (.int 0)))) [some (.fz (bD b)),some (.rf 2),some (.fz (nd k)),none,none,none,none,none] Z= .ok (decide (0<ii p.1.ac p.1.oc)) Z1:=aE (cg (bH (xs:=[.rf 2]) (ai (bj rfl) aC) rfl y1) (ag az) (bG (oH _ _)));have em:mN b p.1 k=(decide (ii p.1.ac p.1.oc=0)&& !(ck b (ks++[k])).isEmpty):=by unfold mN;rw[q]
   have hkn:k∉ks:=by rw[q] at hn;exact of_decide_eq_false hn
   by_cases hL:0<ii p.1.ac p.1.oc
   ·rw[decide_eq_true hL] at c3;exact fG (Z1:=Z1) (dU c1 (dU c2 c3)) (no h1 (by rw[em,decide_eq_false (by omega)];rfl))
   ·rw[decide_eq_false hL] at c3
    rw[decide_eq_true (show ii p.1.ac p.1.oc=0 by omega),Q0] at em;refine dL (Z1:=Z1) (dU c1 (dU c2 c3)) (cK ?_);have gw:=fK (i:=1) (ρ:=[some (.fz (bD b)),some (.rf 2),some (.fz (nd k)),none,none,none,none,none]) h1 rfl;rw[q] at gw;refine cE (ρ1:=[some (.fz (bD b)),some (.rf 2),some (.fz (nd k)),some (.fz (.tuple (aD ks))),some (.fz (.int g)),some (.fz (.tuple [.str "chord"])),none,none]) (Z2:=Z1) gw rfl ?_;obtain⟨VP,l6⟩:=CT vb v hkn hk;have ad:cS (.list (aD ks)) (.list [nd k])=some (.ow (aD (ks++[k]))):=by show(if(aD ks).length+1<=1000000 then some (RV.ow (aD ks++[nd k])) else none)=_;rw[if_pos (by rw[cJ];omega),zw];rfl
    refine cE (x:= .fz (.list (aD (ks++[k])))) (Z1:=Z1++[.dead]) (ρ1:=[some (.fz (bD b)),some (.rf 2),some (.fz (nd k)),some (.fz (.tuple (aD ks))),some (.fz (.int g)),some (.fz (.tuple [.str "chord"])),some (.fz (.list (aD (ks++[k])))),none]) ((qX (fm (ds:=aD (ks++[k])) (aw (rv:= .ow (aD (ks++[k]))) (cG (rv:= .ow (aD ks)) (ds:=[.tuple (aD ks)]) (aj (ah rfl) aA) rfl rfl) (i9 (aj (ah rfl) aA) rfl (Mc rfl)) rfl rfl ad)) (kW aN)).trans (by rw[gQ])) rfl ?_;have e2:aG (bD b) (.int 2)=some (.fz (.tuple (b.cs.map cF))):=ld;have c4:=vb.c4;have lw:dN [.list (aD (ks++[k]))]=some (.fz (nd (ks++[k]).length)):=(kF _).trans (by rw[cJ]);have cmp:jq (dm (gN 0) (ar (au bQ (eN dN (ae (aa 1) ao)) (eN dN (ae (dk 1 [1] (gX (au aG (aa 0) (pC (.int 0)))) (gN 0) (ar (au pY (aa 0) (aa 1))) (aa 0)) ao)))) (au aG (aa 0) (pC (.int 0))) (b.cs.map cF) [none,some (.fz (.list (aD (ks++[k]))))] [])= .ok ((ck b (ks++[k])).map fun c=> .tuple (aD c.1)):=iS cF (fun c=> .tuple (aD c.1)) (fun c=>(ks++[k]).all fun j=>decide (j∈c.1)) b.cs (by omega) rfl (fun c hc=>by
     have vc:=vb.vc c hc;have cl:c.1.length<=1000:=by
      have:=uI (n:=5) (vc.2.1.imp fun h=>by omega) fun j hj=>by have:=Ie vb (vc.2.2.1 j hj);have:=vb.n5;omega
      omega
     have q0:aG (cF c) (.int 0)=some (.fz (.tuple (aD c.1))):=ij;have inn:jq (dm (gN 0) (ar (au pY (aa 0) (aa 1))) (aa 0) (aD c.1) [none,some (.fz (.list (aD (ks++[k]))))] [])= .ok ((c.1.filter fun j=>decide (j∈ks++[k])).map nd):=iS nd nd (fun j=>decide (j∈ks++[k])) c.1 cl rfl (fun j _=>aZ (aw (rv:= .fz (.bool (decide (j∈ks++[k])))) (ah rfl) (ah rfl) rfl rfl (zj _ _)) rfl) fun j _ _=>ah rfl;have lf:dN [.list ((c.1.filter fun j=>decide (j∈ks++[k])).map nd)]=some (.fz (nd (c.1.filter fun j=>decide (j∈ks++[k])).length)):=(kF _).trans (by rw[L7]);have ev:bQ (nd (ks++[k]).length) (nd (c.1.filter fun j=>decide (j∈ks++[k])).length)=some (.fz (.bool ((ks++[k]).all fun j=>decide (j∈c.1)))):=by rw[DI];have:=xC (A:=c.1) (W:=ks++[k]) (vc.2.1.imp fun h=>by omega) VP;congr 3;rw[Qs,decide_eq_true_eq];exact this
     exact aZ (aw (rv:= .fz (.bool ((ks++[k]).all fun j=>decide (j∈c.1)))) (cG (rv:= .fz (nd (ks++[k]).length)) (ds:=[.list (aD (ks++[k]))]) (aj (ah rfl) aA) rfl lw) (cG (rv:= .fz (nd (c.1.filter fun j=>decide (j∈ks++[k])).length)) (ds:=[.list ((c.1.filter fun j=>decide (j∈ks++[k])).map nd)]) (aj (cX (cs:=[.list (aD (ks++[k]))]) (ds:=aD c.1) (fZ (aw (rv:= .fz (.tuple (aD c.1))) (ah rfl) az rfl rfl q0) rfl rfl) rfl inn) aA) rfl lf) rfl rfl ev) rfl) fun c _ _=>aw (rv:= .fz (.tuple (aD c.1))) (ah rfl) az rfl rfl ij
    have h2:=h1.app [Cell.dead];generalize Z1++[Cell.dead]=Z2 at h2;have dep:Mb.depthAll ((ck b (ks++[k])).map fun c=>Mb.tuple (aD c.1))<=60:=jM fun c _=>by show Mb.depthAll (aD c.1)+1<=60;rw[jQ];decide
    have XA:=LF (A5 (ck b (ks++[k]))) dep;have ovl:(ck b (ks++[k])).length<=4:=by have:=Pe (fun c:List Nat×Nat=>(ks++[k]).all fun j=>decide (j∈c.1)) b.cs;show(b.cs.filter _).length<=4;omega
    have ep:j0 b p k=if(ck b (ks++[k])).map (·.1.length)=[(ks++[k]).length] then bN b ({p.1 with wt:=some (ks++[k],g,none)},p.2) else({p.1 with wt:=some (ks++[k],g,none)},p.2):=by unfold j0;rw[q]
    refine cE (x:= .fz (.list ((ck b (ks++[k])).map fun c=> .tuple (aD c.1)))) (Z1:=Z2++[.dead]) (ρ1:=[some (.fz (bD b)),some (.rf 2),some (.fz (nd k)),some (.fz (.tuple (aD ks))),some (.fz (.int g)),some (.fz (.tuple [.str "chord"])),some (.fz (.list (aD (ks++[k])))),some (.fz (.list ((ck b (ks++[k])).map fun c=> .tuple (aD c.1))))]) ((qX (fm (ds:=(ck b (ks++[k])).map fun c=> .tuple (aD c.1)) (cX (cs:=[.list (aD (ks++[k]))]) (ds:=b.cs.map cF) (fZ (aw (rv:= .fz (.tuple (b.cs.map cF))) (ah rfl) az rfl rfl e2) rfl rfl) rfl cmp)) (kW aN)).trans (by rw[gQ])) rfl ?_;have h3:=h2.app [Cell.dead];generalize Z2++[Cell.dead]=Z3 at h3;have t1:∀{Z:bv},aM (ar (au bQ (aa 7) (cY ao))) [some (.fz (bD b)),some (.rf 2),some (.fz (nd k)),some (.fz (.tuple (aD ks))),some (.fz (.int g)),some (.fz (.tuple [.str "chord"])),some (.fz (.list (aD (ks++[k])))),some (.fz (.list ((ck b (ks++[k])).map fun c=> .tuple (aD c.1))))] Z= .ok (ck b (ks++[k])).isEmpty Z:=aQ (aZ (aw (rv:= .fz (.bool (ck b (ks++[k])).isEmpty)) (dy:= .list []) (ah rfl) (i9 aA rfl (MN _)) rfl rfl (XA.trans (by rw[List.isEmpty_map]))) rfl);cases qo:(ck b (ks++[k])).isEmpty with
    |true=>rw[qo] at t1 em;exact fG t1 (no h3 (by rw[em];rfl))
    |false=>
     rw[qo] at t1 em;have em:mN b p.1 k=true:=by rw[em];rfl
     rw[em,if_pos rfl];obtain⟨_,_,z1,z2,z3,z4⟩:=ro vb sw hk ha hn em;rw[q] at z1;cases z1;refine dL t1 (cK ?_);obtain⟨Z4,pw,h4⟩:=n6 (i:=1) (ρ:=[some (.fz (bD b)),some (.rf 2),some (.fz (nd k)),some (.fz (.tuple (aD ks))),some (.fz (.int g)),some (.fz (.tuple [.str "chord"])),some (.fz (.list (aD (ks++[k])))),some (.fz (.list ((ck b (ks++[k])).map fun c=> .tuple (aD c.1))))]) (fv:=af (aW (ae (au cS (aa 3) (aW (ae (aa 2) ao))) (ae (aa 4) (ae (aa 5) ao))))) (w:=some (ks++[k],g,none)) h3 rfl (ag (d:=fE (some (ks++[k],g,none))) (show _=Res.ok (PV.fz (.tuple [.tuple (aD (ks++[k])),.int g,.tuple [.str "chord"]]),_) from eX (aj (aw (rv:= .fz (.tuple (aD (ks++[k])))) (ah rfl) (eX (aj (ah rfl) aA) rfl (Mc rfl)) rfl rfl (uE (k:=k) v.ne l5)) (aj (ah rfl) (aj (ah rfl) aA))) rfl (Mc rfl)));refine jX pw ?_;have aad:jq (dm (gN 0) fw (eN dN (ae (aa 0) ao)) ((ck b (ks++[k])).map fun c=> .tuple (aD c.1)) [none] [])= .ok (aD ((ck b (ks++[k])).map (·.1.length))):=by unfold aD;rw[MV];exact mH (fun c:List Nat×Nat=> .tuple (aD c.1)) (fun c=>nd c.1.length) (ck b (ks++[k])) (by omega) rfl fun c _=>cG (rv:= .fz (nd c.1.length)) (ds:=[.tuple (aD c.1)]) (aj (ah rfl) aA) rfl ((gj _).trans (by rw[cJ]))
     have t2:∀{Z:bv},aM (ar (au bQ (dk 1 [] (gX (aa 7)) (gN 0) fw (eN dN (ae (aa 0) ao))) (cY (ae (eN dN (ae (aa 6) ao)) ao)))) [some (.fz (bD b)),some (.rf 2),some (.fz (nd k)),some (.fz (.tuple (aD ks))),some (.fz (.int g)),some (.fz (.tuple [.str "chord"])),some (.fz (.list (aD (ks++[k])))),some (.fz (.list ((ck b (ks++[k])).map fun c=> .tuple (aD c.1))))] Z= .ok (decide ((ck b (ks++[k])).map (·.1.length)=[(ks++[k]).length])) Z:=aQ (aZ (aw (rv:= .fz (.bool (decide ((ck b (ks++[k])).map (·.1.length)=[(ks++[k]).length])))) (dx:= .list (aD ((ck b (ks++[k])).map (·.1.length)))) (dy:= .list (aD [(ks++[k]).length])) (cX (cs:=[]) (ds:=(ck b (ks++[k])).map fun c=> .tuple (aD c.1)) (fZ (ah rfl) rfl rfl) rfl aad) (i9 (aj (cG (rv:= .fz (nd (ks++[k]).length)) (ds:=[.list (aD (ks++[k]))]) (aj (ah rfl) aA) rfl lw) aA) rfl (Mc rfl)) rfl rfl (ma _ _)) rfl);rw[ep];by_cases hf:(ck b (ks++[k])).map (·.1.length)=[(ks++[k]).length]
     ·rw[decide_eq_true hf] at t2;rw[if_pos hf];obtain⟨Z5,dc,h5⟩:=jw vb (p:=({p.1 with wt:=some (ks++[k],g,none)},p.2)) h4 ⟨sw.sa.ac,sw.sa.oc⟩ rfl z3 hl;exact fG t2 (dJ (bH (xs:=[.fz (bD b),.rf 2]) (ai (ag (ah rfl)) (ai (bj rfl) aC)) rfl dc) (nH (ag az) ⟨rfl,h5⟩))
     ·rw[decide_eq_false hf] at t2;rw[if_neg hf];exact dL t2 (cK (nH (ag az) ⟨rfl,h4⟩))
end
theorem JA {m:Mn} (h:m≠ .below):pY (.str (wd m)) (.tuple [.str "letter",.str "tap",.str "none"])=some (.fz (.bool (!(m.RI||m.Uj)))):=by
 have h':∀a:Str,Mb.strOk a=true->pY (.str a) (.tuple [.str "letter",.str "tap",.str "none"])=some (.fz (.bool (("letter":Str)==a||(("tap":Str)==a||("none":Str)==a)))):=fun a ha=>by show(if(ju (.str a)&&(Mb.strOk "letter"&&(Mb.strOk "tap"&&(Mb.strOk "none"&&true))))=true then some (RV.fz (.bool (Mb.eqv (.str "letter") (.str a)||(Mb.eqv (.str "tap") (.str a)||(Mb.eqv (.str "none") (.str a)||false))))) else none)=_;rw[show ju (.str a)=true by unfold ju;rw[show Mb.canLay0 (.str a)=true from ha];rfl,show Mb.strOk "letter"=true by decide+kernel,show Mb.strOk "tap"=true by decide+kernel,show Mb.strOk "none"=true by decide+kernel,SD];rfl
 rw[h' _ (Dl m)];unfold wd;rw[show(("letter":Str)==ws (wn m))=_ from p7 0 (by decide) _ (mr m),show(("tap":Str)==ws (wn m))=_ from p7 2 (by decide) _ (mr m),show(("none":Str)==ws (wn m))=_ from p7 4 (by decide) _ (mr m)];cases m with
 |below=>exact absurd rfl h
 |_=>rfl
noncomputable def D3:eV:=(bR (aM (ar (au bQ (au aG (aa 4) (pC (.int 0))) (pC (.str "tap"))))) (eS (aq 1) (af (pC (.str "waiting"))) (af (aW (ae (aW (ae (aa 2) ao)) (ae (pC (.int 0)) (ae (aa 4) ao)))))) (bR (aM (ig (ar (au bQ (au aG (aa 4) (pC (.int 0))) (pC (.str "letter")))) (ig (ar (au bQ (aa 3) (pC (.int 0)))) (ar (eN AC (ae (dk 1 [2] (gX (au aG (aa 0) (pC (.int 2)))) (gN 0) fw (au pY (aa 1) (au aG (aa 0) (pC (.int 0))))) ao)))))) (eS (aq 1) (af (pC (.str "waiting"))) (af (aW (ae (aW (ae (aa 2) ao)) (ae (pC (.int 0)) (ae (aW (ae (pC (.str "chord")) ao)) ao)))))) (bR (aM (ar (au bQ (au aG (aa 4) (pC (.int 0))) (pC (.str "once"))))) (aL (bx (cT b3 3 (am (aq 1) (am (af (aa 2)) (am (af (aW (ae (pC (.str "none")) ao))) aJ)))))
 (eS (aq 1) (af (pC (.str "once"))) (af (au aG (aa 4) (pC (.int 1)))))) (bx (cT b3 3 (am (aq 1) (am (af (aa 2)) (am (af (aa 4)) aJ))))))))
noncomputable def D2:eV:=(aL (bR (aM (ar (au pY (au aG (aa 4) (pC (.int 0))) (aW (ae (pC (.str "letter")) (ae (pC (.str "tap")) (ae (pC (.str "none")) ao))))))) (eS (aq 1) (af (pC (.str "once"))) (af (pC .none))) cw)
 D3)
noncomputable def D1:eV:=(aL (dR (cT ce 1 (am (aq 1) aJ)) (fO 3))
 (aL (dR (af (au aG (au aG (au aG (aa 0) (pC (.int 1))) (aa 3)) (aa 2))) (fO 4))
 (aL (bR (aM (ar (au bQ (aa 4) (aW (ae (pC (.str "below")) ao))))) (dR (af (au aG (au aG (au aG (aa 0) (pC (.int 1))) (pC (.int 0))) (aa 2))) (fO 4)) cw)
 D2)))
section
variable {b:Bd} (vb:VB b) {p:NS×Sn} {t i:Nat} {Z Z1 Z2:bv} {ρ:bS} {k:Nat} {a:Mn} {x y z:SV} {d dx dy:D} {ds:List D} {ks:List Nat} {g:Int} {w:Option (Nat×Int)}
include vb
theorem FM (h:N0 p t Z) (sw:SW b p.1) (hw:p.1.wt=some (ks,g,w)) (hl:p.2.length<900):∃Z',iL [.fz (bD b),.rf 2] Z= .ok (.fz .none) Z'/\N0 (gv b p) t Z':=by
 obtain⟨v,hg⟩:=sw.wt ks g w hw;have ew:gv b p=if g+1=b.wt then bN b ({p.1 with wt:=some (ks,g+1,w)},p.2) else({p.1 with wt:=some (ks,g+1,w)},p.2):=by unfold gv;rw[hw]
 rw[ew];refine d6 (v:= .fz .none) (W:=fun Z'=>N0 (if g+1=b.wt then bN b ({p.1 with wt:=some (ks,g+1,w)},p.2) else({p.1 with wt:=some (ks,g+1,w)},p.2)) t Z') (ρ:=[some (.fz (bD b)),some (.rf 2),none,none,none]) rfl ?_;unfold iV;have gw:=fK (i:=1) (ρ:=[some (.fz (bD b)),some (.rf 2),none,none,none]) h rfl;rw[hw] at gw;refine cE (ρ1:=[some (.fz (bD b)),some (.rf 2),some (.fz (.tuple (aD ks))),some (.fz (.int g)),some (.fz (iB w))]) (Z2:=Z) gw rfl ?_;obtain⟨Z1,pw,hp⟩:=n6 (i:=1) (ρ:=[some (.fz (bD b)),some (.rf 2),some (.fz (.tuple (aD ks))),some (.fz (.int g)),some (.fz (iB w))]) (fv:=af (aW (ae (aa 2) (ae (au cS (aa 3) (pC (.int 1))) (ae (aa 4) ao))))) (w:=some (ks,g+1,w)) h rfl (ag (d:=fE (some (ks,g+1,w))) (show _=Res.ok (PV.fz (.tuple [.tuple (aD ks),.int (g+1),iB w]),_) by walk_at "ev"));refine jX pw ?_;have e3:aG (bD b) (.int 3)=some (.fz (.int b.wt)):=Gj (i:=3) rfl;have Vq:∀{Z:bv},aM (ar (au K4 (au cS (aa 3) (pC (.int 1))) (au aG (aa 0) (pC (.int 3))))) [some (.fz (bD b)),some (.rf 2),some (.fz (.tuple (aD ks))),some (.fz (.int g)),some (.fz (iB w))] Z= .ok (decide (b.wt<=g+1)) Z:=aQ (aZ (aw (rv:= .fz (.bool (decide (b.wt<=g+1)))) (aw (rv:= .fz (.int (g+1))) (ah rfl) az rfl rfl (gZ _ _)) (aw (rv:= .fz (.int b.wt)) (ah rfl) az rfl rfl e3) rfl rfl (DH _ _)) rfl);by_cases hq:g+1=b.wt
 ·rw[decide_eq_true (by omega)] at Vq;rw[if_pos hq];have v':WV b p.1.ac ks (g+1) w:=⟨v.ne,v.nd,v.kn,v.kf,by have:=v.g0;omega,v.tp,v.ch⟩;obtain⟨Z2,dc,h2⟩:=jw vb (p:=({p.1 with wt:=some (ks,g+1,w)},p.2)) hp ⟨sw.sa.ac,sw.sa.oc⟩ rfl v' hl;exact fW Vq (cN (bH (xs:=[.fz (bD b),.rf 2]) (ai (ag (ah rfl)) (ai (bj rfl) aC)) rfl dc) ⟨rfl,h2⟩)
 ·rw[decide_eq_false (by omega)] at Vq;rw[if_neg hq];exact bp Vq (fy ⟨rfl,hp⟩)
theorem EJ (h:N0 p t Z) (sw:SW b p.1) (hk:(k:Int)<b.n) (ha:p.1.ac k=none) (hn:oS p.1.wt k=false) (hl:p.2.length<800):∃Z',iY [.fz (bD b),.rf 2,.fz (nd k)] Z= .ok (.fz .none) Z'/\N0 (g8 b p k) t Z':=by
 have ep:g8 b p k=if mN b p.1 k=true then j0 b p k else vX b (bN b p) k:=by unfold g8;rw[if_neg (by rw[ha,hn];simp)]
 rw[ep];have h5:=vb.n5;have h1:=vb.l1;refine d6 (v:= .fz .none) (W:=fun Z'=>N0 (if mN b p.1 k=true then j0 b p k else vX b (bN b p) k) t Z') (ρ:=[some (.fz (bD b)),some (.rf 2),some (.fz (nd k)),none,none]) rfl ?_;unfold j6;obtain⟨Z1,jn,hj⟩:=zY vb h sw hk ha hn (by omega);refine qO (aE (bH (xs:=[.fz (bD b),.rf 2,.fz (nd k)]) (ai (ag (ah rfl)) (ai (bj rfl) (ai (ag (ah rfl)) aC))) rfl jn)) (fun q=> ?_) fun q=>cK ?_
 ·rw[if_pos q] at hj⊢;exact mf ⟨rfl,hj⟩
 rw[if_neg (by rw[q];simp)] at hj⊢;have d:=fx vb (p:=p) sw.sa (SW.wd vb sw);have da:=rz (b:=b) ha hn;have rest:∀Z2,N0 (bN b p) t Z2->ON (D1 [some (.fz (bD b)),some (.rf 2),some (.fz (nd k)),none,none] Z2) (fun _ Z'=>SV.fz .none= .fz .none/\N0 (vX b (bN b p) k) t Z') (fun _ _=>False) (fun r Z'=>r= .fz .none/\N0 (vX b (bN b p) k) t Z'):=by
  intro Z2 h2;unfold D1;have dl:(bN b p).2.length<900:=by have:=d.2.2.1;omega
  have YF:=d.1.sa;have dw:=d.2.1;generalize bN b p=p2 at h2 da dl YF dw;obtain⟨L0,L1⟩:=qW vb YF;obtain⟨Z3,ly,h3⟩:=CN vb h2 YF;have eb:vX b p2 k=lG b (ii p2.1.ac p2.1.oc) (cR p2.1 (look b (ii p2.1.ac p2.1.oc) k),p2.2) k (look b (ii p2.1.ac p2.1.oc) k):=rfl;rw[eb];obtain⟨vm,nb⟩:=pH vb (k:=k) L0 L1 hk;obtain⟨n,UL⟩:∃n:Nat,ii p2.1.ac p2.1.oc=(n:Int):=⟨(ii p2.1.ac p2.1.oc).toNat,by omega⟩;refine cE (x:= .fz (.int (ii p2.1.ac p2.1.oc))) (ρ1:=[some (.fz (bD b)),some (.rf 2),some (.fz (nd k)),some (.fz (.int (ii p2.1.ac p2.1.oc))),none]) (bH (xs:=[.rf 2]) (ai (bj rfl) aC) rfl ly) rfl ?_;generalize ii p2.1.ac p2.1.oc=L at vm nb L0 L1 UL;subst UL;obtain⟨d1,x1,x2⟩:=sX vb (L:=n) (k:=k) (by omega) hk;obtain⟨d0,x3,x4⟩:=sX vb (L:=0) (k:=k) (by omega) hk;have x3:aG (.tuple (b.ls.map cP)) (.int 0)=some (.fz d0):=x3;have e1:aG (bD b) (.int 1)=some (.fz (.tuple (b.ls.map cP))):=iE;have vn:=uj vb (L:=n) (k:=k) (by omega) hk;have lk:look b (n:Int) k=if(i4 b n k).V8=true then i4 b 0 k else i4 b n k:=rfl
  refine cE (x:= .fz (mD (i4 b n k))) (Z1:=Z3) (ρ1:=[some (.fz (bD b)),some (.rf 2),some (.fz (nd k)),some (.fz (nd n)),some (.fz (mD (i4 b n k)))]) (ag (aw (rv:= .fz (mD (i4 b n k))) (aw (rv:= .fz d1) (aw (rv:= .fz (.tuple (b.ls.map cP))) (ah rfl) az rfl rfl e1) (ah rfl) rfl rfl x1) (ah rfl) rfl rfl x2)) rfl ?_;have eB:bQ (mD (i4 b n k)) (.tuple [.str "below"])=some (.fz (.bool (i4 b n k).V8)):=(Ih (a:=i4 b n k) (b:= .below) vn.lb trivial).trans (by congr 3;cases i4 b n k<;>first|rfl|exact decide_eq_true rfl);have VJ:∀m:Mn,m=look b (n:Int) k->ON (D2 [some (.fz (bD b)),some (.rf 2),some (.fz (nd k)),some (.fz (nd n)),some (.fz (mD m))] Z3) (fun _ Z'=>SV.fz .none= .fz .none/\N0 (lG b (n:Int) (cR p2.1 (look b (n:Int) k),p2.2) k (look b (n:Int) k)) t Z') (fun _ _=>False) (fun r Z'=>r= .fz .none/\N0 (lG b (n:Int) (cR p2.1 (look b (n:Int) k),p2.2) k (look b (n:Int) k)) t Z'):=by
   intro m hm;unfold D2;rw[<-hm] at vm nb⊢;have y1:=kl m;have y2:=JA nb;have y3:=xT m;have y4:=gA m;have y5:=zQ m;have e2:aG (bD b) (.int 2)=some (.fz (.tuple (b.cs.map cF))):=ld;have c4:=vb.c4;have t0:∀{Z:bv},aM (ar (au pY (au aG (aa 4) (pC (.int 0))) (aW (ae (pC (.str "letter")) (ae (pC (.str "tap")) (ae (pC (.str "none")) ao)))))) [some (.fz (bD b)),some (.rf 2),some (.fz (nd k)),some (.fz (nd n)),some (.fz (mD m))] Z= .ok (!(m.RI||m.Uj)) Z:=aQ (aZ (aw (rv:= .fz (.bool (!(m.RI||m.Uj)))) (aw (rv:= .fz (.str (wd m))) (ah rfl) az rfl rfl y1) (eX (aj az (aj az (aj az aA))) rfl (Mc rfl)) rfl rfl y2) rfl);have t1:∀{Z:bv},aM (ar (au bQ (au aG (aa 4) (pC (.int 0))) (pC (.str "tap")))) [some (.fz (bD b)),some (.rf 2),some (.fz (nd k)),some (.fz (nd n)),some (.fz (mD m))] Z= .ok m.YH Z:=aQ (aZ (aw (rv:= .fz (.bool m.YH)) (aw (rv:= .fz (.str (wd m))) (ah rfl) az rfl rfl y1) az rfl rfl y3) rfl);have t3:∀{Z:bv},aM (ar (au bQ (au aG (aa 4) (pC (.int 0))) (pC (.str "once")))) [some (.fz (bD b)),some (.rf 2),some (.fz (nd k)),some (.fz (nd n)),some (.fz (mD m))] Z= .ok m.Uj Z:=aQ (aZ (aw (rv:= .fz (.bool m.Uj)) (aw (rv:= .fz (.str (wd m))) (ah rfl) az rfl rfl y1) az rfl rfl y5) rfl);have cmp:jq (dm (gN 0) fw (au pY (aa 1) (au aG (aa 0) (pC (.int 0)))) (b.cs.map cF) [none,some (.fz (nd k))] [])= .ok (b.cs.map fun c=> .bool (decide (k∈c.1))):=mH cF (fun c=> .bool (decide (k∈c.1))) b.cs (by omega) rfl fun c _=>aw (rv:= .fz (.bool (decide (k∈c.1)))) (ah rfl) (aw (rv:= .fz (.tuple (aD c.1))) (ah rfl) az rfl rfl ij) rfl rfl (nk _ _);have an:=BV (fun c:List Nat×Nat=>decide (k∈c.1)) b.cs;rw[<-Ea] at an;have t2:∀{Z:bv},aM (ig (ar (au bQ (au aG (aa 4) (pC (.int 0))) (pC (.str "letter")))) (ig (ar (au bQ (aa 3) (pC (.int 0)))) (ar (eN AC (ae (dk 1 [2] (gX (au aG (aa 0) (pC (.int 2)))) (gN 0) fw (au pY (aa 1) (au aG (aa 0) (pC (.int 0))))) ao))))) [some (.fz (bD b)),some (.rf 2),some (.fz (nd k)),some (.fz (nd n)),some (.fz (mD m))] Z= .ok (m.UH&&(decide ((n:Int)=0)&& !(ck b [k]).isEmpty)) Z:=aQ (jR (aZ (aw (rv:= .fz (.bool m.UH)) (aw (rv:= .fz (.str (wd m))) (ah rfl) az rfl rfl y1) az rfl rfl y4) rfl) fun _=>jR (aZ (aw (rv:= .fz (.bool (decide ((n:Int)=0)))) (ah rfl) az rfl rfl (jG _ _)) rfl) fun _=>aZ (cG (rv:= .fz (.bool (!(ck b [k]).isEmpty))) (ds:=[.list (b.cs.map fun c=> .bool (decide (k∈c.1)))]) (aj (cX (cs:=[nd k]) (ds:=b.cs.map cF) (fZ (aw (rv:= .fz (.tuple (b.cs.map cF))) (ah rfl) az rfl rfl e2) rfl rfl) rfl cmp) aA) rfl an) rfl);have VN:∀Z4,N0 (cR p2.1 m,p2.2) t Z4->ON (D3 [some (.fz (bD b)),some (.rf 2),some (.fz (nd k)),some (.fz (nd n)),some (.fz (mD m))] Z4) (fun _ Z'=>SV.fz .none= .fz .none/\N0 (lG b (n:Int) (cR p2.1 m,p2.2) k m) t Z') (fun _ _=>False) (fun r Z'=>r= .fz .none/\N0 (lG b (n:Int) (cR p2.1 m,p2.2) k m) t Z'):=by
    intro Z4 h4;unfold D3;have us:SA b (cR p2.1 m):=t8 YF;have hA:AK (cR p2.1 m).ac:=us.ak vb;have cm:∀m',VA b.ls.length m'->∃Z5,b3 [.rf 2,.fz (nd k),.fz (mD m')] Z4= .ok (.fz .none) Z5/\N0 (dS (cR p2.1 m,p2.2) k m') t Z5:=fun m' va=>me (p:=(cR p2.1 m,p2.2)) h4 hA (by omega) va.lb (show p2.2.length<1000 by omega);cases m with
    |below=>exact absurd rfl nb
    |Qw c n'=>obtain⟨Z5,pw,Uu⟩:=n6 (i:=1) (ρ:=[some (.fz (bD b)),some (.rf 2),some (.fz (nd k)),some (.fz (nd n)),some (.fz (mD (.Qw c n')))]) (fv:=af (aW (ae (aW (ae (aa 2) ao)) (ae (pC (.int 0)) (ae (aa 4) ao))))) (w:=some ([k],0,some (c,n'))) h4 rfl (ag (d:=fE (some ([k],0,some (c,n')))) (show _=Res.ok (PV.fz (.tuple [.tuple [nd k],.int 0,mD (.Qw c n')]),_) by walk_at "ev"));exact fW t1 (ji pw ⟨rfl,Uu⟩)
    |Mr c=>
     have ebm:lG b (n:Int) (cR p2.1 (.Mr c),p2.2) k (.Mr c)=if(decide ((n:Int)=0)&& !(ck b [k]).isEmpty)=true then({cR p2.1 (.Mr c) with wt:=some ([k],0,none)},p2.2) else dS (cR p2.1 (.Mr c),p2.2) k (.Mr c):=rfl
     rw[ebm];have t2:∀{Z:bv},_=RS.ok (decide ((n:Int)=0)&& !(ck b [k]).isEmpty) Z:=fun{Z}=>t2 (Z:=Z);refine bp t1 ?_;refine tf t2 (fun q=> ?_) fun q=> ?_
     ·rw[if_pos q];obtain⟨Z5,pw,Uu⟩:=n6 (i:=1) (ρ:=[some (.fz (bD b)),some (.rf 2),some (.fz (nd k)),some (.fz (nd n)),some (.fz (mD (.Mr c)))]) (fv:=af (aW (ae (aW (ae (aa 2) ao)) (ae (pC (.int 0)) (ae (aW (ae (pC (.str "chord")) ao)) ao))))) (w:=some ([k],0,none)) h4 rfl (ag (d:=fE (some ([k],0,none))) (show _=Res.ok (PV.fz (.tuple [.tuple [nd k],.int 0,.tuple [.str "chord"]]),_) by walk_at "ev"));exact ji pw ⟨rfl,Uu⟩
     ·rw[if_neg (by rw[q];simp)];obtain⟨Z5,c1,Uu⟩:=cm (.Mr c) vm;exact bp t3 (cN (bH (xs:=[.rf 2,.fz (nd k),.fz (mD (.Mr c))]) (ai (bj rfl) (ai (ag (ah rfl)) (ai (ag (ah rfl)) aC))) rfl c1) ⟨rfl,Uu⟩)
    |Nq n'=>obtain⟨Z5,c1,Uu⟩:=cm (.Nq n') vm;exact bp t1 (bp t2 (bp t3 (cN (bH (xs:=[.rf 2,.fz (nd k),.fz (mD (.Nq n'))]) (ai (bj rfl) (ai (ag (ah rfl)) (ai (ag (ah rfl)) aC))) rfl c1) ⟨rfl,Uu⟩)))
    |none=>obtain⟨Z5,c1,Uu⟩:=cm .none trivial;exact bp t1 (bp t2 (bp t3 (cN (bH (xs:=[.rf 2,.fz (nd k),.fz (mD .none)]) (ai (bj rfl) (ai (ag (ah rfl)) (ai (ag (ah rfl)) aC))) rfl c1) ⟨rfl,Uu⟩)))
    |once n'=>obtain⟨Z5,c1,Uu⟩:=cm .none trivial;have i1:aG (mD (.once n')) (.int 1)=some (.fz (.int n')):=iE;obtain⟨Z6,po,h6⟩:=BL (i:=1) (ρ:=[some (.fz (bD b)),some (.rf 2),some (.fz (nd k)),some (.fz (nd n)),some (.fz (mD (.once n')))]) (fv:=af (au aG (aa 4) (pC (.int 1)))) (o:=some n') Uu rfl (ag (d:= .int n') (aw (rv:= .fz (.int n')) (ah rfl) az rfl rfl i1));exact bp t1 (bp t2 (fW t3 (dJ (bH (xs:=[.rf 2,.fz (nd k),.fz (mD .none)]) (ai (bj rfl) (ai (ag (ah rfl)) (ai (ag (d:=mD .none) (show _=Res.ok (PV.fz (.tuple [.str "none"]),_) by walk_at "ev")) aC))) rfl c1) (ji po ⟨rfl,h6⟩))))
   cases qi:(m.RI||m.Uj) with
   |true=>
    rw[qi] at t0;have eu:cR p2.1 m=p2.1:=by unfold cR;rw[if_pos qi]
    refine dL t0 (cK (VN Z3 ?_));rw[eu];exact h3
   |false=>
    rw[qi] at t0;have eu:cR p2.1 m={p2.1 with oc:=none}:=by unfold cR;rw[if_neg (by rw[qi];simp)]
    obtain⟨Z4,po,h4⟩:=BL (i:=1) (ρ:=[some (.fz (bD b)),some (.rf 2),some (.fz (nd k)),some (.fz (nd n)),some (.fz (mD m))]) (fv:=af (pC .none)) (o:=none) h3 rfl (ag az);refine fG t0 (jX po (VN Z4 ?_));rw[eu];exact h4
  have tb:∀{Z:bv},aM (ar (au bQ (aa 4) (aW (ae (pC (.str "below")) ao)))) [some (.fz (bD b)),some (.rf 2),some (.fz (nd k)),some (.fz (nd n)),some (.fz (mD (i4 b n k)))] Z= .ok (i4 b n k).V8 Z:=aQ (aZ (aw (rv:= .fz (.bool (i4 b n k).V8)) (ah rfl) (eX (aj az aA) rfl (Mc rfl)) rfl rfl eB) rfl);refine qO tb (fun q=> ?_) fun q=>cK (VJ _ (by rw[lk,if_neg (by rw[q];simp)]));exact cE (x:= .fz (mD (i4 b 0 k))) (Z1:=Z3) (ρ1:=[some (.fz (bD b)),some (.rf 2),some (.fz (nd k)),some (.fz (nd n)),some (.fz (mD (i4 b 0 k)))]) (ag (aw (rv:= .fz (mD (i4 b 0 k))) (aw (rv:= .fz d0) (aw (rv:= .fz (.tuple (b.ls.map cP))) (ah rfl) az rfl rfl e1) az rfl rfl x3) (ah rfl) rfl rfl x4)) rfl (VJ _ (by rw[lk,if_pos q]))
 cases qw:p.1.wt with
 |none=>
  have ed:bN b p=p:=by unfold bN;rw[qw]
  have e1:iz (fE p.1.wt) .none=some (.fz (.bool false)):=by rw[qw];rfl
  exact dL (aE (cg (fK hj rfl) (ag az) (bG e1))) (cK (rest Z1 (by rw[ed];exact hj)))
 |some x=>
  obtain⟨ks,g,w⟩:=x;have e1:iz (fE p.1.wt) .none=some (.fz (.bool true)):=by rw[qw];rfl
  obtain⟨Z2,dc,h2⟩:=jw vb hj sw.sa qw (sw.wt _ _ _ qw).1 (by omega);exact fG (aE (cg (fK hj rfl) (ag az) (bG e1))) (dJ (bH (xs:=[.fz (bD b),.rf 2]) (ai (ag (ah rfl)) (ai (bj rfl) aC)) rfl dc) (rest Z2 h2))
end
theorem sH (k:Nat):∀(qs:List (Nat×Mn)) (p:NS×Sn),(p.1.ac k).isSome=true\/k∈qs.map (·.1)->((eE p qs).1.ac k).isSome=true
 |[],p,h=>h.elim id fun z=>(by cases z)
 |q::r,p,h=>by
  refine sH k r (dS p q.1 q.2) ?_;by_cases e:k=q.1
  ·left;show(gU p.1.ac q.1 (some q.2) k).isSome=true;rw[e,dW];rfl
  ·rcases h with h|h
   ·left;show(gU p.1.ac q.1 (some q.2) k).isSome=true;rw[gx e];exact h
   ·rw[Ms,MH] at h;exact .inr (h.resolve_left e)
theorem HX:bQ (.str "down") (.str "down")=some (.fz (.bool true)):=v9 (by decide+kernel)
theorem CS:bQ (.str "down") (.str "up")=some (.fz (.bool false)):=lC (by decide+kernel) (by decide+kernel) (by decide+kernel)
theorem Ju:bQ (.str "down") (.str "turn")=some (.fz (.bool false)):=lC (by decide+kernel) (by decide+kernel) (by decide+kernel)
theorem Ij:bQ (.str "up") (.str "down")=some (.fz (.bool false)):=lC (by decide+kernel) (by decide+kernel) (by decide+kernel)
theorem Bq:bQ (.str "up") (.str "up")=some (.fz (.bool true)):=v9 (by decide+kernel)
theorem HW:bQ (.str "up") (.str "turn")=some (.fz (.bool false)):=lC (by decide+kernel) (by decide+kernel) (by decide+kernel)
theorem HJ:bQ (.str "turn") (.str "down")=some (.fz (.bool false)):=lC (by decide+kernel) (by decide+kernel) (by decide+kernel)
theorem BS:bQ (.str "turn") (.str "up")=some (.fz (.bool false)):=lC (by decide+kernel) (by decide+kernel) (by decide+kernel)
theorem Co:bQ (.str "turn") (.str "turn")=some (.fz (.bool true)):=v9 (by decide+kernel)
theorem eT {ρ:bS} {Z:bv} {i:Nat} {a w:Str} {v:Bool} (h:(b6 ρ)[i]? =some (some (.fz (.str a)))) (e:bQ (.str a) (.str w)=some (.fz (.bool v))):aM (ar (au bQ (aa i) (pC (.str w)))) ρ Z= .ok v Z:=aQ (ρ':=b6 ρ) (aZ (aw (rv:= .fz (.bool v)) (ah h) az rfl rfl e) rfl)
section
variable {b:Bd} (vb:VB b) {s:NS} {sn:Sn} {p:NS×Sn} {t i:Nat} {Z Z1 Z2:bv} {ρ:bS} {k:Nat} {a:Mn} {x y z:SV} {d dx dy:D} {ds:List D} {ks:List Nat} {g:Int} {w:Option (Nat×Int)}
theorem N0.lt (h:N0 p t Z):2<Z.length:=(Md.mp h.sp).1
theorem N0.Pl (h:N0 p t Z):N0 (p.1,[]) Z.length ((Z++[Cell.lst []]).set 2 (.Oe (cZ (oB p.1 t) (.inr "sent") (.rf Z.length)))):=by have l:=h.lt;exact⟨let⟨ps,h1,h2⟩:=h.ex;⟨ps,h1,by rw[fH (by decide)];exact ei h2⟩,by rw[nK (ei h.sp),DZ],by rw[fH (by omega)];exact aN,by omega,by omega⟩
theorem N0.Zv {j:Nat} {c:Cell} (h:N0 p t Z) (h0:j≠0) (h2:j≠2) (ht:j≠t):N0 p t (Z.set j c):=
 ⟨let⟨ps,q1,q2⟩:=h.ex;⟨ps,q1,by rw[fH h0];exact q2⟩,by rw[fH h2];exact h.sp,by rw[fH ht];exact h.sn,h.t0,h.t2⟩
include vb
theorem FK {e:Qc} (h0:N0 (s,sn) t Z) (sw:SW b s) (he:EV b e):∃Z',iM [.fz (bD b),.rf 2,.fz (dg e)] Z= .ok (.fz .none) Z'/\N0 (dj b s e) Z.length Z':=by
 have h5:=vb.n5;refine d6 (v:= .fz .none) (W:=fun Z'=>N0 (dj b s e) Z.length Z') (ρ:=[some (.fz (bD b)),some (.rf 2),some (.fz (dg e)),none,none,none]) rfl ?_;unfold iW;have h:=h0.Pl;have ps:∀ρ:bS,ρ[1]? =some (some (.rf 2))->eS (aq 1) (af (pC (.str "sent"))) (af (cY ao)) ρ Z= .ok (.nx ρ) ((Z++[Cell.lst []]).set 2 (.Oe (cZ (oB s t) (.inr "sent") (.rf Z.length)))):=fun ρ hr=>ng (k:= .inr "sent") (y:= .rf Z.length) (fm (ds:=[]) (ρ':=b6 ρ) (i9 aA rfl (MN _))) (bj hr) (ag (d:= .str "sent") az) rfl (ei h0.sp) (by show 4<1000000;decide);have h:N0 (s,[]) Z.length ((Z++[Cell.lst []]).set 2 (.Oe (cZ (oB s t) (.inr "sent") (.rf Z.length)))):=h;generalize (Z++[Cell.lst []]).set 2 (.Oe (cZ (oB s t) (.inr "sent") (.rf Z.length)))=Z1 at h ps;generalize Z.length=t1 at h;have z0:([]:Sn).length<800:=by decide
 cases e with
 |down k=>
  have hk:(k:Int)<b.n:=he;have hd:=zd (k:=k) h (by omega);refine cE (x:= .fz (dg (.down k))) (Z1:=Z) (Z2:=Z) (ρ1:=[some (.fz (bD b)),some (.rf 2),some (.fz (dg (.down k))),some (.fz (.str "down")),some (.fz (nd k)),none]) (ag (ah rfl)) rfl ?_;refine jX (ps _ rfl) ?_;have c1:g6 (aM (ar (au bQ (aa 3) (pC (.str "down"))))) (oQ (aY (cT eD 2 (am (aq 1) (am (af (aa 4)) aJ))))) [some (.fz (bD b)),some (.rf 2),some (.fz (dg (.down k))),some (.fz (.str "down")),some (.fz (nd k)),none] Z1= .ok (!((s.ac k).isSome||oS s.wt k)) Z1:=c7 (eT rfl HX) (kP (aE (bH (xs:=[.rf 2,.fz (nd k)]) (ai (bj rfl) (ai (ag (ah rfl)) aC)) rfl hd)));cases q:((s.ac k).isSome||oS s.wt k) with
  |true=>
   rw[q] at c1;have ep:dj b s (.down k)=(s,[]):=by show g8 b (s,[]) k=_;unfold g8;rw[if_pos q]
   rw[ep];exact bp c1 (bp (Z1:=Z1) (cD (eT rfl CS)) (bp (Z1:=Z1) (cD (eT rfl CS)) (bp (Z1:=Z1) (cD (eT rfl Ju)) (fy ⟨rfl,h⟩))))
  |false=>
   rw[q] at c1;rw[QF] at q;have ha:s.ac k=none:=by
    cases z:s.ac k with
    |none=>rfl
    |some x=>rw[z] at q;exact absurd q.1 (by simp)
   obtain⟨Z2,dn,h2⟩:=EJ vb (p:=(s,[])) h sw hk ha q.2 z0;exact fW c1 (cN (bH (xs:=[.fz (bD b),.rf 2,.fz (nd k)]) (ai (ag (ah rfl)) (ai (bj rfl) (ai (ag (ah rfl)) aC))) rfl dn) ⟨rfl,h2⟩)
 |up k=>
  have hk:(k:Int)<b.n:=he;have hd:=zd (k:=k) h (by omega);refine cE (x:= .fz (dg (.up k))) (Z1:=Z) (Z2:=Z) (ρ1:=[some (.fz (bD b)),some (.rf 2),some (.fz (dg (.up k))),some (.fz (.str "up")),some (.fz (nd k)),none]) (ag (ah rfl)) rfl ?_;refine jX (ps _ rfl) ?_;refine bp (Z1:=Z1) (cD (eT rfl Ij)) ?_;have c2:g6 (aM (ar (au bQ (aa 3) (pC (.str "up"))))) (aY (oW false (af (aa 4)) (bu (aq 1) (af (pC (.str "acts")))))) [some (.fz (bD b)),some (.rf 2),some (.fz (dg (.up k))),some (.fz (.str "up")),some (.fz (nd k)),none] Z1= .ok (s.ac k).isSome Z1:=by obtain⟨qs,hp,hc⟩:=h.ex;have Za:=ie hp (k:=k) (by omega);refine c7 (eT rfl Bq) (aE ((rm (k:= .inl (k:Int)) (i:=0) (x:= .fz (nd k)) (ag (ah rfl)) (kx h rfl) rfl hc).trans ?_));rw[Za];show RS.ok (SV.fz (.bool (((s.ac k).map fun a=>SV.fz (mD a)).isSome !=false))) Z1=_;cases s.ac k<;>rfl
  have c3:g6 (aM (ar (au bQ (aa 3) (pC (.str "up"))))) (aY (cT eD 2 (am (aq 1) (am (af (aa 4)) aJ)))) [some (.fz (bD b)),some (.rf 2),some (.fz (dg (.up k))),some (.fz (.str "up")),some (.fz (nd k)),none] Z1= .ok ((s.ac k).isSome||oS s.wt k) Z1:=c7 (eT rfl Bq) (aE (bH (xs:=[.rf 2,.fz (nd k)]) (ai (bj rfl) (ai (ag (ah rfl)) aC)) rfl hd));have els:dj b s (.up k)=go (if oS s.wt k=true then bU b (s,[]) k else(s,[])) k:=rfl;cases qa:s.ac k with
  |some a=>
   rw[qa] at c2;have hn:oS s.wt k=false:=by
    cases z:s.wt with
    |none=>rfl
    |some x=>obtain⟨ks,g,w⟩:=x;refine decide_eq_false fun WX=> ?_;have:=(sw.wt ks g w z).1.kf k WX;rw[qa] at this;cases this
   rw[els,if_neg (by rw[hn];simp)];obtain⟨Z2,gg,h2⟩:=GA (k:=k) (a:=a) h (sw.sa.ak vb) qa (show 0<1000 by decide);exact fW c2 (cN (bH (xs:=[.rf 2,.fz (nd k)]) (ai (bj rfl) (ai (ag (ah rfl)) aC)) rfl gg) ⟨rfl,h2⟩)
  |none=>
   rw[qa] at c2 c3;have c3:_=RS.ok (oS s.wt k) Z1:=c3;refine bp c2 ?_;cases qn:oS s.wt k with
   |false=>
    rw[qn] at c3;rw[els,if_neg (by rw[qn];simp)];have eg:go (s,[]) k=(s,[]):=by unfold go;rw[show(s,([]:Sn)).1.ac k=none from qa]
    rw[eg];exact bp c3 (bp (Z1:=Z1) (cD (eT rfl HW)) (fy ⟨rfl,h⟩))
   |true=>
    rw[qn] at c3;rw[els,if_pos qn];refine fW c3 ?_;cases qw:s.wt with
    |none=>rw[qw] at qn;cases qn
    |some x=>
     obtain⟨ks,g,w⟩:=x;have v:=(sw.wt ks g w qw).1;have WG:k∈ks:=by rw[qw] at qn;exact of_decide_eq_true qn
     have e2:aG (fE (s,([]:Sn)).1.wt) (.int 2)=some (.fz (iB w)):=by rw[show(s,([]:Sn)).1.wt=_ from qw];exact ld
     refine cE (x:= .fz (iB w)) (Z1:=Z1) (Z2:=Z1) (ρ1:=[some (.fz (bD b)),some (.rf 2),some (.fz (dg (.up k))),some (.fz (.str "up")),some (.fz (nd k)),some (.fz (iB w))]) (cW (fK h rfl) (ag az) e2) rfl ?_;have fin:∀(p:NS×Sn) (Z2:bv),N0 p t1 Z2->SA b p.1->p.2.length<1000->(p.1.ac k).isSome=true->ON (bx (cT im 2 (am (aq 1) (am (af (aa 4)) aJ))) [some (.fz (bD b)),some (.rf 2),some (.fz (dg (.up k))),some (.fz (.str "up")),some (.fz (nd k)),some (.fz (iB w))] Z2) (fun _ Z'=>SV.fz .none= .fz .none/\N0 (go p k) t1 Z') (fun _ _=>False) (fun r Z'=>r= .fz .none/\N0 (go p k) t1 Z'):=fun p Z2 h2 sa2 Si Q1=>by obtain⟨a,ha⟩:=PX.mp Q1;obtain⟨Z3,gg,h3⟩:=GA (k:=k) (a:=a) h2 (sa2.ak vb) ha Si;exact cN (bH (xs:=[.rf 2,.fz (nd k)]) (ai (bj rfl) (ai (ag (ah rfl)) aC)) rfl gg) ⟨rfl,h3⟩
     obtain⟨ws,w1,w2⟩:=CO w;have tp:∀{Z:bv},aM (ar (au bQ (au aG (aa 5) (pC (.int 0))) (pC (.str "tap")))) [some (.fz (bD b)),some (.rf 2),some (.fz (dg (.up k))),some (.fz (.str "up")),some (.fz (nd k)),some (.fz (iB w))] Z= .ok w.isSome Z:=aQ (aZ (aw (rv:= .fz (.bool w.isSome)) (aw (rv:= .fz (.str ws)) (ah rfl) az rfl rfl w1) az rfl rfl w2) rfl);have z:=jt vb (p:=(s,[])) (k:=k) sw qn;cases w with
     |none=>
      have es:bU b (s,[]) k=bN b (s,[]):=by unfold STP.bU;rw[show(s,([]:Sn)).1.wt=_ from qw]
      obtain⟨Z2,dc,h2⟩:=jw vb (p:=(s,[])) h sw.sa qw v (show 0<900 by decide);have hs:((bU b (s,[]) k).1.ac k).isSome=true:=by rw[es];unfold bN;rw[show(s,([]:Sn)).1.wt=_ from qw];dsimp only;refine sH k _ _ (.inr ?_);rw[List.map_fst_zip (by show ks.length<=(p9 b ks).length;rw[zS b v.Wm];exact Mh _)];exact WG
      exact dL tp (dJ (bH (xs:=[.fz (bD b),.rf 2]) (ai (ag (ah rfl)) (ai (bj rfl) aC)) rfl dc) (fin _ Z2 (by rw[es];exact h2) z.1.sa (Q8 z.2 (show 0+5<1000 by decide)) hs))
     |some cn=>
      obtain⟨c,n⟩:=cn;have es:bU b (s,[]) k=dS ({s with wt:=none},[]) k (.Mr c):=by unfold STP.bU;rw[show(s,([]:Sn)).1.wt=_ from qw]
      have hc:c<26:=(v.tp c n rfl).1;obtain⟨Z2,pw,hp⟩:=n6 (i:=1) (ρ:=[some (.fz (bD b)),some (.rf 2),some (.fz (dg (.up k))),some (.fz (.str "up")),some (.fz (nd k)),some (.fz (iB (some (c,n))))]) (fv:=af (pC .none)) (w:=none) h rfl (ag az);obtain⟨Z3,cm,h3⟩:=me (k:=k) (a:= .Mr c) hp (SA.ak vb (s:={s with wt:=none}) ⟨sw.sa.ac,sw.sa.oc⟩) (by omega) hc (show 0<1000 by decide);have i1:aG (iB (some (c,n))) (.int 1)=some (.fz (.str (dh c))):=iE;have hs:((bU b (s,[]) k).1.ac k).isSome=true:=by rw[es];show(gU s.ac k (some (.Mr c)) k).isSome=true;rw[dW];rfl
      exact fG tp (xI (jX pw (dJ (bH (xs:=[.rf 2,.fz (nd k),.fz (mD (.Mr c))]) (ai (bj rfl) (ai (ag (ah rfl)) (ai (ag (d:=mD (.Mr c)) (show _=Res.ok (PV.fz (.tuple [.str "letter",.str (dh c)]),_) by walk_at "ev")) aC))) rfl cm) (fin _ Z3 (by rw[es];exact h3) z.1.sa (Q8 z.2 (show 0+5<1000 by decide)) hs))))
 |turn=>
  refine cE (x:= .fz (dg .turn)) (Z1:=Z) (Z2:=Z) (ρ1:=[some (.fz (bD b)),some (.rf 2),some (.fz (dg .turn)),some (.fz (.str "turn")),some (.fz (.int 0)),none]) (ag (ah rfl)) rfl ?_;refine jX (ps _ rfl) ?_;refine bp (Z1:=Z1) (cD (eT rfl HJ)) (bp (Z1:=Z1) (cD (eT rfl BS)) (bp (Z1:=Z1) (cD (eT rfl BS)) ?_));have ew:dj b s .turn=gv b (s,[]):=rfl;rw[ew];cases qw:s.wt with
  |none=>
   have e1:iz (fE (s,([]:Sn)).1.wt) .none=some (.fz (.bool false)):=by rw[show(s,([]:Sn)).1.wt=_ from qw];rfl
   have e2:gv b (s,[])=(s,[]):=by unfold gv;rw[show(s,([]:Sn)).1.wt=_ from qw]
   rw[e2];exact bp (Z1:=Z1) (c7 (eT rfl Co) (aE (cg (fK h rfl) (ag az) (bG e1)))) (fy ⟨rfl,h⟩)
  |some x=>
   obtain⟨ks,g,w⟩:=x;have e1:iz (fE (s,([]:Sn)).1.wt) .none=some (.fz (.bool true)):=by rw[show(s,([]:Sn)).1.wt=_ from qw];rfl
   obtain⟨Z2,tn,h2⟩:=FM vb (p:=(s,[])) h sw qw (show 0<900 by decide);exact fW (Z1:=Z1) (c7 (eT rfl Co) (aE (cg (fK h rfl) (ag az) (bG e1)))) (cN (bH (xs:=[.fz (bD b),.rf 2]) (ai (ag (ah rfl)) (ai (bj rfl) aC)) rfl tn) ⟨rfl,h2⟩)
end
section
variable {ρ:bS} {Z Z1 Z2:bv} {x:SV} {b:Bd} {p:NS×Sn} {t:Nat}
theorem vt {F:g9} {n:Nat} {fa:lB} {xs:List SV} (ha:fa ρ Z= .ok xs Z1) (hF:sZ F n xs Z1= .ok x Z2):wP F n fa ρ Z= .ok x Z2:=by unfold wP;rw[ha,RS.bind_ok,hF];rfl
theorem Jt {f:List D->Option RV} {fa:lB} {xs:List SV} {ds:List D} {d:D} (ha:fa ρ Z= .ok xs Z1) (hs:aF (sh Z1) xs=none) (hr:aF (nr 6 Z1) xs=some ds) (h:f ds=some (.fz d)) (hd:wA d=true):Bu f fa ρ Z= .ok (.fz d) Z1:=by unfold Bu;rw[ha,RS.bind_ok];unfold EB;rw[hs];show((RS.M3 Z1 (aF (nr 6 Z1) xs)).bind fun ds Z1=>(RS.M3 Z1 (f ds)).bind fun rv Z3=>lz Z3 rv)=_;rw[hr];show((RS.M3 Z1 (f ds)).bind fun rv Z3=>lz Z3 rv)=_;rw[h];show(if wA d=true then RS.ok (SV.fz d) Z1 else RS.bad)=_;rw[if_pos hd]
theorem zG {fa fb:bK} {l:List AV} {y:AV} {i:Int} (ha:fa ρ Z= .ok (.tp l) Z1) (hb:fb ρ Z1= .ok (.fz (.int i)) Z2) (h:l7 l i=some y):L10.jk fa fb ρ Z= .ok y.sv Z2:=by unfold L10.jk;rw[ha,RS.bind_ok,hb,RS.bind_ok];show(RS.M3 Z2 ((l7 l i).map AV.sv))=_;rw[h];rfl
theorem tD {α β:Type} {f:α->Option β}:∀{xs:List α} {ys:List β},xs.length=ys.length->(∀(i:Nat) (x:α) (y:β),xs[i]? =some x->ys[i]? =some y->f x=some y)->aF f xs=some ys
 |[],[],_,_=>rfl
 |[],_::_,h,_=>by simp at h
 |_::_,[],h,_=>by simp at h
 |x::r,y::t,h,hs=>by unfold aF;rw[hs 0 x y rfl rfl,tD (by simpa using h) fun i x y h1 h2=>hs (i+1) x y (by simpa using h1) (by simpa using h2)]
theorem CP (n:Nat) {i:Nat} {ds:List D} (h:Z[i]? =some (.lst (ds.map .fz))):nr (n+1) Z (.rf i)=some (.list ds):=by
 unfold nr;rw[h];dsimp only;rw[tD (ys:=ds) (by rw[L7])]
 ·rfl
 ·intro i x y h1 h2;rw[Ml,h2] at h1;cases Mw h1;cases n<;>rfl
theorem rN {f:Nat} {sn:List D} {st:D} (h:Z[f]? =some (.lst (sn.map .fz))):nr 6 Z (.tp [.rf f,.fz st])=some (.tuple [.list sn,st]):=by show(aF (fun x:AV=>nr 5 Z x.sv) [AV.rf f,AV.fz st]).map Mb.tuple=_;unfold aF;rw[show nr 5 Z (AV.rf f).sv=_ from CP 4 h];rfl
theorem BI (h:N0 p t Z) (h3:ρ[3]? =some (some (.rf 2))) (hρ:gP 1 [3] ρ=[none,some (.rf 2)]):Bu iG (am (ni 1 [3] (jU (mP (bu (aq 3) (af (pC (.str "acts")))))) (fO 0) lD (jZ (am (af (aa 0)) (am (bu (bu (aq 1) (af (pC (.str "acts")))) (af (aa 0))) aJ)))) aJ) ρ Z= .ok (.fz (.tuple ((ez p.1.ac).map pD))) (Z++[.dead]++[.lst (((ez p.1.ac).map pD).map .fz)]):=by
 obtain⟨ps,hp,hc⟩:=h.ex;have hl5:=rJ hp;have fi:jU (mP (bu (aq 3) (af (pC (.str "acts"))))) ρ Z= .ok ((ez p.1.ac).map fun q=>nd q.1) (Z++[.dead]):=by
  refine(xN (ds:=(ez p.1.ac).map fun q=>nd q.1) (yY (kx h h3) hc (vD hp) (by rw[L7];omega)) ?_).trans ?_
  ·rw[vE hp];refine aN.trans ?_;rw[MV,MV];rfl
  ·rw[gQ]
 have h':=h.app [Cell.dead];have SH:(Z++[Cell.dead])[0]? =some (.Oe (ps.map iC)):=ei hc;have cv:bW (fO 0) lD (jZ (am (af (aa 0)) (am (bu (bu (aq 1) (af (pC (.str "acts")))) (af (aa 0))) aJ))) ((ez p.1.ac).map fun q=>nd q.1) (gP 1 [3] ρ) (Z++[.dead]) []= .ok (((ez p.1.ac).map pD).map .fz) (Z++[.dead]):=by rw[hρ];refine(kL (fun q:Nat×Mn=>nd q.1) (fun q=> .fz (pD q)) _ (fun ρ=>∃o,ρ=[o,some (.rf 2)]) (ez p.1.ac) _ [] ⟨none,rfl⟩ (by have:=pi p.1.ac;rw[NH];omega) ?_).trans (by rw[MV];rfl);rintro q hq ρ ⟨o,rfl⟩;have hm:=jF.mp hq;refine⟨[some (.fz (nd q.1)),some (.rf 2)],rfl,rfl,?_,_,rfl⟩;exact nJ (ds:=[nd q.1,mD q.2]) (ai (ag (ah rfl)) (ai (kY (i:=0) (kvs:=ps.map iC) (kx h' rfl) (ag (d:=nd q.1) (ah rfl)) rfl SH (by rw[ie hp hm.1,hm.2];rfl)) aC)) (Mc rfl)
 exact Bh (ds:=[.list ((ez p.1.ac).map pD)]) (ai (tU fi cv) aC) (jI (gq (ds:=(ez p.1.ac).map pD) aN)) rfl
theorem Gr (s:NS):Mb.depth (eW s)<=4:=by
 have d0:∀m:Mn,Mb.depth (mD m)<=1:=fun m=>by cases m<;>exact Mc rfl
 have d1:Mb.depthAll ((ez s.ac).map pD)<=2:=jM fun q _=>by show max 0 (max (Mb.depth (mD q.2)) 0)+1<=2;have:=d0 q.2;omega
 have d2:Mb.depth (fE s.wt)<=2:=by
  cases s.wt with
  |none=>exact MN _
  |some x=>
   obtain⟨ks,g,w⟩:=x;show max (Mb.depthAll (aD ks)+1) (max 0 (max (Mb.depth (iB w)) 0))+1<=2;rw[jQ];cases w with
   |none=>exact Mc rfl
   |some cn=>exact Mc rfl
 have d3:Mb.depth (lm s.oc)=0:=by cases s.oc<;>rfl
 show max (Mb.depthAll ((ez s.ac).map pD)+1) (max (Mb.depth (fE s.wt)) (max (Mb.depth (lm s.oc)) 0))+1<=4;omega
theorem two_ok {b:Bd} {s:NS} {sn:Sn} (sw:SW b s) (hs:Pz sn):ju (.tuple [.list (sn.map i7),eW s])=true:=by
 refine DM ?_ ?_
 ·show(Mb.canLay0 (.list (sn.map i7))&&(Mb.canLay0 (eW s)&&true))=true;rw[u8 (Cu hs),u8 (BT sw)];rfl
 ·show max (Mb.depthAll (sn.map i7)+1) (max (Mb.depth (eW s)) 0)+1<=64;have:=jM (f:=i7) (l:=sn) fun q _=>yG q;have:=Gr s;omega
end
section
variable {b:Bd} (vb:VB b) {s:NS} {p:NS×Sn} {k:Nat}
theorem Ce:(go p k).2.length<=p.2.length+1:=by
 unfold go;split
 ·rename_i a q
  rw[Mg];have:(AY (gU p.1.ac k none) a).length<=1:=by
   cases a with
   |Mr c=>show(if gY (gU p.1.ac k none) (.Mr c)=true then[] else[(c,false)]:Sn).length<=1;split<;>exact Mc rfl
   |_=>exact MN _
  omega
 ·omega
theorem Fy:(vX b p k).2.length<=p.2.length+1:=by
 have eb:vX b p k=lG b (ii p.1.ac p.1.oc) (cR p.1 (look b (ii p.1.ac p.1.oc) k),p.2) k (look b (ii p.1.ac p.1.oc) k):=rfl;rw[eb];generalize look b (ii p.1.ac p.1.oc) k=m;generalize ii p.1.ac p.1.oc=L;have cm:∀m',(dS (cR p.1 m,p.2) k m').2.length<=p.2.length+1:=fun m'=>mQ (p:=(cR p.1 m,p.2));cases m with
 |Qw c n=>exact QO _
 |Mr c=>
  show(if(decide (L=0)&& !(ck b [k]).isEmpty)=true then({cR p.1 (.Mr c) with wt:=some ([k],0,none)},p.2) else dS (cR p.1 (.Mr c),p.2) k (.Mr c)).2.length<=_;split
  ·exact QO _
  ·exact cm _
 |once n=>exact cm .none
 |Nq n=>exact cm _
 |none=>exact cm _
 |below=>exact cm _
include vb
theorem B5 {e:Qc} (sw:SW b s) (he:EV b e):(dj b s e).2.length<=100:=by
 have d:=fx vb (p:=(s,[])) sw.sa (SW.wd vb sw);have d3:(bN b (s,[])).2.length<=5:=d.2.2.1;cases e with
 |turn=>
  show(gv b (s,[])).2.length<=100;unfold gv;split
  ·exact MN _
  ·rename_i ks g w q
   have v:=(sw.wt ks g w q).1;split
   ·have:=(fx vb (p:=({s with wt:=some (ks,g+1,w)},[])) ⟨sw.sa.ac,sw.sa.oc⟩ fun _ _ _ e=>by cases e;exact⟨v.ne,v.nd,v.kn,v.kf,by have:=v.g0;omega,v.tp,v.ch⟩).2.2.1;exact MQ this (show 0+5<=100 by decide)
   ·exact MN _
 |up k=>
  show(sd b (s,[]) k).2.length<=100;unfold sd;split
  ·rename_i q;have z:=(jt vb (p:=(s,[])) sw q).2;have z:(STP.bU b (s,[]) k).2.length<=5:=z;have:=Ce (p:=STP.bU b (s,[]) k) (k:=k);omega
  ·exact MQ Ce (show 0+1<=100 by decide)
 |down k=>
  show(g8 b (s,[]) k).2.length<=100;unfold g8;split
  ·exact MN _
  ·rename_i q
   rw[Qr,not_or] at q;have ha:s.ac k=none:=by
    cases z:s.ac k with
    |none=>rfl
    |some x=>exact absurd (show(s.ac k).isSome=true by rw[z];rfl) q.1
   have hn:oS s.wt k=false:=by
    cases z:oS s.wt k with
    |false=>rfl
    |true=>exact absurd z q.2
   split
   ·rename_i qm
    obtain⟨ks,g,e1,e2,e3,e4⟩:=ro vb (p:=(s,[])) sw he ha hn qm;have e1:s.wt=some (ks,g,none):=e1;unfold j0;dsimp only;rw[e1];dsimp only;split
    ·have:=(fx vb (p:=({s with wt:=some (ks++[k],g,none)},[])) ⟨sw.sa.ac,sw.sa.oc⟩ fun _ _ _ e=>by cases e;exact e3).2.2.1;exact MQ this (show 0+5<=100 by decide)
    ·exact MN _
   ·have:=Fy (b:=b) (p:=bN b (s,[])) (k:=k);omega
end
noncomputable abbrev EL (ns:List Int) (b:Bd) (es:List Qc) (s:NS) (o5 o6 o7:Option SV):bS:=[some (.fz (.list (ns.map .int))),some (.fz (bD b)),some (.fz (.list (es.map dg))),some (.rf 2),some (.fz (eW s)),o5,o6,o7]
theorem pz {kvs:List (bt×SV)} {k:bt} {x:SV} (h:e9 kvs k=none):cZ kvs k x=kvs++[(k,x)]:=by
 unfold cZ;rw[if_neg];intro z;obtain⟨kv,h1,h2⟩:=N2.mp z;unfold e9 at h;cases q:kvs.find? fun kv=>decide (kv.1=k) with
 |some y=>rw[q] at h;cases h
 |none=>exact absurd h2 (Ud.mp q kv h1)
theorem JS:gm [] [(.inr "acts",.rf 0),(.inr "waiting",.fz .none),(.inr "once",.fz .none),(.inr "sent",.rf 1)]=oB lX 1:=by show cZ (cZ (cZ (cZ [] (.inr "acts") (.rf 0)) (.inr "waiting") (.fz .none)) (.inr "once") (.fz .none)) (.inr "sent") (.rf 1)=_;rw[pz (kvs:=[]) rfl,Od,pz ((fA (x:= "acts") (y:= "waiting") (by decide+kernel)).trans rfl),Qf,Od,pz ((fA (x:= "acts") (y:= "once") (by decide+kernel)).trans ((fA (x:= "waiting") (y:= "once") (by decide+kernel)).trans rfl)),Qf,Qf,Od,pz ((fA (x:= "acts") (y:= "sent") (by decide+kernel)).trans ((fA (x:= "waiting") (y:= "sent") (by decide+kernel)).trans ((fA (x:= "once") (y:= "sent") (by decide+kernel)).trans rfl)))];rfl
theorem main (ns:List Int) (SU:ns.length<=63):L10.Kb F_law [.list (ns.map .int)]= .ok (.fz (.bool true)):=by
 obtain⟨b,es,vb,hes,he,eg⟩:=C3 ns SU;have key:∃x Z',F_law [.fz (.list (ns.map .int))] []= .ok x Z'/\x= .fz (.bool true):=by
  refine Dm (T:=fun x _=>x= .fz (.bool true)) (ρ:=[some (.fz (.list (ns.map .int))),none,none,none,none,none,none,none]) rfl ?_;unfold Cc;refine cE (x:= .fz (.tuple [bD b,.list (es.map dg)])) (Z1:=[]) (Z2:=[]) (ρ1:=[some (.fz (.list (ns.map .int))),some (.fz (bD b)),some (.fz (.list (es.map dg))),none,none,none,none,none]) (ag (fJ (rv:= .fz (.tuple [bD b,.list (es.map dg)])) (ds:=[.list (ns.map .int)]) (aj (ah rfl) aA) rfl rfl eg)) rfl ?_;refine cE (x:= .rf 2) (Z1:=[.Oe [],.lst [],.Oe (oB lX 1)]) (Z2:=[.Oe [],.lst [],.Oe (oB lX 1)]) (ρ1:=[some (.fz (.list (ns.map .int))),some (.fz (bD b)),some (.fz (.list (es.map dg))),some (.rf 2),none,none,none,none]) ((Fn (Z1:=[.Oe [],.lst []]) (mi (k:= .inr "acts") (y:= .rf 0) (Z2:=[.Oe []]) (ag (d:= .str "acts") az) rfl rfl (mi (k:= .inr "waiting") (y:= .fz .none) (ag (d:= .str "waiting") az) rfl (ag az) (mi (k:= .inr "once") (y:= .fz .none) (ag (d:= .str "once") az) rfl (ag az) (mi (k:= .inr "sent") (y:= .rf 1) (Z2:=[.Oe [],.lst []]) (ag (d:= .str "sent") az) rfl (fm (ds:=[]) (by walk_at "ev")) FC)))) (by decide)).trans (by rw[JS];rfl)) rfl ?_;refine cE (x:= .fz (eW lX)) (Z1:=[.Oe [],.lst [],.Oe (oB lX 1)]) (Z2:=[.Oe [],.lst [],.Oe (oB lX 1)]) (ρ1:=EL ns b es lX none none none) (ag (d:=eW lX) (show _=Res.ok (PV.fz (.tuple [.tuple [],.none,.none]),_) by walk_at "ev")) rfl ?_;refine lU (Bk (fun i ρ Z=>∃(sn:Sn) (t:Nat) (o5 o6 o7:Option SV),N0 ((qu b lX (es.take i)).1,sn) t Z/\ρ=EL ns b es (qu b lX (es.take i)).1 o5 o6 o7) (ds:=es.map dg) (Z1:=[.Oe [],.lst [],.Oe (oB lX 1)]) (qY (fZ (ah rfl) rfl rfl)) ⟨[],1,none,none,none,⟨⟨[],ab1,rfl⟩,rfl,rfl,by decide,by decide⟩,rfl⟩ ?_ ?_)
  ·rintro i d ρ Z hi ⟨sn0,t0,o5,o6,o7,h0,rfl⟩
   rw[Ml] at hi;cases q:es[i]? with
   |none=>rw[q] at hi;cases hi
   |some e=>
    rw[q] at hi;cases Mw hi;have V0:=he e (Nb q);have WU:SW b (qu b lX (es.take i)).1:=zB vb _ (Gf b) fun e h=>he e (TB h);obtain⟨n1,_⟩:=zt b es lX i e q;rw[n1];have XN:=zP vb WU V0;have YR:=F8 vb WU V0;obtain⟨Z1,st,h1⟩:=FK vb h0 WU V0;have sc:=fun Z:bv=>JU vb (Z:=Z) WU V0;generalize Z.length=t at h1;clear n1;generalize (qu b lX (es.take i)).1=s at st sc WU XN YR h1 h0⊢;generalize hp:dj b s e=p at sc XN YR h1⊢;refine⟨EL ns b es s (some (.fz (dg e))) o6 o7,Z,rfl,?_⟩;refine dJ (bH (xs:=[.fz (bD b),.rf 2,.fz (dg e)]) (ai (ag (ah rfl)) (ai (bj rfl) (ai (ag (ah rfl)) aC))) rfl st) ?_;obtain⟨f,hf⟩:∃f,f=Z1.length:=⟨_,rfl⟩;have lt1:=h1.lt;have ltt:t<Z1.length:=(Md.mp h1.sn).1;have c0:=sc Z1;rw[<-hf] at c0;have Si:(Z1++[Cell.lst ((p.2.map i7).map .fz)])[f]? =some (.lst ((p.2.map i7).map .fz)):=by rw[hf];exact aN
    have h2:=h1.app [Cell.lst ((p.2.map i7).map .fz)];refine cE (x:= .tp [.rf f,.fz (eW p.1)]) (Z1:=Z1++[Cell.lst ((p.2.map i7).map .fz)]) (ρ1:=EL ns b es s (some (.fz (dg e))) (some (.tp [.rf f,.fz (eW p.1)])) o7) (vt (xs:=[.fz (bD b),.fz (eW s),.fz (dg e)]) (ai (ag (ah rfl)) (ai (ag (ah rfl)) (ai (ag (ah rfl)) aC))) c0) rfl ?_;have f0:f≠0:=by omega
    have f2:f≠2:=by omega
    have ft:f≠t:=by omega
    clear c0 hf st;generalize Z1++[Cell.lst ((p.2.map i7).map .fz)]=Z2 at Si h2;have nn:=uN (Cu YR);have i0:∀{Z:bv} {o:Option SV},L10.jk (aq 6) (af (pC (.int 0))) (EL ns b es s (some (.fz (dg e))) (some (.tp [.rf f,.fz (eW p.1)])) o) Z= .ok (.rf f) Z:=fun{Z o}=>zG (l:=[.rf f,.fz (eW p.1)]) (y:= .rf f) (i:=0) (bj rfl) (ag az) rfl;have i1:∀{Z:bv} {o:Option SV},L10.jk (aq 6) (af (pC (.int 1))) (EL ns b es s (some (.fz (dg e))) (some (.tp [.rf f,.fz (eW p.1)])) o) Z= .ok (.fz (eW p.1)) Z:=fun{Z o}=>zG (l:=[.rf f,.fz (eW p.1)]) (y:= .fz (eW p.1)) (i:=1) (bj rfl) (ag az) rfl;have Zn:nr 6 Z2 (.tp [.rf f,.fz (eW p.1)])=some (.tuple [.list (p.2.map i7),eW p.1]):=rN Si;have ln2:dN [.tuple [.list (p.2.map i7),eW p.1]]=some (.fz (.int 2)):=rfl;have ne2:oN (.int 2) (.int 2)=some (.fz (.bool false)):=nh 2 2;refine dL (Z1:=Z2) (dU (kP (b:=true) (aE (BG (n:= "tuple") (t:= "tuple") (bj rfl) Zn rfl))) (dU (aE (cg (x:= .fz (.int 2)) (Jt (xs:=[.tp [.rf f,.fz (eW p.1)]]) (ai (bj rfl) aC) rfl (jI Zn) ln2 rfl) (ag az) (bG ne2))) (aE (cg (x:= .rf f) (y:= .rf t) i0 (u9 h2 rfl) (re (gq Si) (gq h2.sn) nn))))) (cK ?_);have ac:=BI (ρ:=EL ns b es s (some (.fz (dg e))) (some (.tp [.rf f,.fz (eW p.1)])) o7) h2 rfl rfl;refine cE (x:= .fz (.tuple ((ez p.1.ac).map pD))) (ρ1:=EL ns b es s (some (.fz (dg e))) (some (.tp [.rf f,.fz (eW p.1)])) (some (.fz (.tuple ((ez p.1.ac).map pD))))) ac rfl ?_;have h3:=(h2.app [Cell.dead]).app [Cell.lst (((ez p.1.ac).map pD).map .fz)];have hl3:(Z2++[Cell.dead]++[Cell.lst (((ez p.1.ac).map pD).map .fz)])[f]? =some (.lst ((p.2.map i7).map .fz)):=ei (ei Si);clear ac Zn;generalize Z2++[Cell.dead]++[Cell.lst (((ez p.1.ac).map pD).map .fz)]=Z3 at h3 hl3;have ns':=uN (BT XN);refine dL (Z1:=Z3) (dU (kP (b:=true) (aE (BG (n:= "list") (t:= "list") i0 (CP 5 hl3) rfl))) (aE (cg (x:= .fz (eW p.1)) (y:= .fz (eW p.1)) i1 (nJ (ds:=[.tuple ((ez p.1.ac).map pD),fE p.1.wt,lm p.1.oc]) (ai (ag (ah rfl)) (ai (fK h3 rfl) (ai (tI h3 rfl) aC))) (Mc rfl)) (bG ns')))) (cK ?_);obtain⟨Z4,ly,h4,hl4⟩:∃Z4,ce [.rf 2] Z3= .ok (.fz (.int (ii p.1.ac p.1.oc))) Z4/\N0 p t Z4/\Z4[f]? =some (.lst ((p.2.map i7).map .fz)):=by obtain⟨Z4,y1,K,rfl⟩:=zr vb h3 XN.sa;exact⟨_,y1,h3.app K,ei hl3⟩
    have lo:=p8 p.1;have nl:oN (.int (ii p.1.ac p.1.oc)) (.int (ii p.1.ac p.1.oc))=some (.fz (.bool false)):=(nh _ _).trans (by rw[decide_eq_true rfl];rfl);refine dL (Z1:=Z4) (aE (cg (x:= .fz (.int (ii p.1.ac p.1.oc))) (tS (ds:=[eW p.1]) (ai i1 aC) rfl lo) (bH (xs:=[.rf 2]) (ai (bj rfl) aC) rfl ly) (bG nl))) (cK ?_);have sl:(p.2.map i7).length<1000000:=by rw[L7];have:=B5 vb WU V0;rw[hp] at this;omega
    refine dJ (x:= .fz .none) (uu (i:=f) (x:= .fz .none) i0 hl4 (ag az) hl4 (by rw[L7];exact sl)) ?_;have h5:=h4.Zv (j:=f) (c:= .lst ((p.2.map i7).map .fz++[.fz .none])) f0 f2 ft;generalize Z4.set f (.lst ((p.2.map i7).map .fz++[.fz .none]))=Z5 at h5;have c5:=sc Z5;have h6:=h5.app [Cell.lst ((p.2.map i7).map .fz)];have TM:(Z5++[Cell.lst ((p.2.map i7).map .fz)])[Z5.length]? =some (.lst ((p.2.map i7).map .fz)):=aN;generalize Z5++[Cell.lst ((p.2.map i7).map .fz)]=Z6 at c5 h6 TM;refine dL (Z1:=Z6) (aE (cg (x:= .tp [.rf Z5.length,.fz (eW p.1)]) (y:= .tp [.rf t,.fz (eW p.1)]) (vt (xs:=[.fz (bD b),.fz (eW s),.fz (dg e)]) (ai (ag (ah rfl)) (ai (ag (ah rfl)) (ai (ag (ah rfl)) aC))) c5) (G9 (xs:=[.rf t,.fz (eW p.1)]) (ai (u9 h6 rfl) (ai i1 aC)) (Mc rfl) rfl rfl) (Hu (.inl rfl) (rN TM) (rN h6.sn) (uN (two_ok XN YR)) rfl))) (cK ?_);exact DR (x:= .fz (eW p.1)) (ρ1:=EL ns b es p.1 (some (.fz (dg e))) (some (.tp [.rf f,.fz (eW p.1)])) (some (.fz (.tuple ((ez p.1.ac).map pD))))) i1 rfl ⟨p.2,t,_,_,_,h6,rfl⟩
  ·rintro ρ Z ⟨sn0,t0,o5,o6,o7,h0,rfl⟩;exact nH (ag az) rfl
 obtain⟨x,Z',h1,rfl⟩:=key;unfold L10.Kb;rw[show([Mb.list (ns.map .int)].map SV.fz)=[.fz (.list (ns.map .int))] from rfl,h1]
end K35
local macro_rules| `(tactic|walk_at "sc")=> `(tactic|exact⟨rfl,rfl,rfl,by decide+kernel,rfl,by decide+kernel,by decide+kernel⟩)
local macro_rules| `(tactic|walk_at "me")=> `(tactic|first
 |exact .head _
 |(apply List.Mem.tail;walk_at "me"))
local macro_rules| `(tactic|walk_at "cm")=> `(tactic|first
 |with_reducible exact L3.gC
 |with_reducible exact L3.IA
 |with_reducible exact L3.C7
 |with_reducible exact L3.Jm
 |with_reducible exact L3.qZ
 |with_reducible exact L3.Ia
 |with_reducible exact L3.lY
 |with_reducible exact L3.uc
 |with_reducible exact L3.F6
 |with_reducible exact L3.tQ)
local macro_rules| `(tactic|walk_at "sp")=> `(tactic|first
 |walk_at "cm"
 |with_reducible exact L3.cj
 |with_reducible exact L3.mh
 |with_reducible exact L3.FJ
 |with_reducible exact L3.El
 |with_reducible exact L3.pZ
 |with_reducible exact L3.EN
 |with_reducible exact L3.E7
 |with_reducible exact L3.zF
 |with_reducible exact L3.zR
 |with_reducible exact L3.EK
 |with_reducible exact L3.iu
 |with_reducible exact L3.jp
 |with_reducible exact L3.yW
 |with_reducible exact L3.sY
 |with_reducible exact L3.C1
 |with_reducible exact L3.Ds
 |with_reducible exact L3.Fh
 |with_reducible exact L3.Ho
 |with_reducible exact L3.Js
 |with_reducible exact L3.yu
 |with_reducible exact L3.Gi
 |with_reducible exact L9.rM
 |with_reducible exact L10.yr)
local macro_rules| `(tactic|walk_at "eo")=> `(tactic|first
 |with_reducible exact L3.ay
 |with_reducible exact L3.a8
 |(with_reducible apply L3.bh);(·walk_at "sp");(·walk_at "eo");(·walk_at "eo")
 |with_reducible exact L3.d9
 |(with_reducible apply L3.rB);(·walk_at "ao")
 |(with_reducible apply L3.gl);(·walk_at "sp");(·walk_at "ao")
 |(with_reducible apply L3.Jh);(·walk_at "ao")
 |(with_reducible apply L3.nv);(·walk_at "ao")
 |(with_reducible apply L3.Ck);(·walk_at "eo")
 |with_reducible exact L3.lS
 |with_reducible exact L3.A7
 |(with_reducible apply L3.GV);(·walk_at "tt");(·walk_at "eo");(·walk_at "eo")
 |(with_reducible apply L3.Kf);(·walk_at "sp");(·walk_at "eo");(·walk_at "oo");(·walk_at "oo")
 |(with_reducible apply L3.vT);(·walk_at "sp");(·walk_at "sp");(·walk_at "eo");(·walk_at "eo");(·walk_at "eo")
 |(with_reducible apply L3.C8);(·assumption))
local macro_rules| `(tactic|walk_at "ao")=> `(tactic|first
 |(with_reducible apply L3.aV);(·walk_at "eo");(·walk_at "ao")
 |with_reducible exact L3.bM)
local macro_rules| `(tactic|walk_at "tt")=> `(tactic|first
 |(with_reducible apply L3.bO);(with_reducible apply L3.bh);(·walk_at "cm");(·walk_at "eo");(·walk_at "eo")
 |(with_reducible apply L3.bO);(with_reducible apply L3.vT);(·walk_at "cm");(·walk_at "cm");(·walk_at "eo");(·walk_at "eo");(·walk_at "eo")
 |(with_reducible apply L3.jL);(·walk_at "tt");(·walk_at "tt")
 |(with_reducible apply L3.Fp);(·walk_at "tt")
 |(with_reducible apply L3.Dt);(·walk_at "eo")
 |with_reducible exact L3.gf)
local macro_rules| `(tactic|walk_at "gg")=> `(tactic|first
 |with_reducible exact L3.b4
 |(with_reducible apply L3.uf);(·walk_at "gg");(·walk_at "gg")
 |with_reducible exact L3.DJ
 |(with_reducible apply L3.C2);(·walk_at "gg")
 |with_reducible exact L10.fu
 |(with_reducible apply L10.Du);(·walk_at "gg");(·walk_at "gg")
 |with_reducible exact L10.Eu
 |(with_reducible apply L10.Ef);(·walk_at "gg"))
local macro_rules| `(tactic|walk_at "io")=> `(tactic|first
 |(with_reducible apply L3.jC);(·walk_at "ao")
 |(with_reducible apply L3.gB);(·walk_at "eo")
 |(with_reducible apply L3.HD);(·walk_at "ao")
 |with_reducible exact L3.rH
 |(with_reducible apply L10.wU);(·walk_at "io")
 |(with_reducible apply L10.pJ);(·walk_at "es"))
local macro_rules| `(tactic|walk_at "oo")=> `(tactic|first
 |(with_reducible apply L3.CH);(·walk_at "eo"))
local macro_rules| `(tactic|walk_at "es")=> `(tactic|first
 |(with_reducible apply L10.aI);(·walk_at "eo")
 |with_reducible exact L10.cO
 |(with_reducible apply L10.fS);(·walk_at "es");(·walk_at "es")
 |(with_reducible apply L10.jJ);(·walk_at "sp");(·walk_at "es");(·walk_at "es")
 |(with_reducible apply L10.hJ);(·assumption);(·walk_at "me");(·walk_at "es")
 |(with_reducible apply L10.Af);(·walk_at "as")
 |(with_reducible apply L10.Aw);(·walk_at "as")
 |(with_reducible apply L10.yz);(·walk_at "as")
 |(with_reducible apply L10.Fw);(·walk_at "es");(·walk_at "es")
 |(with_reducible apply L10.pM);(·walk_at "as")
 |(with_reducible apply L10.xB);(·walk_at "es");(·walk_at "es")
 |(with_reducible apply L10.yV);(·assumption);(·walk_at "es");(·walk_at "as")
 |(with_reducible apply L10.vA);(·walk_at "es")
 |(with_reducible apply L10.qv);(·walk_at "es")
 |(with_reducible apply L10.BJ);(·walk_at "es");(·walk_at "es")
 |(with_reducible apply L10.zJ);(·walk_at "es");(·walk_at "es")
 |(with_reducible apply L10.uB);(·walk_at "sp");(·walk_at "as")
 |(with_reducible apply L10.tN);(·walk_at "es")
 |(with_reducible apply L10.Et);(·simp);(·walk_at "es")
 |(with_reducible apply L10.uQ);(·walk_at "es");(·walk_at "es")
 |(with_reducible apply L10.Cd);(·walk_at "es");(·walk_at "es")
 |(with_reducible apply L10.Ix);(·walk_at "ts");(·walk_at "es");(·walk_at "es")
 |(with_reducible apply L10.Fc);(·assumption);(·walk_at "as")
 |(with_reducible apply L10.CU);(·walk_at "es")
 |with_reducible exact L10.vG)
local macro_rules| `(tactic|walk_at "as")=> `(tactic|first
 |(with_reducible apply L10.dE);(·walk_at "es");(·walk_at "as")
 |with_reducible exact L10.hX)
local macro_rules| `(tactic|walk_at "ts")=> `(tactic|first
 |(with_reducible apply L10.ke);(with_reducible apply L10.jJ);(·walk_at "cm");(·walk_at "es");(·walk_at "es")
 |(with_reducible apply L10.kE);(·walk_at "tt")
 |(with_reducible apply L10.EG);(·walk_at "ts");(·walk_at "ts")
 |(with_reducible apply L10.HA);(·walk_at "ts");(·walk_at "ts")
 |(with_reducible apply L10.ES);(·walk_at "ts")
 |(with_reducible apply L10.Ku);(·walk_at "es"))
local macro_rules| `(tactic|walk_at "so")=> `(tactic|first
 |(with_reducible apply L3.bV);(·walk_at "so");(·walk_at "so")
 |(with_reducible apply L3.nU);(·walk_at "eo");(·walk_at "gg")
 |(with_reducible apply L3.Cm);(·walk_at "tt");(·walk_at "so");(·walk_at "so")
 |(with_reducible apply L3.j8);(·walk_at "eo")
 |(with_reducible apply L3.yn);(·walk_at "eo")
 |with_reducible exact L3.ut
 |(with_reducible apply L3.u6);(·walk_at "io");(·walk_at "gg");(·walk_at "so")
 |(with_reducible apply L10.aR);(·walk_at "so");(·walk_at "so")
 |(with_reducible apply L10.mM);(·walk_at "es");(·walk_at "gg")
 |(with_reducible apply L10.qT);(·walk_at "ts");(·walk_at "so");(·walk_at "so")
 |(with_reducible apply L10.vB);(·walk_at "es")
 |(with_reducible apply L10.iU);(·walk_at "es")
 |(with_reducible apply L10.vx);(·walk_at "es");(·walk_at "es");(·walk_at "es")
 |(with_reducible apply L10.uS);(·assumption);(·walk_at "me");(·walk_at "es");(·walk_at "es")
 |with_reducible exact L10.rp
 |(with_reducible apply L10.zA);(·walk_at "io");(·walk_at "gg");(·walk_at "so")
 |with_reducible exact L10.Bj)
local macro_rules| `(tactic|walk_at "to")=> `(tactic|first
 |exact L2.b9
 |exact L2.gz (by assumption)
 |exact L2.IZ (by assumption)
 |exact L3.lN (by assumption)
 |exact L3.um (by assumption)
 |exact L9.mZ
 |exact L3.mI
 |exact L2.IY
 |exact L2.ww
 |exact L2.Hg
 |exact L3.uD
 |exact L2.Je
 |exact L2.D6
 |exact L2.HF
 |exact L2.uK
 |exact L2.JY
 |exact L2.JQ
 |exact L2.HC
 |exact L2.Db
 |exact L2.BH
 |exact L2.eJ
 |exact L2.dY
 |exact L2.mU
 |exact L2.AF
 |exact L3.Ag
 |exact L3.AG
 |exact L2.nu
 |exact L10.og
 |exact L3.Jo
 |exact L2.D4
 |exact VZ
 |exact L2.kh
 |exact L2.kK
 |exact L2.x8
 |exact L2.Dr
 |exact L2.Kw
 |exact L2.mz
 |exact L2.Hf
 |exact L2.GC
 |exact L3.J7
 |exact L10.Jk
 |exact L2.ud
 |with_reducible exact Sf
 |with_reducible exact RX
 |with_reducible exact RY
 |with_reducible exact OM
 |with_reducible exact OC
 |with_reducible exact PR
 |exact L2.AU rfl
 |exact L3.vv rfl
 |exact L3.vW rfl
 |exact L10.pU rfl
 |exact L10.lW rfl
 |exact L10.ye rfl
 |exact L10.tz rfl
 |rfl)
local macro_rules| `(tactic|walk_at "pe")=> `(tactic|first
 |(with_reducible apply L2.pv);(·rfl);(·(first|exact Or.inl rfl|exact Or.inr (Or.inl rfl)|exact Or.inr (Or.inr rfl)));(·decide);(·decide)
 |with_reducible exact L2.a9
 |(with_reducible apply L2.cQ);(·walk_at "to");(·walk_at "pe");(·walk_at "pe");(·exact fun _ _=>rfl)
 |with_reducible exact L2.dZ
 |(with_reducible apply L2.nc);(·walk_at "to");(·walk_at "pe");(·walk_at "pe")
 |(with_reducible apply L2.ib);(·assumption);(·walk_at "pe");(·walk_at "pe");(·exact fun _ _=>rfl)
 |(with_reducible apply L2.nX);(·assumption);(·assumption);(·walk_at "pa");(·decide);(·rfl);(·decide);(·rfl);(·rfl)
 |(with_reducible apply L2.tX);(·walk_at "pa")
 |with_reducible exact L2.lI
 |(with_reducible apply L2.nZ);(·walk_at "pa")
 |(with_reducible apply L2.cI);(·walk_at "to");(·rfl);(·assumption);(·walk_at "to");(·walk_at "pa");(·decide);(·decide);(·rfl);(·rfl)
 |(with_reducible apply L2.fP);(·walk_at "to");(·rfl);(·assumption);(·walk_at "to");(·walk_at "pa");(·decide);(·decide);(·rfl);(·rfl)
 |(with_reducible apply L2.Ga);(·rfl);(·assumption);(·(first|rfl|exact⟨_,rfl⟩));(·decide)
 |with_reducible exact L2.B2
 |(with_reducible apply L2.iK);(·walk_at "to");(·walk_at "pe");(·walk_at "pe");(·(first|rfl|with_unfolding_all rfl))
 |(apply L2.jA);(·walk_at "pe");(·rfl)
 |(apply L2.G2);(·walk_at "to");(·walk_at "to");(·walk_at "to");(·walk_at "to");(·walk_at "pe");(·walk_at "pa");(·rfl);(·rfl);(·decide);(·rfl);(·rfl)
 |(with_reducible apply L2.v4);(·walk_at "pt");(·walk_at "pe");(·walk_at "pe")
 |(apply L2.xm);(·walk_at "to");(·walk_at "to");(·walk_at "to");(·walk_at "to");(·walk_at "pe");(·rfl);(·decide)
 |(with_reducible apply L2.uH);(·walk_at "pe")
 |(with_reducible apply L2.xf);(·walk_at "pe");(·walk_at "pe")
 |(with_reducible apply L2.GS);(·walk_at "pe");(·walk_at "pe")
 |(with_reducible apply L2.CC);(·walk_at "pc");(·(first|rfl|with_unfolding_all rfl))
 |(apply L2.DN);(·walk_at "to");(·walk_at "pe");(·walk_at "po");(·walk_at "po")
 |(apply L2.CB);(·walk_at "pe");(·walk_at "pe");(·exact⟨rfl,rfl,rfl,rfl⟩)
 |(with_reducible apply L2.EX);(·rfl);(·assumption);(·walk_at "to");(·(first|rfl|exact⟨_,rfl⟩));(·decide);(·decide)
 |with_reducible exact L2.wa
 |(apply L10.Ko);(·assumption);(·walk_at "to");(·assumption);(·walk_at "pe");(·walk_at "pa");(·decide);(·rfl);(·rfl);(·rfl)
 |(apply L10.Be);(·assumption);(·walk_at "to");(·assumption);(·walk_at "pe");(·decide);(·rfl)
 |(apply L10.Ka);(·assumption);(·walk_at "to");(·assumption);(·walk_at "pa");(·decide);(·rfl);(·decide);(·rfl);(·rfl)
 |(apply L10.zE);(·rfl);(·rfl);(·assumption);(·walk_at "pa");(·rfl))
local macro_rules| `(tactic|walk_at "pa")=> `(tactic|first
 |(with_reducible apply L2.aB);(·walk_at "pe");(·walk_at "pa");(·rfl)
 |with_reducible exact L2.bf)
local macro_rules| `(tactic|walk_at "pt")=> `(tactic|first
 |(with_reducible apply L2.cH);(·walk_at "to");(·walk_at "pe");(·walk_at "pe");(·(first|rfl|with_unfolding_all rfl))
 |(with_reducible apply L2.IS);(·walk_at "pt")
 |(with_reducible apply L2.Jd);(·walk_at "pc");(·(first|rfl|with_unfolding_all rfl))
 |(with_reducible apply L2.BX);(·walk_at "to");(·walk_at "to");(·walk_at "pe");(·walk_at "pe");(·walk_at "pe");(·rfl)
 |(with_reducible apply L2.PW.pt);(·walk_at "pw")
 |(with_reducible apply L2.xQ);(·walk_at "pe");(·(intro _;rfl)))
local macro_rules| `(tactic|walk_at "pw")=> `(tactic|first
 |(with_reducible apply L2.mV);(·walk_at "pt")
 |(with_reducible apply L2.lM);(·walk_at "pt");(·walk_at "pw")
 |(with_reducible apply L2.Hs);(·walk_at "pt")
 |(with_reducible apply L2.KM);(·walk_at "pt");(·walk_at "pw"))
local macro_rules| `(tactic|walk_at "pc")=> `(tactic|first
 |(with_reducible apply L2.BP);(·assumption);(·walk_at "pe");(·walk_at "pe"))
local macro_rules| `(tactic|walk_at "pg")=> `(tactic|first
 |(with_reducible apply L2.bX);(·(first|assumption|decide+kernel));(·rfl);(·(first|exact Or.inl rfl|exact Or.inr rfl|assumption|rfl));(·(first|exact Or.inl rfl|exact Or.inr rfl|assumption|rfl))
 |(with_reducible apply L2.qS);(·walk_at "pg");(·walk_at "pg");(·rfl)
 |with_reducible exact L2.zv
 |(apply L2.CQ);(·rfl);(·walk_at "pg");(·rfl);(·rfl))
local macro_rules| `(tactic|walk_at "pi")=> `(tactic|first
 |(with_reducible apply L2.gy);(·rfl);(·assumption);(·walk_at "pa");(·rfl)
 |(apply L3.HR);(·rfl);(·assumption);(·walk_at "pa");(·rfl);(·rfl)
 |(apply L3.d8);(·walk_at "pe"))
local macro_rules| `(tactic|walk_at "po")=> `(tactic|first
 |(with_reducible apply L2.Fo);(·walk_at "pe"))
local macro_rules| `(tactic|walk_at "te")=> `(tactic|first
 |(with_reducible apply L2.aX);(·walk_at "te")
 |with_reducible exact L2.mL
 |(with_reducible apply L2.ap);(·walk_at "te");(·walk_at "te")
 |(with_reducible apply L2.nM);(·(first|assumption|decide+kernel));(·rfl);(·(first|exact Or.inl rfl|exact Or.inr rfl|assumption|rfl));(·walk_at "pe");(·rfl);(·(first|exact Or.inl rfl|exact Or.inr rfl|assumption|rfl))
 |(with_reducible apply L2.ur);(·walk_at "pe");(·rfl)
 |(with_reducible apply L2.fF);(·walk_at "pe")
 |(with_reducible apply L2.qD);(·walk_at "pt");(·walk_at "te");(·walk_at "te")
 |(with_reducible apply L2.rK);(·walk_at "to");(·rfl);(·walk_at "pi");(·walk_at "pg");(·walk_at "te");(·(intro _;rfl))
 |(apply L2.x9);(·walk_at "pe");(·walk_at "pe");(·rfl)
 |(with_reducible apply L2.zn);(·assumption);(·walk_at "pe");(·walk_at "pe");(·walk_at "pe");(·rfl)
 |(with_reducible apply L2.Jq);(·walk_at "pe");(·walk_at "pg");(·rfl);(·rfl);(·rfl)
 |with_reducible exact L2.Gp)
local macro_rules| `(tactic|walk_at "ok")=> `(tactic|(intros;refine L3.AA (by walk_at "so") ?_;first|(apply L2.ap);(·walk_at "te");(·walk_at "te")|(apply L2.aX);(·walk_at "te")))
local macro_rules| `(tactic|walk_at "os")=> `(tactic|(intros;refine L3.CK (by walk_at "so") ?_;first|(apply L2.ap);(·walk_at "te");(·walk_at "te")|(apply L2.aX);(·walk_at "te")))
namespace K35
open PySem L2 L3 STP
noncomputable def top (i:Nat):Oj:=PySem.Challenge.pw_chordbed_k35_whole_step_by_step.main.body.getD i (.Pass ⟨0,0,0,0⟩)
noncomputable def fb:Oj->List Oj
 | .For _ _ b _ _=>b
 | .If _ b _ _=>b
 |_=>[]
noncomputable def av:Oj->MR
 | .Assign _ v _=>v
 |_=> .Name "" ⟨0,0,0,0⟩
noncomputable def ss:MR->MR
 | .Subscript _ v _=>v
 |e=>e
noncomputable def sP:MR->Pos
 | .Subscript _ _ p=>p
 |_=>⟨0,0,0,0⟩
noncomputable def lp:MR->Pos
 | .List _ p=>p
 |_=>⟨0,0,0,0⟩
noncomputable def iT:Oj->MR
 | .If c _ _ _=>c
 |_=> .Name "" ⟨0,0,0,0⟩
noncomputable def fI:Oj->MR
 | .For _ i _ _ _=>i
 |_=> .Name "" ⟨0,0,0,0⟩
noncomputable def iP:Oj->Pos
 | .If _ _ _ p=>p
 |_=>⟨0,0,0,0⟩
noncomputable def aP:Oj->Pos
 | .Assign _ _ p=>p
 |_=>⟨0,0,0,0⟩
noncomputable def nP:Oj->Pos
 | .Assign [.Name _ p] _ _=>p
 |_=>⟨0,0,0,0⟩
noncomputable def sv:MR->MR
 | .Subscript v _ _=>v
 |e=>e
noncomputable def le:MR->List MR
 | .List l _=>l
 |_=>[]
noncomputable def LZ:MR->Option MR
 | .Slice a _ _ _=>a
 |_=>none
noncomputable def LV:MR->Option MR
 | .Slice _ a _ _=>a
 |_=>none
noncomputable def LY:MR->Pos
 | .Slice _ _ _ p=>p
 |_=>⟨0,0,0,0⟩
noncomputable def LX:MR->List MR
 | .Tuple l _ _=>l
 |_=>[]
noncomputable def LW:Oj->MR
 | .Return (some e) _=>e
 |_=> .Name "" ⟨0,0,0,0⟩
noncomputable def rP:Oj->Pos
 | .Return _ p=>p
 |_=>⟨0,0,0,0⟩
noncomputable def bl:MR->MR
 | .BinOp a _ _ _=>a
 |e=>e
noncomputable def br:MR->MR
 | .BinOp _ _ b _=>b
 |e=>e
noncomputable def bP:MR->Pos
 | .BinOp _ _ _ p=>p
 |_=>⟨0,0,0,0⟩
noncomputable def dK:MR->List (Option MR)
 | .Dict k _ _=>k
 |_=>[]
noncomputable def dV:MR->List MR
 | .Dict _ v _=>v
 |_=>[]
noncomputable def dP:MR->Pos
 | .Dict _ _ p=>p
 |_=>⟨0,0,0,0⟩
noncomputable def DP:Oj:= .Pass ⟨0,0,0,0⟩
noncomputable def DE:MR:= .Name "" ⟨0,0,0,0⟩
theorem KQ {l p t n env}:NN (.List l p) t n env=pure false:=rfl
theorem KJ {l k p t n env}:NN (.Tuple l k p) t n env=pure false:=rfl
theorem KY {a b c p t n env}:NN (.Call a b c p) t n env=pure false:=rfl
theorem Ke {a o b p t n env}:NN (.BinOp a o b p) t n env=pure false:=rfl
theorem ET {a b p t n env}:NN (.Subscript a b p) t n env=pure false:=rfl
theorem K2 {a p t n env}:NN (.Name a p) t n env=pure false:=rfl
theorem GJ {a b p t n env}:NN (.Constant a b p) t n env=pure false:=rfl
theorem IP {o a p t n env}:NN (.UnaryOp o a p) t n env=pure false:=rfl
theorem HG {a b c p t n env}:NN (.Compare a b c p) t n env=pure false:=rfl
theorem JG {a b p t n env}:NN (.BoolOp a b p) t n env=pure false:=rfl
theorem Ky {a b c p t n env}:NN (.IfExp a b c p) t n env=pure false:=rfl
section
variable {P:My} {w:MS} {K:Bn} {mg:Str->Option L5} {base:Heap} {f:L8} {fd:Nk}
theorem wD (F:O9 K "layer_of" "layer_of" (top 3) f fd) (QG:mg "max"=none):FnOk P w K mg base dr 1 f fd ["standing"] (ou K 1 cU):=mw (N:=["standing"]) (g:=lP) F (by walk_at "sc") rfl rfl rfl fun N5 A outer s H E nd hr hu QQ hv=>CK (bV (by walk_at "so")
   (j8 (gl L10.yr (aV (et rfl rfl (gB (bh cj ay a8)) (C2 (uf b4 (uf b4 DJ))) (bO (bh gC (bh cj ay a8) d9)) (bh cj ay a8)) bM)))) (ap (by walk_at "te")
   (aX (fF (L10.zE rfl rfl QG (aB (dD ["key","act"] [] rfl (d8 (cQ b9 (pv 0) a9 (fun _ _=>rfl))) (fun _ _ _ _=>(CQ rfl (qS (bX (i:=0) (show M5 (["key","act"]:List Str) by decide+kernel) rfl (Or.inl rfl)) (qS (bX (i:=1) (show M5 (["key","act"]:List Str) by decide+kernel) rfl (Or.inl rfl)) zv)))) (fun _ _ _ _=>(gc (cH (gz hu) (cQ b9 (pv 1) a9 (fun _ _=>rfl)) dZ (dM _)))) (fun _ _ _ _=>(cQ b9 (pv 1) a9 (fun _ _=>rfl))) trivial rfl) bf)))))
theorem ul (F:O9 K "looked_up" "looked_up" (top 6) f fd):FnOk P w K mg base dr 1 f fd ["bed","layer","key"] (ou K 3 iQ):=mw (N:=["bed","layer","key","meaning"]) (g:=j7) F (by walk_at "sc") rfl rfl rfl fun N5 A outer s H E nd hr hu QQ hv=>CK (bV (by walk_at "so")
   (bV (by walk_at "so")
   (j8 ay))) (ap (by walk_at "te")
   (ap (by walk_at "te")
   (aX (fF (pv 3)))))
theorem rO (F:O9 K "chords_over" "chords_over" (top 7) f fd) (UO:mg "all"=none):FnOk P w K mg base dr 1 f fd ["bed","keys"] (ou K 2 bI):=mw (N:=["bed","keys"]) (g:=je) F (by walk_at "sc") rfl rfl rfl fun N5 A outer s H E nd hr hu QQ hv=>CK (j8 (et rfl rfl (gB (bh cj ay a8)) b4 (Dt (gl C1 (aV (et rfl rfl (gB ay) b4 gf (bh lY ay (bh cj ay a8))) bM))) ay)) (aX (fF (dD ["chord"] [("keys",1)] rfl (d8 (cQ b9 (pv 0) a9 (fun _ _=>rfl))) (fun _ _ _ _=>(bX (i:=0) (show M5 (["chord","keys"]:List Str) by decide+kernel) rfl (Or.inr rfl))) (fun _ _ _ _=>(gc (xQ (cI (vv rfl) rfl UO Hf (aB (dD ["key"] [("chord",0)] rfl (d8 (pv 1)) (fun _ _ _ _=>(bX (i:=0) (show M5 (["key","chord"]:List Str) by decide+kernel) rfl (Or.inl rfl))) (fun _ _ _ _=>eR) (fun _ _ _ _=>(iK (lN hv) (pv 0) (cQ b9 (pv 1) a9 (fun _ _=>rfl)) (by with_unfolding_all rfl))) ⟨⟨rfl,rfl,Or.inl rfl⟩,trivial⟩ rfl) bf))))) (fun _ _ _ _=>(pv 0)) ⟨⟨rfl,rfl,Or.inl rfl⟩,trivial⟩ rfl)))
theorem rZ (F:O9 K "chord_acts" "chord_acts" (top 8) f fd) (OA:mg "list"=none) (Oo:mg "sorted"=none) (N3:mg "len"=none) {Qu:L8} (Sx:mg "NONE"=some (.ref Qu)) (Sw:∀O H,DV O K H (.ref Qu) (.tuple [(.str "none")])):FnOk P w K mg base dr 1 f fd ["bed","keys"] (ou K 2 fX):=mw (N:=["bed","keys","chord"]) (g:=jH) F (by walk_at "sc") rfl rfl rfl fun N5 A outer s H E nd hr hu QQ hv=>CK (bV (by walk_at "so")
   (j8 (et rfl rfl (gB ay) b4 gf (bh cj (bh cj (bh cj ay a8) a8) ay)))) (ap (by walk_at "te")
   (aX (fF (dD ["key"] [("bed",0)] rfl (d8 (pv 1)) (fun _ _ _ _=>(bX (i:=0) (show M5 (["key","bed"]:List Str) by decide+kernel) rfl (Or.inl rfl))) (fun _ _ _ _=>eR) (fun _ _ _ _=>(cQ b9 (cQ b9 (cQ b9 (pv 1) a9 (fun _ _=>rfl)) a9 (fun _ _=>rfl)) (pv 0) (fun _ _=>rfl))) ⟨⟨rfl,rfl,Or.inl rfl⟩,trivial⟩ rfl))))
theorem tM (F:O9 K "_law_cell" "_law_cell" (top 10) f fd) (N3:mg "len"=none):FnOk P w K mg base dr 1 f fd ["_law_script","_law_k"] (ou K 2 bF):=mw (N:=["_law_script","_law_k"]) (g:=ot) F (by walk_at "sc") rfl rfl rfl fun N5 A outer s H E nd hr hu QQ hv=>CK (j8 (GV (bO (bh C7 ay (gl iu (aV ay bM)))) (bh cj ay ay) a8)) (aX (fF (v4 (cH Hg (pv 1) (cI eJ rfl N3 kh (aB (pv 0) bf)) (dM _)) (cQ b9 (pv 0) (pv 1) (fun _ _=>rfl)) a9)))
theorem uF (F:O9 K "_law_draw" "_law_draw" (top 11) f fd):FnOk P w K mg base dr 1 f fd ["_law_cell_here","_law_salt","_law_many"] (ou K 3 bq):=mw (N:=["_law_cell_here","_law_salt","_law_many","_law_number"]) (g:=kz) F (by walk_at "sc") rfl rfl rfl (by delta kz;walk_at "os")
theorem oV (F:O9 K "_law_meaning" "_law_meaning" (top 12) f fd) (NL:ir P w K mg base 1 "_law_draw" ["_law_cell_here","_law_salt","_law_many"] 3 bq) (QG:mg "max"=none):FnOk P w K mg base dr 2 f fd ["_law_cell_here","_law_layer_here","_law_layers"] (ou K 3 eO):=mw (N:=["_law_cell_here","_law_layer_here","_law_layers","_law_letter","_law_other","_law_kind"]) (g:=eP) F (by walk_at "sc") rfl rfl rfl (by delta eP;walk_at "os")
theorem qM (F:O9 K "_law_chords" "_law_chords" (top 13) f fd) (Ot:ir P w K mg base 1 "_law_cell" ["_law_script","_law_k"] 2 bF) (NL:ir P w K mg base 1 "_law_draw" ["_law_cell_here","_law_salt","_law_many"] 3 bq) (NY:mg "range"=none) (N3:mg "len"=none) (N4:mg "tuple"=none):FnOk P w K mg base dr 2 f fd ["_law_script","_law_at","_law_first"] (ou K 3 gI):=mw (N:=["_law_script","_law_at","_law_first","_law_some","_law_found","_law_k","_law_cell_here","_law_keys"]) (g:=gJ) F (by walk_at "sc") rfl rfl rfl fun N5 A outer s H E nd hr hu QQ hv=>CK (bV (nU (et rfl rfl (jC (aV (gl iu (aV ay bM)) bM)) b4 (bO (bh gC (bh cj (bh cj ay ay) a8) d9)) ay) b4)
   (bV (by walk_at "so")
   (bV (u6 (jC (aV a8 bM)) b4 (bV (by walk_at "so")
   (bV (nU (gl jp (aV (et rfl rfl (gB ay) b4 (bO (bh qZ (rB (aV (bh mh ay (bh pZ a8 ay)) (aV a8 (aV a8 bM)))) a8)) ay) bM)) b4)
   (Cm (jL (bO (bh qZ (gl iu (aV ay bM)) a8)) (jL (bO (bh qZ (rB (aV ay (aV a8 (aV a8 bM)))) a8)) (bO (bh uc ay (rQ rfl rfl rH b4 gf (bh cj ay a8)))))) (by walk_at "so") ut))))
   (by walk_at "so")))) (ap (pI (i:=3) ["_law_k"] [("_law_first",2)] nd rfl rfl rfl (gy rfl NY (aB (cI eJ rfl N3 kh (aB (pv 2) bf)) bf)) (fun _ _ _ _=>(bX (i:=0) (show M5 (["_law_k","_law_first"]:List Str) by decide+kernel) rfl (Or.inl rfl))) (fun _ _ _ _=>(gc (cH (gz hu) (cQ b9 (cQ b9 (pv 1) (pv 0) (fun _ _=>rfl)) a9 (fun _ _=>rfl)) dZ (dM _)))) (fun _ _ _ _=>(pv 0)) ⟨⟨rfl,rfl,Or.inl rfl⟩,trivial⟩ rfl)
   (ap (by walk_at "te")
   (ap (rK Sj.never rfl (gy rfl NY (aB a9 bf)) (bX (i:=5) nd rfl (Or.inl rfl)) (ap (by walk_at "te")
   (ap (nM (i:=7) nd rfl (Or.inl rfl) (fP dY rfl N4 kK (aB (dD ["_law_key"] [("_law_cell_here",6)] rfl (d8 (pv 3)) (fun _ _ _ _=>(bX (i:=0) (show M5 (["_law_key","_law_cell_here"]:List Str) by decide+kernel) rfl (Or.inl rfl))) (fun _ _ _ _=>(gc (cH ww (nX NL hr (aB (nc mI (pv 1) (nc uD a9 (pv 0))) (aB a9 (aB a9 bf)))) a9 (dM _)))) (fun _ _ _ _=>(pv 0)) ⟨⟨rfl,rfl,Or.inl rfl⟩,trivial⟩ rfl) bf)))
   (aX (qD (PW.pt (lM (cH ww (cI eJ rfl N3 kh (aB (pv 7) bf)) a9 (dM _)) (lM (cH ww (nX NL hr (aB (pv 6) (aB a9 (aB a9 bf)))) a9 (dM _)) (mV (cH (um hv) (pv 7) (dD ["_law_chord"] [] rfl (d8 (pv 4)) (fun _ _ _ _=>(bX (i:=0) (show M5 (["_law_chord"]:List Str) by decide+kernel) rfl (Or.inl rfl))) (fun _ _ _ _=>eR) (fun _ _ _ _=>(cQ b9 (pv 0) a9 (fun _ _=>rfl))) trivial rfl) (by with_unfolding_all rfl)))))) (aX (by walk_at "te")) mL)))))
   (aX (by walk_at "te")))))
theorem wq (F:O9 K "_law_bed" "_law_bed" (top 14) f fd) (Ot:ir P w K mg base 1 "_law_cell" ["_law_script","_law_k"] 2 bF) (NL:ir P w K mg base 1 "_law_draw" ["_law_cell_here","_law_salt","_law_many"] 3 bq) (Pt:ir P w K mg base 2 "_law_meaning" ["_law_cell_here","_law_layer_here","_law_layers"] 3 eO) (QH:ir P w K mg base 2 "_law_chords" ["_law_script","_law_at","_law_first"] 3 gI) (NY:mg "range"=none) (N4:mg "tuple"=none):FnOk P w K mg base dr 3 f fd ["_law_script","_law_most"] (ou K 2 jE):=mw (N:=["_law_script","_law_most","_law_cell_here","_law_keys","_law_layers","_law_rows","_law_layer_here","_law_cells"]) (g:=jD) F (by walk_at "sc") rfl rfl rfl fun N5 A outer s H E nd hr hu QQ hv=>CK (bV (by walk_at "so")
   (bV (by walk_at "so")
   (bV (by walk_at "so")
   (bV (nU (nv bM) b4)
   (bV (u6 (jC (aV ay bM)) b4 (bV (nU (et rfl rfl (jC (aV ay bM)) b4 gf (rB (aV ay (aV (bh mh (bh mh a8 (bh pZ ay ay)) ay) bM)))) b4)
   (yn (Ck (gl jp (aV (et rfl rfl (gB ay) b4 gf (rB (aV ay (aV ay (aV ay bM))))) bM))))))
   (by walk_at "so")))))) (ap (by walk_at "te")
   (ap (by walk_at "te")
   (ap (by walk_at "te")
   (ap (nM (i:=5) nd rfl (Or.inl rfl) (nZ bf))
   (ap (rK Sj.never rfl (gy rfl NY (aB (pv 4) bf)) (bX (i:=6) nd rfl (Or.inr rfl)) (ap (pI (i:=7) ["_law_key"] [("_law_script",0),("_law_keys",3),("_law_layer_here",6)] nd rfl rfl rfl (gy rfl NY (aB (pv 3) bf)) (fun _ _ _ _=>(bX (i:=0) (show M5 (["_law_key","_law_script","_law_keys","_law_layer_here"]:List Str) by decide+kernel) rfl (Or.inl rfl))) (fun _ _ _ _=>eR) (fun _ _ _ _=>(nX Ot hr (aB (pv 1) (aB (nc mI (nc mI a9 (nc uD (pv 2) (pv 3))) (pv 0)) bf)))) ⟨⟨rfl,rfl,Or.inl rfl⟩,⟨⟨rfl,rfl,Or.inl rfl⟩,⟨⟨rfl,rfl,Or.inl rfl⟩,trivial⟩⟩⟩ rfl)
   (aX (ur (G2 Sf RX RY nu (pv 5) (aB (fP dY rfl N4 kK (aB (dD ["_law_one"] [("_law_layer_here",6),("_law_layers",4)] rfl (d8 (pv 7)) (fun _ _ _ _=>(bX (i:=0) (show M5 (["_law_one","_law_layer_here","_law_layers"]:List Str) by decide+kernel) rfl (Or.inl rfl))) (fun _ _ _ _=>eR) (fun _ _ _ _=>(nX Pt hr (aB (pv 0) (aB (pv 1) (aB (pv 2) bf))))) ⟨⟨rfl,rfl,Or.inl rfl⟩,⟨⟨rfl,rfl,Or.inl rfl⟩,trivial⟩⟩ rfl) bf)) bf))))))
   (aX (by walk_at "te")))))))
theorem ky (F:O9 K "_law_read_meaning" "_law_read_meaning" (top 16) f fd) (QG:mg "max"=none):FnOk P w K mg base dr 1 f fd ["_law_number","_law_layer_here","_law_layers"] (ou K 3 dA):=mw (N:=["_law_number","_law_layer_here","_law_layers","_law_letter","_law_other"]) (g:=cM) F (by walk_at "sc") rfl rfl rfl (by delta cM;walk_at "os")
theorem nN (F:O9 K "_law_read_bed" "_law_read_bed" (top 17) f fd) (Po:ir P w K mg base 1 "_law_read_meaning" ["_law_number","_law_layer_here","_law_layers"] 3 dA) (NY:mg "range"=none) (N4:mg "tuple"=none) (N3:mg "len"=none):FnOk P w K mg base dr 2 f fd ["_law_number","_law_most_keys","_law_most_layers","_law_most_wait"] (ou K 4 fD):=mw (N:=["_law_number","_law_most_keys","_law_most_layers","_law_most_wait","_law_keys","_law_layers","_law_wait","_law_rows","_law_layer_here","_law_row","_law_key","_law_chords_here","_law_k","_law_some"]) (g:=fC) F (by walk_at "sc") rfl rfl rfl fun N5 A outer s H E nd hr hu QQ hv=>CK (bV (by walk_at "so")
   (bV (by walk_at "so")
   (bV (by walk_at "so")
   (bV (by walk_at "so")
   (bV (by walk_at "so")
   (bV (by walk_at "so")
   (bV (by walk_at "so")
   (bV (by walk_at "so")
   (bV (u6 (jC (aV a8 bM)) b4 (bV (nU (gl jp (aV (et rfl rfl (jC (aV ay bM)) b4 (jL (bO (bh gC (bh zF (bh zR ay ay) a8) a8)) (bO (bh gC (bh cj (bh cj (bh cj ay a8) ay) a8) d9))) ay) bM)) b4)
   (bV (Cm (jL (bO (bh qZ (gl iu (aV ay bM)) a8)) (bO (bh uc ay (rQ rfl rfl rH b4 gf (bh cj ay a8))))) (by walk_at "so") ut)
   (by walk_at "so"))))
   (by walk_at "so")))))))))) (ap (by walk_at "te")
   (ap (by walk_at "te")
   (ap (by walk_at "te")
   (ap (by walk_at "te")
   (ap (by walk_at "te")
   (ap (by walk_at "te")
   (ap (by walk_at "te")
   (ap (by walk_at "te")
   (ap (rK Sj.never rfl (gy rfl NY (aB a9 bf)) (bX (i:=12) nd rfl (Or.inl rfl)) (ap (nM (i:=13) nd rfl (Or.inl rfl) (fP dY rfl N4 kK (aB (dD ["_law_key"] [("_law_number",0),("_law_rows",7)] rfl (gy rfl NY (aB (pv 4) bf)) (fun _ _ _ _=>(bX (i:=0) (show M5 (["_law_key","_law_number","_law_rows"]:List Str) by decide+kernel) rfl (Or.inl rfl))) (fun _ _ _ _=>(gc (PW.pt (lM (cH (gz hu) (nc BH (nc Db (pv 1) (pv 0)) a9) a9 (dM _)) (mV (cH (gz hu) (cQ b9 (cQ b9 (cQ b9 (pv 2) a9 (fun _ _=>rfl)) (pv 0) (fun _ _=>rfl)) a9 (fun _ _=>rfl)) dZ (dM _))))))) (fun _ _ _ _=>(pv 0)) ⟨⟨rfl,rfl,Or.inl rfl⟩,⟨⟨rfl,rfl,Or.inl rfl⟩,trivial⟩⟩ rfl) bf)))
   (ap (qD (PW.pt (lM (cH ww (cI eJ rfl N3 kh (aB (pv 13) bf)) a9 (dM _)) (mV (cH (um hv) (pv 13) (dD ["_law_chord"] [] rfl (d8 (pv 11)) (fun _ _ _ _=>(bX (i:=0) (show M5 (["_law_chord"]:List Str) by decide+kernel) rfl (Or.inl rfl))) (fun _ _ _ _=>eR) (fun _ _ _ _=>(cQ b9 (pv 0) a9 (fun _ _=>rfl))) trivial rfl) (by with_unfolding_all rfl))))) (aX (by walk_at "te")) mL)
   (aX (by walk_at "te")))))
   (aX (by walk_at "te")))))))))))
theorem lg (F:O9 K "_law_read_events" "_law_read_events" (top 18) f fd) (NY:mg "range"=none):FnOk P w K mg base dr 1 f fd ["_law_number","_law_keys"] (ou K 2 cV):=mw (N:=["_law_number","_law_keys","_law_found","_law_many","_law_k","_law_pick"]) (g:=dQ) F (by walk_at "sc") rfl rfl rfl fun N5 A outer s H E nd hr hu QQ hv=>CK (bV (by walk_at "so")
   (bV (by walk_at "so")
   (bV (by walk_at "so")
   (bV (by walk_at "so")
   (j8 ay))))) (ap (by walk_at "te")
   (ap (by walk_at "te")
   (ap (by walk_at "te")
   (ap (by walk_at "te")
   (aX (fF (pv 2)))))))
theorem rl (F:O9 K "_law_events" "_law_events" (top 15) f fd) (NL:ir P w K mg base 1 "_law_draw" ["_law_cell_here","_law_salt","_law_many"] 3 bq):FnOk P w K mg base dr 2 f fd ["_law_script","_law_at","_law_keys"] (ou K 3 fq):=mw (N:=["_law_script","_law_at","_law_keys","_law_found","_law_cell_here","_law_pick"]) (g:=gF) F (by walk_at "sc") rfl rfl rfl fun N5 A outer s H E nd hr hu QQ hv=>CK (bV (by walk_at "so")
   (bV (by walk_at "so")
   (j8 ay))) (ap (by walk_at "te")
   (ap (by walk_at "te")
   (aX (fF (pv 3)))))
theorem sj (F:O9 K "_law_given" "_law_given" (top 19) f fd) (RL:ir P w K mg base 3 "_law_bed" ["_law_script","_law_most"] 2 jE) (Ot:ir P w K mg base 1 "_law_cell" ["_law_script","_law_k"] 2 bF) (Qh:ir P w K mg base 2 "_law_read_bed" ["_law_number","_law_most_keys","_law_most_layers","_law_most_wait"] 4 fD) (Pu:ir P w K mg base 1 "_law_read_events" ["_law_number","_law_keys"] 2 cV) (QL:ir P w K mg base 2 "_law_events" ["_law_script","_law_at","_law_keys"] 3 fq) (VF:mg "abs"=none):FnOk P w K mg base dr 4 f fd ["_law_script"] (ou K 1 ic):=mw (N:=["_law_script","_law_bed_here"]) (g:=fV) F (by walk_at "sc") rfl rfl rfl (by delta fV;walk_at "os")
end
end K35
namespace K35
open PySem L2 L3 L10 STP
section
variable {P:My} {w:MS} {K:Bn} {mg:Str->Option L5} {base:Heap} {f:L8} {fd:Nk}
theorem nG (F:O9 K "__init__" "Hand.__init__" (bE (top 5) 0) f fd) (MX:jh K "Hand" ["bed","acts","waiting","once","sent"]) (UA:mg "dict"=none):FnOk P w K mg base dr 3 f fd ["self","bed","standing"] (fR K 3 dX):=gR (N:=["self","bed","standing"]) (g:=jV) F (by walk_at "sc") rfl rfl rfl fun N5 A outer s H E nd hr hu QQ hv=>AA (aR (uS MX (.head _) cO (aI ay))
   (aR (by walk_at "so")
   (aR (by walk_at "so")
   (aR (by walk_at "so")
   (by walk_at "so"))))) (ap (x9 (pv 0) (pv 1) rfl)
   (ap (by walk_at "te")
   (ap (by walk_at "te")
   (ap (by walk_at "te")
   (aX (by walk_at "te"))))))
theorem qH (F:O9 K "stands" "Hand.stands" (bE (top 5) 1) f fd) (MX:jh K "Hand" ["bed","acts","waiting","once","sent"]) (N4:mg "tuple"=none) (Oo:mg "sorted"=none):FnOk P w K mg base dr 3 f fd ["self"] (fR K 1 bJ):=gR (N:=["self"]) (g:=lA) F (by walk_at "sc") rfl rfl rfl fun N5 A outer s H E nd hr hu QQ hv=>AA (iU (pM (dE (uB jp (dE (qK rfl rfl (pJ (qv (hJ MX (.tail _ (.head _)) cO))) fu qE (pM (dE (aI ay) (dE (fS (hJ MX (.tail _ (.head _)) cO) (aI ay)) hX)))) hX)) (dE (hJ MX (.tail _ (.tail _ (.head _))) cO) (dE (hJ MX (.tail _ (.tail _ (.tail _ (.head _)))) cO) hX))))) (aX (fF (tX (aB (fP dY rfl N4 kK (aB (dD ["key"] [("self",0)] rfl (d8 (cI (lW rfl) rfl Oo mz (aB (jA (pv 0) rfl) bf))) (fun _ _ _ _=>(bX (i:=0) (show M5 (["key","self"]:List Str) by decide+kernel) rfl (Or.inl rfl))) (fun _ _ _ _=>eR) (fun _ _ _ _=>(tX (aB (pv 0) (aB (ib QQ (jA (pv 1) rfl) (pv 0) (fun _ _=>rfl)) bf)))) ⟨⟨rfl,rfl,Or.inl rfl⟩,trivial⟩ rfl) bf)) (aB (jA (pv 0) rfl) (aB (jA (pv 0) rfl) bf))))))
theorem lF (F:O9 K "is_waiting" "Hand.is_waiting" (bE (top 5) 2) f fd) (MX:jh K "Hand" ["bed","acts","waiting","once","sent"]):FnOk P w K mg base dr 3 f fd ["self","key"] (fR K 2 cB):=gR (N:=["self","key"]) (g:=iJ) F (by walk_at "sc") rfl rfl rfl fun N5 A outer s H E nd hr hu QQ hv=>AA (iU (uQ (jJ tQ (hJ MX (.tail _ (.tail _ (.head _))) cO) (aI lS)) (jJ lY (aI ay) (xB (hJ MX (.tail _ (.tail _ (.head _))) cO) (aI a8))))) (aX (fF (xf (iK uK (jA (pv 0) rfl) lI (dM _)) (uH (iK (lN hv) (pv 1) (cQ b9 (jA (pv 0) rfl) a9 (fun _ _=>rfl)) (by with_unfolding_all rfl))))))
theorem oY (F:O9 K "has_act" "Hand.has_act" (bE (top 5) 13) f fd) (MX:jh K "Hand" ["bed","acts","waiting","once","sent"]) (OA:mg "list"=none):FnOk P w K mg base dr 3 f fd ["self","act"] (fR K 2 cc):=gR (N:=["self","act"]) (g:=kB) F (by walk_at "sc") rfl rfl rfl fun N5 A outer s H E nd hr hu QQ hv=>AA (iU (jJ lY (aI ay) (vA (hJ MX (.tail _ (.head _)) cO)))) (aX (fF (iK (lN hv) (pv 1) (fP (pU rfl) rfl OA x8 (aB (xm OM OC PR og (jA (pv 0) rfl)) bf)) (by with_unfolding_all rfl))))
theorem uG (F:O9 K "come" "Hand.come" (bE (top 5) 11) f fd) (MX:jh K "Hand" ["bed","acts","waiting","once","sent"]) (OE:cL P w K mg base dr 3 "Hand" "has_act" ["self","act"] (fR K 2 cc)):FnOk P w K mg base dr 4 f fd ["self","key","act"] (fR K 3 bB):=gR (N:=["self","key","act"]) (g:=kb) F (by walk_at "sc") rfl rfl rfl (by delta kb;walk_at "ok")
theorem xw (F:O9 K "go" "Hand.go" (bE (top 5) 12) f fd) (MX:jh K "Hand" ["bed","acts","waiting","once","sent"]) (OE:cL P w K mg base dr 3 "Hand" "has_act" ["self","act"] (fR K 2 cc)):FnOk P w K mg base dr 4 f fd ["self","key"] (fR K 2 jl):=gR (N:=["self","key","act"]) (g:=nT) F (by walk_at "sc") rfl rfl rfl (by delta nT;walk_at "ok")
theorem pV (F:O9 K "decide" "Hand.decide" (bE (top 5) 10) f fd) (MX:jh K "Hand" ["bed","acts","waiting","once","sent"]) (Ou:cL P w K mg base dr 4 "Hand" "come" ["self","key","act"] (fR K 3 bB)) (Q4:ir P w K mg base 1 "chord_acts" ["bed","keys"] 2 fX) (VD:mg "zip"=none) {NR:L8} (Pc:mg "CHORD"=some (.ref NR)) (Pb:∀O H,L3.DV O K H (.ref NR) (.tuple [(.str "chord")])):FnOk P w K mg base dr 5 f fd ["self"] (fR K 1 cy):=gR (N:=["self","keys","what","acts","key","act"]) (g:=lu) F (by walk_at "sc") rfl rfl rfl fun N5 A outer s H E nd hr hu QQ hv=>AA (aR (by walk_at "so")
   (aR (by walk_at "so")
   (aR (uS MX (.tail _ (.tail _ (.head _))) cO (aI lS))
   (aR (by walk_at "so")
   (by walk_at "so"))))) (ap (by walk_at "te")
   (ap (by walk_at "te")
   (ap (x9 (pv 0) lI rfl)
   (ap (by walk_at "te")
   (aX (by walk_at "te"))))))
theorem lc (F:O9 K "makes_chord" "Hand.makes_chord" (bE (top 5) 4) f fd) (MX:jh K "Hand" ["bed","acts","waiting","once","sent"]) (NZ:cL P w K mg base dr 3 "Hand" "stands" ["self"] (fR K 1 bJ)) (O8:ir P w K mg base 1 "layer_of" ["standing"] 1 cU) (NV:ir P w K mg base 1 "chords_over" ["bed","keys"] 2 bI) {NR:L8} (Pc:mg "CHORD"=some (.ref NR)) (Pb:∀O H,L3.DV O K H (.ref NR) (.tuple [(.str "chord")])):FnOk P w K mg base dr 4 f fd ["self","key"] (fR K 2 dI):=gR (N:=["self","key"]) (g:=fN) F (by walk_at "sc") rfl rfl rfl (by delta fN;walk_at "ok")
theorem kJ (F:O9 K "put_to_chord" "Hand.put_to_chord" (bE (top 5) 5) f fd) (MX:jh K "Hand" ["bed","acts","waiting","once","sent"]) (Nn:cL P w K mg base dr 5 "Hand" "decide" ["self"] (fR K 1 cy)) (NV:ir P w K mg base 1 "chords_over" ["bed","keys"] 2 bI) (N3:mg "len"=none) {NR:L8} (Pc:mg "CHORD"=some (.ref NR)) (Pb:∀O H,L3.DV O K H (.ref NR) (.tuple [(.str "chord")])):FnOk P w K mg base dr 6 f fd ["self","key"] (fR K 2 dB):=gR (N:=["self","key","keys"]) (g:=g7) F (by walk_at "sc") rfl rfl rfl fun N5 A outer s H E nd hr hu QQ hv=>AA (aR (by walk_at "so")
   (aR (by walk_at "so")
   (qT (ke (jJ gC (qK rfl rfl (pJ (yz (dE (hJ MX (.head _) cO) (dE (aI ay) hX)))) fu qE (aI (gl iu (aV (bh cj ay a8) bM)))) (aI (nv (aV (gl iu (aV ay bM)) bM))))) (vB (yV MX cO hX)) rp))) (ap (by walk_at "te")
   (ap (by walk_at "te")
   (aX (qD (cH (gz hu) (dD ["chord"] [] rfl (d8 (nX NV hr (aB (jA (pv 0) rfl) (aB (pv 2) bf)))) (fun _ _ _ _=>(bX (i:=0) (show M5 (["chord"]:List Str) by decide+kernel) rfl (Or.inl rfl))) (fun _ _ _ _=>eR) (fun _ _ _ _=>(cI eJ rfl N3 kh (aB (cQ b9 (pv 0) a9 (fun _ _=>rfl)) bf))) trivial rfl) (nZ (aB (cI eJ rfl N3 kh (aB (pv 2) bf)) bf)) (dM _)) (aX (ur (Be Nn D4 hr (pv 0)))) mL))))
theorem r9 (F:O9 K "begin" "Hand.begin" (bE (top 5) 6) f fd) (MX:jh K "Hand" ["bed","acts","waiting","once","sent"]) (NZ:cL P w K mg base dr 3 "Hand" "stands" ["self"] (fR K 1 bJ)) (Ou:cL P w K mg base dr 4 "Hand" "come" ["self","key","act"] (fR K 3 bB)) (O8:ir P w K mg base 1 "layer_of" ["standing"] 1 cU) (Rm:ir P w K mg base 1 "looked_up" ["bed","layer","key"] 3 iQ) (NV:ir P w K mg base 1 "chords_over" ["bed","keys"] 2 bI) {NR:L8} (Pc:mg "CHORD"=some (.ref NR)) (Pb:∀O H,L3.DV O K H (.ref NR) (.tuple [(.str "chord")])) {Qu:L8} (Sx:mg "NONE"=some (.ref Qu)) (Sw:∀O H,L3.DV O K H (.ref Qu) (.tuple [(.str "none")])):FnOk P w K mg base dr 5 f fd ["self","key"] (fR K 2 fU):=gR (N:=["self","key","layer","meaning","word"]) (g:=jz) F (by walk_at "sc") rfl rfl rfl (by delta jz;walk_at "ok")
theorem si (F:O9 K "press" "Hand.press" (bE (top 5) 3) f fd) (MX:jh K "Hand" ["bed","acts","waiting","once","sent"]) (N6:cL P w K mg base dr 3 "Hand" "is_waiting" ["self","key"] (fR K 2 cB)) (Pn:cL P w K mg base dr 4 "Hand" "makes_chord" ["self","key"] (fR K 2 dI)) (Pg:cL P w K mg base dr 6 "Hand" "put_to_chord" ["self","key"] (fR K 2 dB)) (Nn:cL P w K mg base dr 5 "Hand" "decide" ["self"] (fR K 1 cy)) (QJ:cL P w K mg base dr 5 "Hand" "begin" ["self","key"] (fR K 2 fU)):FnOk P w K mg base dr 7 f fd ["self","key"] (fR K 2 ik):=gR (N:=["self","key"]) (g:=jS) F (by walk_at "sc") rfl rfl rfl (by delta jS;walk_at "ok")
theorem rD (F:O9 K "settle" "Hand.settle" (bE (top 5) 8) f fd) (MX:jh K "Hand" ["bed","acts","waiting","once","sent"]) (Nn:cL P w K mg base dr 5 "Hand" "decide" ["self"] (fR K 1 cy)) (Ou:cL P w K mg base dr 4 "Hand" "come" ["self","key","act"] (fR K 3 bB)) {NR:L8} (Pc:mg "CHORD"=some (.ref NR)) (Pb:∀O H,L3.DV O K H (.ref NR) (.tuple [(.str "chord")])):FnOk P w K mg base dr 6 f fd ["self","key"] (fR K 2 gH):=gR (N:=["self","key","what"]) (g:=jc) F (by walk_at "sc") rfl rfl rfl (by delta jc;walk_at "ok")
theorem uW (F:O9 K "lift" "Hand.lift" (bE (top 5) 7) f fd) (MX:jh K "Hand" ["bed","acts","waiting","once","sent"]) (N6:cL P w K mg base dr 3 "Hand" "is_waiting" ["self","key"] (fR K 2 cB)) (Qx:cL P w K mg base dr 6 "Hand" "settle" ["self","key"] (fR K 2 gH)) (RJ:cL P w K mg base dr 4 "Hand" "go" ["self","key"] (fR K 2 jl)):FnOk P w K mg base dr 7 f fd ["self","key"] (fR K 2 iR):=gR (N:=["self","key"]) (g:=km) F (by walk_at "sc") rfl rfl rfl (by delta km;walk_at "ok")
theorem oT (F:O9 K "wait_on" "Hand.wait_on" (bE (top 5) 9) f fd) (MX:jh K "Hand" ["bed","acts","waiting","once","sent"]) (Nn:cL P w K mg base dr 5 "Hand" "decide" ["self"] (fR K 1 cy)):FnOk P w K mg base dr 6 f fd ["self"] (fR K 1 gn):=gR (N:=["self","age"]) (g:=iq) F (by walk_at "sc") rfl rfl rfl (by delta iq;walk_at "ok")
theorem Eo (F:O9 K "step" "step" (top 4) f fd) (MX:jh K "Hand" ["bed","acts","waiting","once","sent"]) (TF:DY P w K mg base dr 3 "Hand" ["self","bed","standing"] (fR K 3 dX)) (Qg:cL P w K mg base dr 6 "Hand" "wait_on" ["self"] (fR K 1 gn)) (QI:cL P w K mg base dr 7 "Hand" "press" ["self","key"] (fR K 2 ik)) (Q5:cL P w K mg base dr 7 "Hand" "lift" ["self","key"] (fR K 2 iR)) (NZ:cL P w K mg base dr 3 "Hand" "stands" ["self"] (fR K 1 bJ)):FnOk P w K mg base dr 8 f fd ["bed","standing","event"] (fR K 3 STP.oi):=gR (N:=["bed","standing","event","hand"]) (g:=xA) F (by walk_at "sc") rfl rfl rfl (by delta xA;walk_at "ok")
theorem r8 (F:O9 K "_law_layer" "_law_layer" (top 20) f fd) (QG:mg "max"=none):FnOk P w K mg base dr 3 f fd ["_law_spot"] (fR K 1 ce):=gR (N:=["_law_spot"]) (g:=jO) F (by walk_at "sc") rfl rfl rfl fun N5 A outer s H E nd hr hu QQ hv=>AA (aR (by walk_at "so")
   (iU (uB yu (dE (jJ mh (aI (nv (aV a8 bM))) (Ax rfl rfl (fS cO (aI d9)) fu (kE (bO (bh gC (bh cj ay a8) d9))) (aI (bh cj ay a8)))) hX)))) (ap (by walk_at "te")
   (aX (fF (cI (tz rfl) rfl QG Dr (aB (nc mI (nZ (aB a9 bf)) (HY (dD ["_law_act"] [] rfl (Fg (xm OM OC PR og (ib QQ (pv 0) dZ (fun _ _=>rfl)))) (fun _ _ _ _=>(bX (i:=0) (show M5 (["_law_act"]:List Str) by decide+kernel) rfl (Or.inl rfl))) (fun _ _ _ _=>(gc (cH (gz hu) (cQ b9 (pv 0) a9 (fun _ _=>rfl)) dZ (dM _)))) (fun _ _ _ _=>(cQ b9 (pv 0) a9 (fun _ _=>rfl))) trivial rfl))) bf)))))
theorem uz (F:O9 K "_law_come" "_law_come" (top 21) f fd) (OA:mg "list"=none):FnOk P w K mg base dr 3 f fd ["_law_spot","_law_key","_law_act"] (fR K 3 b3):=gR (N:=["_law_spot","_law_key","_law_act"]) (g:=iI) F (by walk_at "sc") rfl rfl rfl (by delta iI;walk_at "ok")
theorem xn (F:O9 K "_law_go" "_law_go" (top 22) f fd) (OA:mg "list"=none):FnOk P w K mg base dr 3 f fd ["_law_spot","_law_key"] (fR K 2 im):=gR (N:=["_law_spot","_law_key","_law_act"]) (g:=kQ) F (by walk_at "sc") rfl rfl rfl (by delta kQ;walk_at "ok")
theorem oM (F:O9 K "_law_decided" "_law_decided" (top 23) f fd) (OO:j5 P w K mg base 3 "_law_come" ["_law_spot","_law_key","_law_act"] 3 b3) (OA:mg "list"=none) (Oo:mg "sorted"=none) (NY:mg "range"=none) (N3:mg "len"=none) (VQ:mg "int"=none):FnOk P w K mg base dr 4 f fd ["_law_bed_here","_law_spot"] (fR K 2 cb):=gR (N:=["_law_bed_here","_law_spot","_law_keys","_law_age","_law_what","_law_letters","_law_k"]) (g:=iw) F (by walk_at "sc") rfl rfl rfl fun N5 A outer s H E nd hr hu QQ hv=>AA (aR (by walk_at "so")
   (aR (vx cO (aI d9) (aI lS))
   (aR (by walk_at "so")
   (aR (mM (tN (aI (et rfl rfl (gB (bh cj ay a8)) b4 (bO (bh gC (gl yW (aV (bh cj ay a8) bM)) (gl L9.rM (aV ay bM)))) (bh cj ay a8)))) fu)
   (by walk_at "so"))))) (ap (by walk_at "te")
   (ap (zn QQ (pv 1) dZ lI rfl)
   (ap (by walk_at "te")
   (ap (pI (i:=5) ["_law_chord"] [("_law_keys",2)] nd rfl rfl rfl (d8 (cQ b9 (pv 0) a9 (fun _ _=>rfl))) (fun _ _ _ _=>(bX (i:=0) (show M5 (["_law_chord","_law_keys"]:List Str) by decide+kernel) rfl (Or.inl rfl))) (fun _ _ _ _=>(gc (cH (gz hu) (fP mU rfl OA x8 (aB (cQ b9 (pv 0) a9 (fun _ _=>rfl)) bf)) (cI L9.mZ rfl Oo mz (aB (pv 1) bf)) (dM _)))) (fun _ _ _ _=>(cQ b9 (pv 0) a9 (fun _ _=>rfl))) ⟨⟨rfl,rfl,Or.inl rfl⟩,trivial⟩ rfl)
   (aX (by walk_at "te"))))))
theorem rL (F:O9 K "_law_joined" "_law_joined" (top 24) f fd) (Ow:j5 P w K mg base 3 "_law_layer" ["_law_spot"] 1 ce) (Nv:j5 P w K mg base 4 "_law_decided" ["_law_bed_here","_law_spot"] 2 cb) (OA:mg "list"=none) (N3:mg "len"=none):FnOk P w K mg base dr 5 f fd ["_law_bed_here","_law_spot","_law_key"] (fR K 3 gK):=gR (N:=["_law_bed_here","_law_spot","_law_key","_law_keys","_law_age","_law_what","_law_wanted","_law_around"]) (g:=i6) F (by walk_at "sc") rfl rfl rfl fun N5 A outer s H E nd hr hu QQ hv=>AA (aR (by walk_at "so")
   (aR (by walk_at "so")
   (aR (by walk_at "so")
   (aR (mM (tN (aI (et rfl rfl (gB (bh cj ay a8)) b4 (bO (bh gC (gl iu (aV ay bM)) (gl iu (aV (et rfl rfl (gB (bh cj ay a8)) b4 (bO (bh lY ay ay)) ay) bM)))) (bh cj ay a8)))) fu)
   (aR (by walk_at "so")
   (aR (by walk_at "so")
   (aR (qT (kE (bO (bh gC (et rfl rfl (gB ay) b4 gf (gl iu (aV ay bM))) (nv (aV (gl iu (aV ay bM)) bM))))) (by walk_at "so") rp)
   (iU (aI A7))))))))) (ap (by walk_at "te")
   (ap (by walk_at "te")
   (ap (by walk_at "te")
   (ap (pI (i:=7) ["_law_chord"] [("_law_wanted",6)] nd rfl rfl rfl (d8 (cQ b9 (pv 0) a9 (fun _ _=>rfl))) (fun _ _ _ _=>(bX (i:=0) (show M5 (["_law_chord","_law_wanted"]:List Str) by decide+kernel) rfl (Or.inl rfl))) (fun _ _ _ _=>(gc (cH (gz hu) (cI eJ rfl N3 kh (aB (pv 1) bf)) (cI eJ rfl N3 kh (aB (dD ["_law_k"] [("_law_wanted",1)] rfl (d8 (cQ b9 (pv 0) a9 (fun _ _=>rfl))) (fun _ _ _ _=>(bX (i:=0) (show M5 (["_law_k","_law_wanted"]:List Str) by decide+kernel) rfl (Or.inl rfl))) (fun _ _ _ _=>(gc (cH (lN hv) (pv 0) (pv 1) (by with_unfolding_all rfl)))) (fun _ _ _ _=>(pv 0)) ⟨⟨rfl,rfl,Or.inl rfl⟩,trivial⟩ rfl) bf)) (dM _)))) (fun _ _ _ _=>(cQ b9 (pv 0) a9 (fun _ _=>rfl))) ⟨⟨rfl,rfl,Or.inl rfl⟩,trivial⟩ rfl)
   (ap (by walk_at "te")
   (ap (by walk_at "te")
   (ap (qD (cH (gz hu) (dD ["_law_some"] [] rfl (d8 (pv 7)) (fun _ _ _ _=>(bX (i:=0) (show M5 (["_law_some"]:List Str) by decide+kernel) rfl (Or.inl rfl))) (fun _ _ _ _=>eR) (fun _ _ _ _=>(cI eJ rfl N3 kh (aB (pv 0) bf))) trivial rfl) (nZ (aB (cI eJ rfl N3 kh (aB (pv 6) bf)) bf)) (dM _)) (aX (by walk_at "te")) mL)
   (aX (fF B2)))))))))
theorem vd (F:O9 K "_law_down" "_law_down" (top 25) f fd) (QK:j5 P w K mg base 5 "_law_joined" ["_law_bed_here","_law_spot","_law_key"] 3 gK) (Nv:j5 P w K mg base 4 "_law_decided" ["_law_bed_here","_law_spot"] 2 cb) (Ow:j5 P w K mg base 3 "_law_layer" ["_law_spot"] 1 ce) (OO:j5 P w K mg base 3 "_law_come" ["_law_spot","_law_key","_law_act"] 3 b3) (UX:mg "any"=none):FnOk P w K mg base dr 6 f fd ["_law_bed_here","_law_spot","_law_key"] (fR K 3 iY):=gR (N:=["_law_bed_here","_law_spot","_law_key","_law_layer_here","_law_meaning_here"]) (g:=j6) F (by walk_at "sc") rfl rfl rfl fun N5 A outer s H E nd hr hu QQ hv=>AA (aR (by walk_at "so")
   (aR (by walk_at "so")
   (aR (by walk_at "so")
   (aR (by walk_at "so")
   (aR (by walk_at "so")
   (aR (by walk_at "so")
   (qT (kE (bO (bh gC (bh cj ay a8) d9))) (by walk_at "so") (qT (kE (jL (bO (bh gC (bh cj ay a8) d9)) (jL (bO (bh gC ay a8)) (Dt (gl Ds (aV (et rfl rfl (gB (bh cj ay a8)) b4 gf (bh lY ay (bh cj ay a8))) bM)))))) (by walk_at "so") (by walk_at "so"))))))))) (ap (by walk_at "te")
   (ap (by walk_at "te")
   (ap (by walk_at "te")
   (ap (by walk_at "te")
   (ap (by walk_at "te")
   (ap (by walk_at "te")
   (aX (qD (cH (gz hu) (cQ b9 (pv 4) a9 (fun _ _=>rfl)) dZ (dM _)) (aX (by walk_at "te")) (aX (qD (PW.pt (lM (cH (gz hu) (cQ b9 (pv 4) a9 (fun _ _=>rfl)) dZ (dM _)) (lM (cH (gz hu) (pv 3) a9 (dM _)) (mV (xQ (cI (vW rfl) rfl UX GC (aB (dD ["_law_chord"] [("_law_key",2)] rfl (d8 (cQ b9 (pv 0) a9 (fun _ _=>rfl))) (fun _ _ _ _=>(bX (i:=0) (show M5 (["_law_chord","_law_key"]:List Str) by decide+kernel) rfl (Or.inl rfl))) (fun _ _ _ _=>eR) (fun _ _ _ _=>(iK (lN hv) (pv 1) (cQ b9 (pv 0) a9 (fun _ _=>rfl)) (by with_unfolding_all rfl))) ⟨⟨rfl,rfl,Or.inl rfl⟩,trivial⟩ rfl) bf))))))) (aX (by walk_at "te")) (aX (by walk_at "te"))))))))))))
theorem uM (F:O9 K "_law_held" "_law_held" (top 26) f fd):FnOk P w K mg base dr 3 f fd ["_law_spot","_law_key"] (fR K 2 eD):=gR (N:=["_law_spot","_law_key"]) (g:=oE) F (by walk_at "sc") rfl rfl rfl fun N5 A outer s H E nd hr hu QQ hv=>AA (iU (Cd (zJ (aI ay) (fS cO (aI d9))) (uQ (jJ tQ (fS cO (aI d9)) (aI lS)) (jJ lY (aI ay) (xB (fS cO (aI d9)) (aI a8)))))) (aX (fF (GS (CC (BP QQ (pv 1) (ib QQ (pv 0) dZ (fun _ _=>rfl))) (by with_unfolding_all rfl)) (uH (xf (iK uK (ib QQ (pv 0) dZ (fun _ _=>rfl)) lI (dM _)) (uH (iK (lN hv) (pv 1) (cQ b9 (ib QQ (pv 0) dZ (fun _ _=>rfl)) a9 (fun _ _=>rfl)) (by with_unfolding_all rfl))))))))
theorem uJ (F:O9 K "_law_turn" "_law_turn" (top 27) f fd) (Nv:j5 P w K mg base 4 "_law_decided" ["_law_bed_here","_law_spot"] 2 cb):FnOk P w K mg base dr 5 f fd ["_law_bed_here","_law_spot"] (fR K 2 iL):=gR (N:=["_law_bed_here","_law_spot","_law_keys","_law_age","_law_what"]) (g:=iV) F (by walk_at "sc") rfl rfl rfl (by delta iV;walk_at "ok")
theorem vi (F:O9 K "_law_step" "_law_step" (top 28) f fd) (Ro:j5 P w K mg base 3 "_law_held" ["_law_spot","_law_key"] 2 eD) (Rj:j5 P w K mg base 6 "_law_down" ["_law_bed_here","_law_spot","_law_key"] 3 iY) (Sg:j5 P w K mg base 3 "_law_go" ["_law_spot","_law_key"] 2 im) (OO:j5 P w K mg base 3 "_law_come" ["_law_spot","_law_key","_law_act"] 3 b3) (Nv:j5 P w K mg base 4 "_law_decided" ["_law_bed_here","_law_spot"] 2 cb) (Rn:j5 P w K mg base 5 "_law_turn" ["_law_bed_here","_law_spot"] 2 iL):FnOk P w K mg base dr 7 f fd ["_law_bed_here","_law_spot","_law_event"] (fR K 3 iM):=gR (N:=["_law_bed_here","_law_spot","_law_event","_law_word","_law_key","_law_what"]) (g:=iW) F (by walk_at "sc") rfl rfl rfl (by delta iW;walk_at "ok")
theorem II (F:O9 K "law" "law" (top 29) f fd) (Rk:j5 P w K mg base 7 "_law_step" ["_law_bed_here","_law_spot","_law_event"] 3 iM) (UG:j5 P w K mg base 8 "step" ["bed","standing","event"] 3 STP.oi) (Ow:j5 P w K mg base 3 "_law_layer" ["_law_spot"] 1 ce) (Q3:ir P w K mg base 4 "_law_given" ["_law_script"] 1 ic) (O8:ir P w K mg base 1 "layer_of" ["standing"] 1 cU) (Q6:mg "isinstance"=none) (N4:mg "tuple"=none) (N3:mg "len"=none) (Oo:mg "sorted"=none) (OA:mg "list"=none):FnOk P w K mg base dr 9 f fd ["_law_script"] (fR K 1 F_law):=gR (N:=["_law_script","_law_bed_here","_law_events_here","_law_spot","_law_standing","_law_event","_law_found","_law_acts"]) (g:=Cc) F (by walk_at "sc") rfl rfl rfl fun N5 A outer s H E nd hr hu QQ hv=>AA (aR (by walk_at "so")
   (aR (mM (C4 (mB (aI d9) vG (mB (aI d9) (aI lS) (mB (aI d9) (aI lS) (mB (aI d9) (aI (nv bM)) Ep))))) fu)
   (aR (by walk_at "so")
   (aR (zA (wU (gB ay)) fu (aR (by walk_at "so")
   (aR (by walk_at "so")
   (aR (by walk_at "so")
   (aR (mM (uB jp (dE (qK rfl rfl (pJ (qv (fS cO (aI d9)))) fu qE (pM (dE (aI ay) (dE (fS (fS cO (aI d9)) (aI ay)) hX)))) hX)) fu)
   (aR (by walk_at "so")
   (aR (by walk_at "so")
   (aR (by walk_at "so")
   (aR (by walk_at "so")
   (by walk_at "so"))))))))))
   (iU (aI A7)))))) (ap (by walk_at "te")
   (ap (nM (i:=3) nd rfl (Or.inr rfl) (F3 (mY dZ wa (mY dZ lI (mY dZ lI (mY dZ (nZ bf) FH)))) rfl rfl (List.cons_ne_nil _ _) (by decide)))
   (ap (by walk_at "te")
   (ap (rK Sj.never rfl (d8 (pv 2)) (bX (i:=5) nd rfl (Or.inl rfl)) (ap (by walk_at "te")
   (ap (by walk_at "te")
   (ap (by walk_at "te")
   (ap (nM (i:=7) nd rfl (Or.inl rfl) (fP dY rfl N4 kK (aB (dD ["_law_key"] [("_law_spot",3)] rfl (d8 (cI (lW rfl) rfl Oo mz (aB (ib QQ (pv 3) dZ (fun _ _=>rfl)) bf))) (fun _ _ _ _=>(bX (i:=0) (show M5 (["_law_key","_law_spot"]:List Str) by decide+kernel) rfl (Or.inl rfl))) (fun _ _ _ _=>eR) (fun _ _ _ _=>(tX (aB (pv 0) (aB (ib QQ (ib QQ (pv 1) dZ (fun _ _=>rfl)) (pv 0) (fun _ _=>rfl)) bf)))) ⟨⟨rfl,rfl,Or.inl rfl⟩,trivial⟩ rfl) bf)))
   (ap (by walk_at "te")
   (ap (by walk_at "te")
   (ap (by walk_at "te")
   (ap (by walk_at "te")
   (aX (by walk_at "te")))))))))))
   (aX (fF B2))))))
end
end K35
local macro_rules| `(tactic|walk_at "ba")=> `(tactic|(intro _ _ _ _ _ _ us hl;first|(match us,hl with|[_],_=>rfl)|(match us,hl with|[_,_],_=>rfl)|(match us,hl with|[_,_,_],_=>rfl)|(match us,hl with|[_,_,_,_],_=>rfl)|(match us,hl with|[_,_,_,_,_],_=>rfl)|(match us,hl with|[],_=>rfl)))
local macro_rules| `(tactic|walk_at "fl")=> `(tactic|first|exact List.forall_mem_nil _|(refine List.forall_mem_cons.mpr ⟨?_,?_⟩;(·(show M9 _ _ _=_;k_is));walk_at "fl"))
local macro_rules| `(tactic|walk_at "ki")=> `(tactic|first|(refine' L3.NI.mk ?a ⟨_,L2.C9 ?b ?c ?d⟩;(case a=>k_is);(case b=>k_is);(case c=>k_is);(case d=>k_is))|(refine' L3.MI.mk ?a ?e ⟨_,L2.C9 ?b ?c ?d⟩;(case a=>k_is);(case e=>k_is);(case b=>k_is);(case c=>k_is);(case d=>k_is))|(refine' L3.CI.mk ?a ?b ?c ?d ?e ?f ?g ?i;(case a=>k_is);(case b=>k_is);(case c=>k_is);(case d=>k_is);(case e=>k_is);(case f=>k_is);(case g=>k_is);(case i=>walk_at "fl"))|k_is)
namespace K35
open PySem L2 L3 STP
noncomputable def F_lawH:FN:=L10.Kb F_law
theorem all_mk {l:T8} {w:MS} {K:Bn} {h:Heap} {mg:Str->Option L5} {fa:L8}
  {UP:Tok}
  {Qu:L8} {Vm:Nat} {Vf:Array (Option L5)}
  {T6:Tok}
  {NR:L8} {UM:Nat} {Ux:Array (Option L5)}
  {f0 f1 f2 f3 f4 f5 f6 f7 f8 f9 f10 f11 f12 f13 f14 f15 f16 f17 f18 f19 f20 f21 f22 f23 f24 Tj f26 f27 f28 f29 f30 f31 f32 f33 f34 f35 f36 f37 f38 f39:L8} (X:K.In h) (G:h.Ns Mv mg) (Zr:mg "law"=some (.ref fa))
  (h0:NI K f0 "layer_of" (top 3))
  (h1:NI K f1 "looked_up" (top 6))
  (h2:NI K f2 "chords_over" (top 7))
  (h3:NI K f3 "chord_acts" (top 8))
  (h4:NI K f4 "_law_cell" (top 10))
  (h5:NI K f5 "_law_draw" (top 11))
  (h6:NI K f6 "_law_meaning" (top 12))
  (h7:NI K f7 "_law_chords" (top 13))
  (h8:NI K f8 "_law_bed" (top 14))
  (h9:NI K f9 "_law_read_meaning" (top 16))
  (h10:NI K f10 "_law_read_bed" (top 17))
  (h11:NI K f11 "_law_read_events" (top 18))
  (h12:NI K f12 "_law_events" (top 15))
  (h13:NI K f13 "_law_given" (top 19))
  (h14:NI K f14 "step" (top 4))
  (h15:NI K f15 "_law_layer" (top 20))
  (h16:NI K f16 "_law_come" (top 21))
  (h17:NI K f17 "_law_go" (top 22))
  (h18:NI K f18 "_law_decided" (top 23))
  (h19:NI K f19 "_law_joined" (top 24))
  (h20:NI K f20 "_law_down" (top 25))
  (h21:NI K f21 "_law_held" (top 26))
  (h22:NI K f22 "_law_turn" (top 27))
  (h23:NI K f23 "_law_step" (top 28))
  (h24:NI K f24 "law" (top 29))
  (Tn:CI K Tj "Hand" ["bed","acts","waiting","once","sent"])
  (h26:MI K Tj f26 "__init__" "Hand.__init__" (bE (top 5) 0))
  (h27:MI K Tj f27 "stands" "Hand.stands" (bE (top 5) 1))
  (h28:MI K Tj f28 "is_waiting" "Hand.is_waiting" (bE (top 5) 2))
  (h29:MI K Tj f29 "has_act" "Hand.has_act" (bE (top 5) 13))
  (h30:MI K Tj f30 "come" "Hand.come" (bE (top 5) 11))
  (h31:MI K Tj f31 "go" "Hand.go" (bE (top 5) 12))
  (h32:MI K Tj f32 "decide" "Hand.decide" (bE (top 5) 10))
  (h33:MI K Tj f33 "makes_chord" "Hand.makes_chord" (bE (top 5) 4))
  (h34:MI K Tj f34 "put_to_chord" "Hand.put_to_chord" (bE (top 5) 5))
  (h35:MI K Tj f35 "begin" "Hand.begin" (bE (top 5) 6))
  (h36:MI K Tj f36 "press" "Hand.press" (bE (top 5) 3))
  (h37:MI K Tj f37 "settle" "Hand.settle" (bE (top 5) 8))
  (h38:MI K Tj f38 "lift" "Hand.lift" (bE (top 5) 7))
  (h39:MI K Tj f39 "wait_on" "Hand.wait_on" (bE (top 5) 9))
  (Vk:MG K Mv "NONE"=some (some (.ref Qu)))
  (UE:MG K Mv "CHORD"=some (some (.ref NR)))
  (UQ:K.lookup NR=some ⟨.type "tuple",none,.seq #[.str "chord" T6] UM,Ux⟩)
  (Vv:K.lookup Qu=some ⟨.type "tuple",none,.seq #[.str "none" UP] Vm,Vf⟩)
  (y0:MG K Mv "max"=some none)
  (y1:MG K Mv "all"=some none)
  (y2:MG K Mv "list"=some none)
  (y3:MG K Mv "sorted"=some none)
  (y4:MG K Mv "len"=some none)
  (y5:MG K Mv "range"=some none)
  (y6:MG K Mv "tuple"=some none)
  (y7:MG K Mv "abs"=some none)
  (y8:MG K Mv "dict"=some none)
  (y9:MG K Mv "zip"=some none)
  (y10:MG K Mv "int"=some none)
  (y11:MG K Mv "any"=some none)
  (y12:MG K Mv "isinstance"=some none):
  ∃fd:Nk,(∀(s:Ma) (v:L5),Rh s fd ⟨[v],[]⟩ [("_law_script",v)])/\∀base:Heap,K.In base->base.Ns Mv mg->FnOk l.prog w K mg base dr 9 fa fd ["_law_script"] (L3.ou K 1 F_lawH):=by
 have QG:=M0 X G y0;have UO:=M0 X G y1;have OA:=M0 X G y2;have Oo:=M0 X G y3;have N3:=M0 X G y4;have NY:=M0 X G y5;have N4:=M0 X G y6;have VF:=M0 X G y7;have UA:=M0 X G y8;have VD:=M0 X G y9;have VQ:=M0 X G y10;have UX:=M0 X G y11;have Q6:=M0 X G y12;have Sw:=Kd (xs:=[.str "none"]) (ds:=[(.str "none")]) Vv (by show 1<=Mq;decide) (.cons ⟨_,rfl⟩ .nil) fun O H=>(.cons (.str _) .nil);have Pb:=Kd (xs:=[.str "chord"]) (ds:=[(.str "chord")]) UQ (by show 1<=Mq;decide) (.cons ⟨_,rfl⟩ .nil) fun O H=>(.cons (.str _) .nil);have Sx:=PN X G Vk;have Pc:=PN X G UE;refine h24.law X G Zr (by walk_at "ba") fun base fd Wu=> ?_;have O8:=h0.Ry (P:=l.prog) (w:=w) (mg:=mg) (base:=base) X G (by walk_at "ba") fun _ z=>wD z QG;have Rm:=h1.Ry (P:=l.prog) (w:=w) (mg:=mg) (base:=base) X G (by walk_at "ba") fun _ z=>ul z;have NV:=h2.Ry (P:=l.prog) (w:=w) (mg:=mg) (base:=base) X G (by walk_at "ba") fun _ z=>rO z UO;have Q4:=h3.Ry (P:=l.prog) (w:=w) (mg:=mg) (base:=base) X G (by walk_at "ba") fun _ z=>rZ z OA Oo N3 Sx Sw;have Ot:=h4.Ry (P:=l.prog) (w:=w) (mg:=mg) (base:=base) X G (by walk_at "ba") fun _ z=>tM z N3;have NL:=h5.Ry (P:=l.prog) (w:=w) (mg:=mg) (base:=base) X G (by walk_at "ba") fun _ z=>uF z;have Pt:=h6.Ry (P:=l.prog) (w:=w) (mg:=mg) (base:=base) X G (by walk_at "ba") fun _ z=>oV z NL QG;have QH:=h7.Ry (P:=l.prog) (w:=w) (mg:=mg) (base:=base) X G (by walk_at "ba") fun _ z=>qM z Ot NL NY N3 N4;have RL:=h8.Ry (P:=l.prog) (w:=w) (mg:=mg) (base:=base) X G (by walk_at "ba") fun _ z=>wq z Ot NL Pt QH NY N4;have Po:=h9.Ry (P:=l.prog) (w:=w) (mg:=mg) (base:=base) X G (by walk_at "ba") fun _ z=>ky z QG;have Qh:=h10.Ry (P:=l.prog) (w:=w) (mg:=mg) (base:=base) X G (by walk_at "ba") fun _ z=>nN z Po NY N4 N3;have Pu:=h11.Ry (P:=l.prog) (w:=w) (mg:=mg) (base:=base) X G (by walk_at "ba") fun _ z=>lg z NY;have QL:=h12.Ry (P:=l.prog) (w:=w) (mg:=mg) (base:=base) X G (by walk_at "ba") fun _ z=>rl z NL;have Q3:=h13.Ry (P:=l.prog) (w:=w) (mg:=mg) (base:=base) X G (by walk_at "ba") fun _ z=>sj z RL Ot Qh Pu QL VF;have MX:=Tn.cf;have TF:=h26.mak (P:=l.prog) (w:=w) (mg:=mg) (base:=base) Tn X G (by walk_at "ba") fun _ z=>nG z MX UA;have NZ:=h27.Rc (P:=l.prog) (w:=w) (mg:=mg) (base:=base) Tn (by walk_at "ba") fun _ z=>qH z MX N4 Oo;have N6:=h28.Rc (P:=l.prog) (w:=w) (mg:=mg) (base:=base) Tn (by walk_at "ba") fun _ z=>lF z MX;have OE:=h29.Rc (P:=l.prog) (w:=w) (mg:=mg) (base:=base) Tn (by walk_at "ba") fun _ z=>oY z MX OA;have Ou:=h30.Rc (P:=l.prog) (w:=w) (mg:=mg) (base:=base) Tn (by walk_at "ba") fun _ z=>uG z MX OE;have RJ:=h31.Rc (P:=l.prog) (w:=w) (mg:=mg) (base:=base) Tn (by walk_at "ba") fun _ z=>xw z MX OE;have Nn:=h32.Rc (P:=l.prog) (w:=w) (mg:=mg) (base:=base) Tn (by walk_at "ba") fun _ z=>pV z MX Ou Q4 VD Pc Pb;have Pn:=h33.Rc (P:=l.prog) (w:=w) (mg:=mg) (base:=base) Tn (by walk_at "ba") fun _ z=>lc z MX NZ O8 NV Pc Pb;have Pg:=h34.Rc (P:=l.prog) (w:=w) (mg:=mg) (base:=base) Tn (by walk_at "ba") fun _ z=>kJ z MX Nn NV N3 Pc Pb;have QJ:=h35.Rc (P:=l.prog) (w:=w) (mg:=mg) (base:=base) Tn (by walk_at "ba") fun _ z=>r9 z MX NZ Ou O8 Rm NV Pc Pb Sx Sw;have QI:=h36.Rc (P:=l.prog) (w:=w) (mg:=mg) (base:=base) Tn (by walk_at "ba") fun _ z=>si z MX N6 Pn Pg Nn QJ;have Qx:=h37.Rc (P:=l.prog) (w:=w) (mg:=mg) (base:=base) Tn (by walk_at "ba") fun _ z=>rD z MX Nn Ou Pc Pb;have Q5:=h38.Rc (P:=l.prog) (w:=w) (mg:=mg) (base:=base) Tn (by walk_at "ba") fun _ z=>uW z MX N6 Qx RJ;have Qg:=h39.Rc (P:=l.prog) (w:=w) (mg:=mg) (base:=base) Tn (by walk_at "ba") fun _ z=>oT z MX Nn;have UG:=h14.Ry (P:=l.prog) (w:=w) (mg:=mg) (base:=base) X G (by walk_at "ba") fun _ z=>Eo z MX TF Qg QI Q5 NZ;have Ow:=h15.Ry (P:=l.prog) (w:=w) (mg:=mg) (base:=base) X G (by walk_at "ba") fun _ z=>r8 z QG;have OO:=h16.Ry (P:=l.prog) (w:=w) (mg:=mg) (base:=base) X G (by walk_at "ba") fun _ z=>uz z OA;have Sg:=h17.Ry (P:=l.prog) (w:=w) (mg:=mg) (base:=base) X G (by walk_at "ba") fun _ z=>xn z OA;have Nv:=h18.Ry (P:=l.prog) (w:=w) (mg:=mg) (base:=base) X G (by walk_at "ba") fun _ z=>oM z OO OA Oo NY N3 VQ;have QK:=h19.Ry (P:=l.prog) (w:=w) (mg:=mg) (base:=base) X G (by walk_at "ba") fun _ z=>rL z Ow Nv OA N3;have Rj:=h20.Ry (P:=l.prog) (w:=w) (mg:=mg) (base:=base) X G (by walk_at "ba") fun _ z=>vd z QK Nv Ow OO UX;have Ro:=h21.Ry (P:=l.prog) (w:=w) (mg:=mg) (base:=base) X G (by walk_at "ba") fun _ z=>uM z;have Rn:=h22.Ry (P:=l.prog) (w:=w) (mg:=mg) (base:=base) X G (by walk_at "ba") fun _ z=>uJ z Nv;have Rk:=h23.Ry (P:=l.prog) (w:=w) (mg:=mg) (base:=base) X G (by walk_at "ba") fun _ z=>vi z Ro Rj Sg OO Nv Rn;exact(II Wu Rk UG Ow Q3 O8 Q6 N4 N3 Oo OA).imp (fun _ _ _ _ h=>L10.HV h)
end K35
noncomputable def PySem.W.Fast.tw13276711355602193933:Unit:=()
noncomputable def PySem.W.Fast.tw5333472770431609276:Unit:=()
noncomputable def PySem.W.Fast.tw2195681763401780749:Unit:=()
noncomputable def PySem.W.Fast.tw10256842748994716492:Unit:=()
noncomputable def PySem.W.Fast.tw17142419130844656304:Unit:=()
noncomputable def PySem.W.Fast.tw9043265481122655994:Unit:=()
noncomputable def PySem.W.Fast.tw584326463866627431:Unit:=()
noncomputable def PySem.W.Fast.tw12633611255709797263:Unit:=()
noncomputable def PySem.W.Fast.tw1330943688308182618:Unit:=()
noncomputable def PySem.W.Fast.tw16232357464001263951:Unit:=()
noncomputable def PySem.W.Fast.tw8326585044842552655:Unit:=()
noncomputable def PySem.W.Fast.tw17644701674657734129:Unit:=()
noncomputable def PySem.W.Fast.tw10618401434253951298:Unit:=()
noncomputable def PySem.W.Fast.tw13119010159739931556:Unit:=()
noncomputable def PySem.W.Fast.tw3246434445069880429:Unit:=()
noncomputable def PySem.W.Fast.tw335593820139021301:Unit:=()
noncomputable def PySem.W.Fast.tw4442049513819923721:Unit:=()
noncomputable def PySem.W.Fast.tw2605482106154724727:Unit:=()
noncomputable def PySem.W.Fast.tw2224801602773765987:Unit:=()
noncomputable def PySem.W.Fast.tw11097082946297433102:Unit:=()
noncomputable def PySem.W.Fast.tw1653984504890653424:Unit:=()
noncomputable def PySem.W.Fast.tw11617533948439368467:Unit:=()
noncomputable def PySem.W.Fast.tw12816891718507860576:Unit:=()
noncomputable def PySem.W.Fast.tw10770666163835064983:Unit:=()
noncomputable def PySem.W.Fast.tw5588120250042227410:Unit:=()
noncomputable def PySem.W.Fast.tw6397175980968712015:Unit:=()
noncomputable def PySem.W.Fast.tw4664562556017698410:Unit:=()
noncomputable def PySem.W.Fast.tw376252813607797554:Unit:=()
noncomputable def PySem.W.Fast.tw411833435668350563:Unit:=()
noncomputable def PySem.W.Fast.tw13456525263082854507:Unit:=()
noncomputable def PySem.W.Fast.tw17411913445488591193:Unit:=()
noncomputable def PySem.W.Fast.tw9099620533660067580:Unit:=()
noncomputable def PySem.W.Fast.tw10056418083633794051:Unit:=()
noncomputable def PySem.W.Fast.tw8755168961605850694:Unit:=()
noncomputable def PySem.W.Fast.tw4761888364265174461:Unit:=()
noncomputable def PySem.W.Fast.tw6915843557347124608:Unit:=()
noncomputable def PySem.W.Fast.tw16713900353559480520:Unit:=()
noncomputable def PySem.W.Fast.tw12548597858569758288:Unit:=()
noncomputable def PySem.W.Fast.tw9464469846869106646:Unit:=()
noncomputable def PySem.W.Fast.tw1373279531480485676:Unit:=()
noncomputable def PySem.W.Fast.tw5098771107784354070:Unit:=()
noncomputable def PySem.W.Fast.tw4828133848456271484:Unit:=()
open PySem PySem.W PyProof.Rows
set_option maxRecDepth 100000 in
set_option maxHeartbeats 0 in
theorem PySem.Challenge.cw_chordbed_k35_whole_step_by_step_holds : PySem.Challenge.rw_chordbed_k35_whole_step_by_step.Holds := by
 w_on;o_law;k_head;(case hw=>w_witness2)
 k_fill
 refine L3.JR (l:=PySem.Challenge.rw_chordbed_k35_whole_step_by_step) (n:=63) (k:=9) (x:= "_law_script") (F:=K35.F_lawH) rfl (by decide) rfl ⟨rfl,by decide,by decide⟩ (fun w h Y=>PySem.W.kIn_of Y) ?F K35.main
 case F=>
  intro w mg fa h KX G Xv
  apply K35.all_mk KX G Xv
  all_goals walk_at "ki"
