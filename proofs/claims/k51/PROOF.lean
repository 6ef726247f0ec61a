import PyProof.Rows.All
import Wide.All
import OpenK.AllK
import Wide.FinOn
import Lean
import PyProof.EqAt
import PyProof.EqKinds
import PyProof.TupleCall
import KE.KIntText
import KE.KRevSl
import PyProof.Rows.SeqMore
import PyProof.WalkInts
import PyProof.Rows.MinMaxN
import PyProof.ExcInit
import OpenK.KMake
import PyProof.InstStoreFacts
import PyProof.FString2
import PyProof.Rows.FStr
import PyProof.Rows.SetFrom
import PyProof.SeqRoads2
import PyProof.RangeFor
import PyProof.WalksMore
import PyProof.StrBlock2
import PyProof.Rows.SortShell
import PyProof.TupleOfSeq
import KE.KDictList
import KE.KDictOf
import PyProof.IsiH_tuple
import PyProof.Rows.RuleN_abs
import PyProof.Rows.Range3
import KE.KRevIter
import PyProof.StrLawsRepr
import PyProof.ReprStr
import PyProof.IsiH_list
import PyProof.Rows.TupDisplay
import PyProof.SetKind
import PyProof.SetScanFacts
import PyProof.CollectIter
import PyProof.Rows.SortStr
import PySem.Challenge.RW_chordbed_k51_two_beds_walked
set_option compiler.extract_closed false
set_option genSizeOf false
set_option genInjectivity false
set_option Elab.async false
set_option linter.all false
set_option maxRecDepth 100000
abbrev av:=@if_pos
abbrev ax:=@if_neg
abbrev aP:=@decide_eq_true
abbrev a4:=@decide_eq_false
abbrev a5:=@of_decide_eq_true
abbrev a6:=@absurd
abbrev a7:=@Or.inl
abbrev bb:=@Or.inr
abbrev bg:=@List
abbrev br:=@Option
abbrev bP:=@PySem.Heap.get?_push_of_some
abbrev cn:=@PySem.Heap.lt_size
abbrev cv:=@PySem.Heap.get?_push_size
abbrev cw:=@PySem.Heap.get?_update_other
abbrev da:=@PySem.Heap.get?_update_self
abbrev dt:=@PySem.Heap.size_push
abbrev dN:=@PySem.Heap.get?_none_of_le
abbrev dP:=@PySem.Obj.data_mapFields
abbrev d3:=@PySem.Obj.isFreed_of_fields
abbrev ef:=@Ne.symm
abbrev et:=@congrArg
abbrev eu:=@beq_self_eq_true
open Lean in
def cvP:Nat→TSyntax `term→MacroM (TSyntax `rcasesPat)
 |0,_=>Macro.throwUnsupported
 |n+1,t=>let f:=fun (a:Array Term)=>do
   let l←(←a.mapM (cvP n)).mapM fun p=>`(Lean.Parser.Tactic.rcasesPatLo|$p:rcasesPat)
   `(rcasesPat|⟨$l,*⟩)
  match t with
  |`(⟨$a,*⟩)=>f a
  |`(($a,$b,*))=>f (#[a]++b.getElems)
  |`($i:ident)=>`(rcasesPat|$i:ident)
  |`(_)=>`(rcasesPat|_)
  |_=>Macro.throwUnsupported
local macro_rules|`(tactic|let $d:letDecl)=>`(tactic|have $d:letDecl)
local macro_rules|`(tactic|let $p:term:=$e)=>if p.raw.isIdent then Lean.Macro.throwUnsupported else do let q←cvP 9 p;`(tactic|obtain $q:rcasesPat:=$e)
local macro_rules|`(tactic|left)=>`(tactic|decide+kernel)|`(tactic|change $e)=>`(tactic|with_reducible exact $e)|`(tactic|specialize $e)=>`(tactic|with_reducible refine $e)
local macro_rules|`(tactic|exists $e)=>`(tactic|with_reducible apply $e)|`(def $i:declId $s:optDeclSig $v:declVal)=>if v.raw[1].isOfKind ``Lean.Parser.Term.byTactic then `(theorem $i:declId $(⟨Lean.mkNode ``Lean.Parser.Command.declSig #[s.raw[0],s.raw[1][0]]⟩):declSig $v:declVal) else `(noncomputable def $i:declId $s:optDeclSig $v:declVal)|`(abbrev $i:declId $s:optDeclSig $v:declVal)=>`(noncomputable abbrev $i:declId $s:optDeclSig $v:declVal)
local macro_rules|`(tactic|ext)=>`(tactic|decide)
local macro_rules|`(tactic|ext)=>`(tactic|omega)
local macro_rules|`(tactic|ext)=>`(tactic|lia)
local macro_rules|`(tactic|show $e)=>`(tactic|refine $e)
local macro_rules|`(tactic|ext $i:ident)=>`(tactic|cases $i:ident)
local macro_rules|`(tactic|ext $i:ident)=>`(tactic|unfold $i:ident)
local macro_rules|`(#[$a,*])=>`(⟨$a,*⟩)|`(#v[$a,*])=>`(List.toArray [$a,*])
local macro_rules|`(())=>`(by ext)
open Option renaming some->lD,none->UO,isSome_map->ZG,getD_some->ZV,isNone_iff_eq_none->acv,isSome_iff_exists->acB,map_eq_some_iff->ac6,isSome_some->aeb,toList_none->aee,getD_none->aeI,map->ahr
open PySem renaming wpAny_bind->Ld,Value->UQ,wpAny_pure->UT,PyData->UU,Addr->UX,Shared->UY,sizeLine->Vb,mainGlobals->Vj,Program->Vn,starEach->Vt,Around->Vx,World->VJ,NameKind->VO,wpAny_field->VZ,wpAny_newObj_type->V3,Expr->V8,wpAny_holding->Wa,bootBuiltins->Wb,FuncData->We,wpAny_seqItems->Wj,wpAny_callSpecial?_slot->WB,swapsWith->WI,sizeLine_eq->WK,codeAny_builtin->WL,binaryOp->WT,wpAny_call_entry->WX,mem_of_lookup->WZ,compareOp->W2,wpAny_loadPart_at->W3,plainId_quiet->W9,cellsFrom->Xb,sysModules->Xi,wpAny_Call_Name_kw->Xk,Stmt->Xx,wpAny_truthy_bool->Xy,codeAny_call_builtin->XA,wpAny_standAt->XF,wpAny_setField->XO,wpAny_pyIter_list->XW,wpAny_typeOf->XZ,wpAny_setField_rec->X0,wpAny_passesOwn->X9,wpAny_setState_of->Yf,wpAny_letGo->Ym,wpAny_isSubtype_exc->Yu,wpAny_ite_split->YC,DictEntry->YN,Scope->YU,codeAny_mono->YV,ExcBaseFacts->YY,builtinLookup_eq_fast->Zd,PassesOwn->Ze,GenState->Zr,wpAny_execs_nil->ZD,wpAny_specialOf->ZH,wpAny_call->Z8,call_meets->aaa,ReadsAll->aab,wpAny_of_eq->aao,IsPart->aav,wpAny_isInstance->aaO,wpAny_forIn_list->aaP,ItemsOf->aaQ,Result->aaY,BindsTo->aaZ,wpAny_rule->aa2,typeLookup_type->abe,wpAny_updateSeq->abf,wpAny_pyIter_tuple->abk,wpAny_updateSeq_pair->aby,wpAny_tryCatch->abz,wpAny_onRaise->abZ,typeIs_int->ab7,tupleKind_room_in1->ab8,Keyword->aco,wpAny_sequenceKey->acp,Reads->acq,ZipApart->acr,wpAny_Call_ofName->acs,eqIsQuiet_byValue->acu,plainObj_wpAny_Assign_Attribute->acA,noFill_tuple_add->acN,Within->adh,Code->adi,pushCells_keeps->adj,codeAny_of_tree->adk,OsState->adz,Model->adG,IsZip->adI,wpAny_binaryOp_repeat_ref->aec,seq_tuple_add->aeo,evalPart_none->aep,wpAny_comprehension_free->aeq,Drawn->aeG,putSet_of->aeL,concat_meets->aeW,wpAny_Assign_Subscript->aeY,wpAny_isTrue_Compare1->afw,wpAny_isSame_ref_self->afB,wpAny_loadName_local->afM,Walks->afN,wpAny_loadName_cell->agj,wpAny_raiseNew_none->agk,wpAny_Name->agA,wpAny_Constant_int->agB,wpAny_load->agD,wpAny_getItem_heap->agE,wpAny_setItem_heap->agF,wpAny_assign_Name->aho,slot_list_getitem->ahp,OwnTail->ahq,wpAny_storeSet_of->ahs,wpAny_pyHash_int->ahZ,wpAny_pyHash_str->ah0,wpAny_execs_cons->ah1,wpAny_lookBehind->ah3,pastItsLine_dict->ah4,call->ah8,wpAny_pyIter_zip->ah9,beq_builtin_none->aia,wpAny_Compare1->akg,wpAny_loadPart->akh,refuseLoop_ref->ako,wpAny_runValue->akp,isSubtype_type->akq,callType_codes->aks,intBits_le_64->amk,call_list_seq->aml,wpAny_attempt->amm,wpAny_in_heap->amn,strLen_append->amo,wpAny_newList->amq
open PySem.W renaming Frag->UN,nsIn->Vp,findIn->VP,mg_none_of->V6,emptyDict->Wy,fnOf->Wz,keepIn->WM,instObj->W8,mg_of->Xl,hasDictIn->XS,isFn->Ya,kia_one->Yk,specialIn->Ys,cellsFrom_some->Yt,plainGet->YF,codeIn->Zg,methodCall_KW->aak,lookIn->aat,InstAt->aau,tailIn->aaw,plainGet_of->aaN,excIn->aaU,callWith_K->aa0,methodObj->abh,plainOver->abi,takerIn->abQ,makesIn->abS,readsIn->abT,findCls->abU,nsOkIn->ab9,pyHash_slot->adA,tail_of_in->adK,handedIn->aen,OpenLaw->aeJ,typeIn->aeV,kitOne->aeX,notCls->aeZ,mroIn->afx,clsIn->afz
open List renaming getElem?_eq_some_iff->UP,length_map->UR,length_append->UZ,getElem?_append_left->U3,getElem?_map->U4,mem_cons_self->U5,mem_cons_of_mem->U6,getElem?_eq_getElem->U7,replicate->U8,mem_singleton->U9,size_toArray->Va,range->Vc,length_cons->Vd,mem_of_getElem?->Ve,map_cons->Vf,mem_cons->Vm,lookup_cons->Vq,getElem?_append_right->Vr,mem_map->Vs,map_append->Vu,append_assoc->Vw,append_nil->Vz,map_map->VG,mem_append->VH,mem_append_right->VQ,length_replicate->VR,length_range->VS,getElem?_set_ne->VX,find?_cons->VY,length_set->V2,length_take->V5,mem_iff_getElem?->V9,replicate_succ->Wc,nodup_cons->Wf,getElem?_set_self->Wg,mem_range->Wh,getElem?_set->Wk,Nodup->Wm,all_eq_true->Wr,mem_append_left->Wv,not_mem_nil->Ww,pairwise_singleton->Wx,reverse_cons->WE,length_nil->WG,take_length->W6,drop_eq_getElem_cons->Xg,pairwise_iff_getElem->Xh,mem_filter->Xj,flatten_cons->Xp,take_add_one->Xq,length_reverse->Xz,getElem?_replicate->XB,lookup->XM,lookup_cons_self->XY,nodup_append->X6,any_eq_true->Ye,getElem?_eq_none_iff->Yh,filterMap_cons->Yj,mem_filterMap->Yq,pairwise_cons->Yr,map_nil->Yz,drop_eq_nil_of_le->YA,length_singleton->YR,length_drop->YT,any_cons->YX,length->Y1,pairwise_append->Y3,of_mem_zip->Y9,foldl_cons->Za,forIn_cons->Zb,map_congr_left->Zh,toList_toArray->Zj,contains_cons->Zu,nodup_nil->Zv,pairwise_map->ZQ,getElem?_take_of_lt->ZT,getElem?_cons_succ->aag,filter_cons->aah,Perm->aai,foldl->aan,pairwise_lt_range->aaq,length_filter_le->aaH,getElem?_eq_none->aaK,forIn_nil->aaT,find?_eq_none->abt,map_filterMap->abu,map_inj_right->abv,toArray->abL,getElem_mem->abY,cons_ne_nil->ab1,mem_reverse->ab2,map_reverse->ab3,nil_append->ach,drop_zero->acD,mem_of_find?_eq_some->acO,filterMap_cons_none->ac9,filterMap_cons_some->ada,getElem?_cons_zero->adl,take_of_length_le->adB,set_append_right->adO,mem_iff_getElem->aed,mem_of_mem_take->aef,reverse_reverse->aeh,filterMap_map->aeH,set_cons_zero->aeM,set_cons_succ->aeN,getElem_range->aeO,any_eq_false->aeU,getElem?_inj->ae1,zipIdx_cons->afy,cons_append->afA,zipIdx_nil->afP,find?_some->afQ,range_succ->afR,length_zip->afS,all_map->aht
open Bool renaming true->US,false->U0,false_ne_true->Vg,and_eq_true->Vh,false_eq_true->VN,and_self->WC,not_true->Yn,false_and->Yy,true_or->YB,true_and->YW,or_eq_true->Zc,false_or->ZW,or_true->aap,and_true->abl,eq_false_iff->abM,eq_iff_iff->aci,and_false->acC,or_false->ac5,or_eq_false_iff->aeg,not_eq_true'->ae0,bne_false->agl,not_false->agm
open Nat renaming le_of_ble_eq_true->UW,le_refl->U1,ne_of_lt->Vk,lt_of_lt_of_le->Vo,zero_le->VF,le_trans->VT,ne_of_gt->Wd,lt_irrefl->Wi,lt_succ_self->WN,add_assoc->WU,zero_add->W4,not_lt_zero->Xr,pow_succ->Xs,mul_assoc->Xw,add_sub_cancel_left->XG,lt_succ_of_lt->X8,add_comm->YG,lt_trans->YH,mod_eq_of_lt->YZ,two_pow_pos->Zi,lt_of_le_of_lt->ZF,le_of_succ_le->ZU,add_mod->ZX,mul_mod->ZY,le_add_right->aam,le_of_lt->aas,mod_lt->aax,min_eq_left->aaJ,le_succ->aa1,mul_le_mul->aa3,lt_of_le_of_ne->abB,sub_self->abV,le_of_lt_succ->abW,min_le_right->ab6,mul_add->ack,mod_mod->acm,mul_comm->adH,sub_zero->adJ,succ_add->adM,succ_pos->adN,add_mul->aer,mod_eq_sub_mod->ae2,add_right_comm->ae3,le_antisymm->agn,le_of_eq->ah5,succ_mul->ah7,mul_one->aje,not_lt->akr,max_le->akt
open Option.some renaming inj->Vi
open Array renaming length_toList->Vl,getElem?_toList->VU,getElem?_eq_some_iff->V1,getElem?_eq_getElem->Xd,getD_eq_getD_getElem?->XX,forIn_toList->Zs,getElem?_setIfInBounds_self_of_lt->aaI,getElem?_setIfInBounds_ne->abK,toArray_toList->adL,find?_toList->aem,toList_push->aeK,toList->agC
open PyProof.Rows renaming envOfC->Vv,slot_tuple_getitem->VV,callWith_type1->WW,callWith_builtin1->ajb,kws_cons->ajc,kws_nil->ajd
open Int renaming toNat_natCast->Wl,le_refl->aa4,toNat_of_nonneg->abj,emod_lt_of_pos->abA,ofNat->aca,emod_nonneg->acw,fdiv_eq_ediv_of_nonneg->acM,toNat->adC,ediv_one->ah6
open PySem.F renaming plainAttrs_list->Wu,called_set->WH,slot_list_append->Xm,type_list_append->Xn,excBase_ValueError->X1,args_tuple_add_2->ZE,slot_dict_values->ZI,entry_tuple_add->ZO,plainAttrs_dict->ZP,slot_tuple_add->Z9,attrBase_ValueError->ab0,slot_dict_getitem->acj,type_dict_values->acx,slot_list_clear->acE,type_list_clear->acF,slot_dict_pop->ac7,plain_set_new->ac8
open PySem.SeqAt renaming eqv_refl->XQ,compareEq_reads->aki,compareNe_reads->akj,in_list_reads->akk,in_tuple_reads->akl,notIn_list_reads->akm,notIn_tuple_reads->akn
open PyProof.Rows.F renaming plain_set_update_loop->XT,entry_set_update_loop->ZZ
open List.Pairwise renaming nil->Y2,of_map->aib,filterMap->aic,filter->aid,map->aie
open List.Perm renaming refl->aal,swap->anF
open Int.ofNat renaming inj->aeP
open PySem.PassesOwn renaming never->agG
open PySem.W.Looks renaming here->ah2
open PySem.Within renaming cons->aja
open List.Nodup renaming sublist->amr
open PySem.IsL renaming update->anE
open List.cons renaming injEq->anH
abbrev W:=@rfl
abbrev G:=@List
abbrev I:=@Option
open Option renaming some->R,none->S
open Bool renaming true->P
open PySem renaming Addr->M,Value->B
namespace L2
open PySem PySem.Spec PyProof.Rows
abbrev de:=Sum Int Str
def wM:de->B->Bool
 |.inl k,v=>UQ.isInt k v
 |.inr x,v=>UQ.isStrOf x v
def T6(w:VJ):de->Int
 |.inl k=>hashInt k
 |.inr x=>hashStr w x
theorem dD:∀{k:de} {v:B},wM k v=P->(∃i t,k=Sum.inl i/\v=UQ.int i t)\/(∃x t,k=Sum.inr x/\v=UQ.str x t)
 |.inl i,v,h=>by let(t,e):=UQ.isInt_shape h;show .inl #[i,t,W,e]
 |.inr x,v,h=>by let(t,e):=UQ.isStrOf_shape h;show .inr #[x,t,W,e]
def F7(i:Int)(t:Tok):wM (.inl i) (.int i t)=P:=by simp[wM,UQ.isInt]
def FH(x:Str)(t:Tok):wM (.inr x) (.str x t)=P:=by simp[wM,UQ.isStrOf]
def OB(a b:Int):decide ((Sum.inl a:de)=Sum.inl b)=(a==b):=by
 by_cases e:a=b
 .subst e;simp
 .let h:¬(Sum.inl a:de)=Sum.inl b:=λq=>e (Sum.inl.inj q);rw[a4 h];show(beq_eq_false_iff_ne.mpr e).symm
def QA(a b:Str):decide ((Sum.inr a:de)=Sum.inr b)=decide (a=b):=by
 by_cases e:a=b
 .subst e;simp
 .let h:¬(Sum.inr a:de)=Sum.inr b:=λq=>e (Sum.inr.inj q);rw[a4 h,a4 e]
theorem PB(a:Int)(b:Str):decide ((Sum.inl a:de)=Sum.inr b)=U0:=a4 (λq=>nomatch q)
theorem QM(a:Str)(b:Int):decide ((Sum.inr a:de)=Sum.inl b)=U0:=a4 (λq=>nomatch q)
def dC(prog:Vn)(w:VJ):PySem.KeyKind prog w de where
 is:=wM
 hash:=T6 w
 inj:=λv a b l f=>by
  rcases dD l with⟨i,t,rfl,rfl⟩|⟨x,t,rfl,rfl⟩
  .rcases dD f with⟨j,u,rfl,e⟩|⟨y,u,rfl,e⟩
   .injection e with e1 _;rw[e1]
   .show nomatch e
  .rcases dD f with⟨j,u,rfl,e⟩|⟨y,u,rfl,e⟩
   .show nomatch e
   .injection e with e1 _;rw[e1]
 byValue:=λk v h=>by rcases dD h with⟨i,t,rfl,rfl⟩|⟨x,t,rfl,rfl⟩<;>rfl
 pyHash:=λd h=>by
  rcases dD d with⟨i,t,rfl,rfl⟩|⟨x,t,rfl,rfl⟩
  .show ahZ h
  .show ah0 h
 eqBool:=λg d h=>by
  rcases dD g with⟨i,t,rfl,rfl⟩|⟨x,t,rfl,rfl⟩
  .rcases dD d with⟨j,u,rfl,rfl⟩|⟨y,u,rfl,rfl⟩
   .rw[OB]at h;show wpAny_eqBool_int h
   .rw[PB]at h;show SeqAt.EqAt.int_str i t y u _ _ _ _ h
  .rcases dD d with⟨j,u,rfl,rfl⟩|⟨y,u,rfl,rfl⟩
   .rw[QM]at h;show SeqAt.EqAt.str_int x t j u _ _ _ _ h
   .rw[QA]at h;show wpAny_eqBool_str h
 «strs»:=λk x t v h=>by
  rcases dD h with⟨i,u,rfl,e⟩|⟨y,u,rfl,e⟩
  .show nomatch e
  .injection e with e1 _
   subst e1;ext v<;>rfl
theorem AW(prog:Vn)(w:VJ)(i:Int)(t:Tok):(dC prog w).is (.inl i) (.int i t)=P:=F7 i t
theorem Ax(prog:Vn)(w:VJ)(x:Str)(t:Tok):(dC prog w).is (.inr x) (.str x t)=P:=FH x t
inductive V where
 |XN|bl (b:Bool)|int (i:Int)|str (x:Str)|byt (b:Array UInt8)|flt (b:UInt64)|ref (a:M)|ty (n:String)
 deriving DecidableEq
def RelV:V->B->Prop
 |.XN,u=>u=UQ.none
 |.bl b,u=>u=UQ.bool b
 |.int i,u=>∃t,u=UQ.int i t
 |.str x,u=>∃t,u=UQ.str x t
 |.byt b,u=>∃t,u=UQ.bytes b t
 |.flt b,u=>∃t,u=UQ.float b t
 |.ref a,u=>u=UQ.ref a
 |.ty n,u=>u=UQ.type n
abbrev Vals:G V->G B->Prop:=Paired RelV
theorem Vals.length(r:Vals xs us):xs.length=us.length:=Paired.length r
theorem Vals.get:∀{xs:G V} {us:G B} {i:Nat} {x:V},Vals xs us->xs[i]?=R x->∃u,us[i]?=R u/\RelV x u
 |_,_,_,_,.nil,e=>by simp at e
 |_,_,0,_,.cons r _,e=>by simp at e;subst e;show#[_,W,r]
 |_,_,i+1,x,.cons _ t,e=>by let(u,b,a):=Vals.get t (by simpa using e);show#[u,by simpa using b,a]
theorem Vals.append:∀{xs a:G V} {us ws:G B},Vals xs us->Vals a ws->Vals (xs++a) (us++ws)
 |_,_,_,_,.nil,s=>s
 |_,_,_,_,.cons r t,s=>.cons r (Vals.append t s)
theorem Vals.take:∀{xs:G V} {us:G B} (n:Nat),Vals xs us->Vals (xs.take n) (us.take n)
 |_,_,0,_=>.nil
 |_,_,_+1,.nil=>.nil
 |_,_,n+1,.cons r t=>.cons r (Vals.take n t)
theorem Vals.drop:∀{xs:G V} {us:G B} (n:Nat),Vals xs us->Vals (xs.drop n) (us.drop n)
 |_,_,0,r=>r
 |_,_,_+1,.nil=>.nil
 |_,_,n+1,.cons _ t=>Vals.drop n t
def ZJ:I V->I B->Prop
 |some v,R u=>RelV v u
 |none,S=>True
 |_,_=>False
def KV:G (o×V)->G (o×B)->Prop:=Paired λ(p:o×V) (q:o×B)=>p.1=q.1/\RelV p.2 q.2
def kV:de->V
 |.inl i=>.int i
 |.inr x=>.str x
inductive HO where
 |lst (xs:G V)
 |tup (xs:G V)
 |dK (Vy:G (de×V))|dT (Vy:G (G de×V))
 |set (S:Int->Bool) (n:Nat)
 |ins (C dx:M) (fs:G (Str×V))
 |own (x:M)
 |xd (fs:G (Str×V))
 |met (f x:M)
 |rng (lo hi:Int)
 |frz (o:Obj) (u:HO)
 |tbl (ps:Array B)
 |ext (φ:Heap->Prop)
 |exw (φ:VJ->Heap->Prop)
abbrev Hp:=M->I HO
def bJ(H:Hp)(a:M)(o:HO):Hp:=λb=>if b=a then R o else H b
def aO:bJ H a o a=R o:=by ext bJ;rw[av W]
def aF(h:b≠a):bJ H a o b=H b:=by ext bJ;rw[ax h]
def SJ{H:Hp}{a b:M}{o u:HO}(h:H a=R o)(c:H b=R u)(d:o≠u):a≠b:=by intro e;subst e;rw[h]at c;show d (Vi c)
def cC{H:Hp}(h:H a=R o)(c:H b=S):a≠b:=by intro e;subst e;rw[h]at c;ext c
def abF(h:Heap)(a:M)(items:Array B):Prop:=∃o,h.get? a=R o/\(o.cls=.type "tuple"/\∃n,o.data=.seq items n)/\o.dict=S
theorem abF.tup(x:abF h a items):IsTup h a items:=let#[o,e,c,_]:=x;#[o,e,c]
theorem abF.lt(x:abF h a items):a<h.objs.size:=let#[_,e,_]:=x;cn e
theorem abF.new(h:Heap)(xs:Array B):abF (h.push {cls:=.type "tuple",data:=.seq xs}) h.objs.size xs:=#[_,cv _ W,#[W,_,W],W]
section
variable(P:Vn)(w:VJ)
def ObjOk(H:Hp)(h:Heap)(a:M):HO->Prop
 |.lst xs=>xs.length<=Vb/\∃(b:G B) (n:Nat),Vals xs b/\h.get? a=R {cls:=.type "list",data:=.seq b.toArray n}
 |.tup xs=>xs.length<=Vb/\∃b:G B,Vals xs b/\abF h a b.toArray
 |.dK j=>j.length<=Vb/\(a==Xi)=U0/\∃m,KV j m/\h.DictOf (dC P w) a m
 |.dT j=>j.length<=Vb/\(a==Xi)=U0/\∃xs:G (G de×M×B),
   Paired (λ(p:G de×V) (q:G de×M×B)=>p.1=q.1/\H q.2.1=R (.tup (p.1.map kV))/\RelV p.2 q.2.2) j xs/\
   ∃o r A,h.get? a=R o/\o.ExactDict/\o.data=.dict r A/\r.toList=xs.map (entryOfKey (tupleKind (dC P w)))/\(xs.map (·.1)).Nodup
 |.set d n=>h.SetOf (intKind P w) a d n
 |.ins C l fs=>H l=R (.own a)/\fs.length<=1000/\l≠a/\h.get? a=R (W8 C l)/\
   ∃g,h.Ns1 l g/\(∀f,ZJ (fs.lookup f) (g f))/\adh g (fs.map (·.1))
 |.own _=>∃o,h.get? a=R o
 |.xd fs=>∃g,h.Ns1 a g/\∀f,ZJ (fs.lookup f) (g f)
 |.rng lo z=>∃t u v,h.get? a=R {cls:=.type "range",data:=.fields #v[.int lo t,.int z u,.int 1 v]}
 |.frz o u=>h.get? a=R o/\ObjOk H h a u
 |.tbl y=>h.get? a=R {cls:=.none,data:=.fields y}
 |.met f x=>h.get? a=R (abh (.ref f) (.ref x))
 |.ext e=>e h/\(∃o,h.get? a=R o)/\∀h1 i:Heap,e h1->(∀o,h1.get? a=R o->i.get? a=R o)->e i
 |.exw e=>e w h/\(∃o,h.get? a=R o)/\∀h1 i:Heap,e w h1->(∀o,h1.get? a=R o->i.get? a=R o)->e w i
def HOk(H:Hp)(h:Heap):Prop:=∀a o,H a=R o->ObjOk P w H h a o
end
section
variable{P:Vn}{w:VJ}{H Z:Hp}{h h':Heap}{a:UX}{o:HO}
def ObjOk.lt(x:ObjOk P w H h a o):a<h.objs.size:=by
 cases o with
 |lst xs=>let(_,_,_,_,e):=x;show cn e
 |tup xs=>let(_,_,_,p):=x;show p.lt
 |dK g=>let(_,_,_,_,o,_,_,e,_):=x;show cn e
 |dT g=>let(_,_,_,_,o,_,_,e,_):=x;show cn e
 |set S n=>let(o,_,_,_,e,_):=x;show cn e
 |ins C l fs=>let(_,_,_,e,_):=x;show cn e
 |own y=>let(_,e):=x;show cn e
 |xd fs=>let(_,(_,_,_,e,_),_):=x;show cn e
 |rng lo j=>let(_,_,_,e):=x;show cn e
 |frz b u=>let(e,_):=x;show cn e
 |tbl i=>show cn (show h.get? a=R _ from x)
 |met f y=>show cn (show h.get? a=R _ from x)
 |ext d=>let(_,(_,e),_):=x;show cn e
 |exw d=>let(_,(_,e),_):=x;show cn e
theorem Paired.Zt:∀{e:bg α} {c:bg β},Paired F e c->(∀a b,F a b->d a b)->Paired d e c
 |_,_,.nil,_=>.nil
 |_,_,.cons r t,f=>.cons (f _ _ r) (Paired.Zt t f)
def ObjOk.aaf(x:ObjOk P w H h a o)(k:∀b u,(b=a\/H b=R (.own a))->h.get? b=R u->h'.get? b=R u)
  (G:∀b,H b=R (.own a)->Z b=R (.own a)) (F:∀b xs,H b=R (.tup xs)->Z b=R (.tup xs)):ObjOk P w Z h' a o:=by
 induction o with
 |lst xs=>let(z,B,n,r,e):=x;show#[z,B,n,r,k _ _ (.inl W) e]
 |tup xs=>let(z,B,r,g,e,c):=x;show#[z,B,r,g,k _ _ (.inl W) e,c]
 |dK N=>let(z,y,L,r,g,i,j,e,c):=x;show#[z,y,L,r,g,i,j,k _ _ (.inl W) e,c]
 |dT N=>let(z,y,xs,r,g,i,j,e,c):=x;show#[z,y,xs,Paired.Zt r λp q z=>#[z.1,F _ _ z.2.1,z.2.2],g,i,j,k _ _ (.inl W) e,c]
 |set S n=>let(g,i,j,t,e,c):=x;show#[g,i,j,t,k _ _ (.inl W) e,c]
 |ins C Q fs=>let(d,z,ne,e,A,(m,i,j,I,c),r):=x;show#[G _ d,z,ne,k _ _ (.inl W) e,A,#[m,i,j,k _ _ (.inr d) I,c],r]
 |own y=>let(g,e):=x;show#[g,k _ _ (.inl W) e]
 |xd fs=>let(A,(m,i,j,e,c),r):=x;show#[A,#[m,i,j,k _ _ (.inl W) e,c],r]
 |rng lo O=>let(t,u,v,e):=x;show#[t,u,v,k _ _ (.inl W) e]
 |frz g u E=>let(e,q):=x;show#[k _ _ (.inl W) e,E q]
 |tbl J=>let e:h.get? a=R {cls:=.none,data:=.fields J}:=x;show h'.get? a=R {cls:=.none,data:=.fields J};show k a _ (.inl W) e
 |met f y=>let e:h.get? a=R (abh (.ref f) (.ref y)):=x;show h'.get? a=R (abh (.ref f) (.ref y));show k a _ (.inl W) e
 |ext K=>let(p,(o,e),l):=x;show#[l _ _ p λo q=>k _ _ (.inl W) q,#[o,k _ _ (.inl W) e],l]
 |exw K=>let(p,(o,e),l):=x;show#[l _ _ p λo q=>k _ _ (.inl W) q,#[o,k _ _ (.inl W) e],l]
theorem HOk.lt(x:HOk P w H h)(e:H a=R o):a<h.objs.size:=(x a o e).lt
def HOk.fresh(x:HOk P w H h)(e:h.objs.size<=a):H a=S:=by
 cases q:H a with
 |none=>rfl
 |some u=>show a6 (Vo (x.lt q) e) (Wi _)
theorem HOk.kept(x:HOk P w H h)(k:∀b u,h.get? b=R u->h'.get? b=R u):HOk P w H h':=λa o e=>
 (x a o e).aaf (λb u _ q=>k b u q) (λ_ q=>q) λ_ _ q=>q
theorem HOk.laid(x:HOk P w H h)(k:∀b u,h.get? b=R u->h'.get? b=R u)(f:h.objs.size<=a)(new:ObjOk P w (bJ H a o) h' a o):HOk P w (bJ H a o) h':=λb u e=>by
 let g:=x.fresh f;by_cases d:b=a
 .subst d;rw[aO]at e;ext e;show new
 .rw[aF d]at e;show(x b u e).aaf (λc v _ q=>k c v q) (λc q=>by rw[aF (cC q g)];show q) λc xs q=>by rw[aF (cC q g)];show q
end
def Rd(H:Hp)(a:M)(u:HO):Prop:=H a=R u\/∃o,H a=R (.frz o u)
def Rd.ok(r:Rd H a u)(x:HOk b w H h):ObjOk b w H h a u:=by
 rcases r with r|⟨o,r⟩
 .show x a u r
 .let(_,q):=x a _ r;show q
def Su:I HO->Prop
 |some (.lst _)=>True
 |some (.dK _)=>True
 |some (.dT _)=>True
 |some (.set _ _)=>True
 |some (.ins _ _ _)=>True
 |some (.ext _)=>True
 |some (.exw _)=>True
 |_=>False
section
variable{P:Vn}{w:VJ}{H:Hp}{h h':Heap}{x e:UX}{Z:HO}
theorem HOk.write(ok:HOk P w H h)(f:Su (H x))(n:e=x\/H e=R (.own x))(k:∀b u,b≠e->h.get? b=R u->h'.get? b=R u)(j:∃u,h'.get? e=R u)
  (new:ObjOk P w (bJ H x Z) h' x Z):HOk P w (bJ H x Z) h':=λb u q=>by
 let d:∀c y,H c=R (.own y)->c≠x:=λc y r z=>by subst z;rw[r]at f;show f
 let l:∀c xs,H c=R (.tup xs)->c≠x:=λc xs r z=>by subst z;rw[r]at f;show f
 by_cases i:b=x
 .subst i;rw[aO]at q;ext q;show new
 .rw[aF i]at q
  by_cases a:b=e
  .let m:H b=R (.own x):=by
    rcases n with z|z
    .show a6 (a.trans z) i
    .rw[a];show z
   rw[q]at m;ext m;let(v,o):=j;show#[v,by rw[a];show o]
  .show(ok b u q).aaf (λc v g r=>k c v ?_ r) (λc r=>by rw[aF (d c b r)];show r) λc xs r=>by rw[aF (l c xs r)];show r
   rcases g with rfl|g
   .show a
   .rintro rfl
    rcases n with z|z
    .show d c b g z
    .rw[g]at z;ext z;show i W
end
structure Un(fs ex:G M)(H H':Hp)(h h':Heap):Prop where
 keep:∀b o,h.get? b=R o->H b=S->b∉fs->b∉ex->h'.get? b=R o
 slot:∀b o,h.get? b=R o->H b=S->b∈fs->b∉ex->∃sl,h'.get? b=R {o with slots:=sl}
 free:∀b o,h.get? b=R o->H b=S->b∉ex->H' b=S
 there:∀b o,h.get? b=R o->b∉ex->∃o',h'.get? b=R o'
 abI:∀b xs,H b=R (.tup xs)->H' b=R (.tup xs)
 abp:∀b o u,H b=R (.frz o u)->H' b=R (.frz o u)
 abH:∀b ps,H b=R (.tbl ps)->∃more,H' b=R (.tbl (ps++more))
section
variable{fs X Z U:bg UX}{H T Q:Hp}{h Y O h':Heap}{a x e:UX}{o:HO}
def Un.any(u:Un fs Z H T h Y)(q:h.get? b=R ob)(n:H b=S)(d:b∉Z):∃c,Y.get? b=R {ob with slots:=c}:=by
 by_cases f:b∈fs
 .show u.slot b ob q n f d
 .show#[ob.slots,u.keep b ob q n f d]
theorem Un.kept(k:∀b u,h.get? b=R u->h'.get? b=R u):Un fs Z H H h h':=
 #[λb d q _ _ _=>k b d q,λb d q _ _ _=>#[d.slots,k b d q],λ_ _ _ n _=>n,λb d q _=>#[d,k b d q],λ_ _ q=>q,λ_ _ _ q=>q,λ_ f q=>#[#v[],by rw[q];simp]]
theorem Un.refl:Un fs Z H H h h:=Un.kept λ_ _ q=>q
theorem Un.laid(k:∀b u,h.get? b=R u->h'.get? b=R u)(d:h.objs.size<=a)(c:H a=S):Un fs Z H (bJ H a o) h h' where
 keep:=λb u q _ _ _=>k b u q
 slot:=λb u q _ _ _=>#[u.slots,k b u q]
 free:=λb u q n _=>by rw[aF (Vk (Vo (cn q) d))];show n
 there:=λb u q _=>#[u,k b u q]
 abI:=λb xs q=>by rw[aF (cC q c)];show q
 abp:=λb u xs q=>by rw[aF (cC q c)];show q
 abH:=λb f q=>#[#v[],by rw[aF (cC q c),q];simp]
def Un.write(f:Su (H x))(m:e=x\/H e=R (.own x))(k:∀b u,b≠e->h.get? b=R u->h'.get? b=R u)(g:∃u,h'.get? e=R u):Un fs Z H (bJ H x o) h h':=by
 let i:∀b,H b=S->b≠x:=λb n z=>by subst z;rw[n]at f;show f
 let j:∀b,H b=S->b≠e:=λb n z=>by
  subst z;rcases m with r|r
  .show i b n r
  .rw[n]at r;ext r
 let hm:∀b u,H b=R u->¬Su (R u)->b≠x:=λb u q l z=>by subst z;rw[q]at f;show l f
 show#[λb u q n _ _=>k b u (j b n) q,λb u q n _ _=>#[u.slots,k b u (j b n) q],λb u q n _=>by rw[aF (i b n)];show n,λb u q _=>?_,
  λb xs q=>by rw[aF (hm b _ q λz=>z)];show q,λb u xs q=>by rw[aF (hm b _ q λz=>z)];show q,λb p q=>#[#v[],by rw[aF (hm b _ q λz=>z),q];simp]]
 by_cases d:b=e
 .subst d;show g
 .show#[u,k b u d q]
end
def S1(h:Heap)(H:Hp):G M:=(Vc h.objs.size).filter λa=>(H a).isSome
def xK(h:Heap)(H:Hp):Heap:=PySem.W.hideAll h (S1 h H)
theorem Gj(h:Heap)(H:Hp):(xK h H).objs.size=h.objs.size:=PySem.W.hideAll_size _ _
theorem GS(e:h.get? b=R o)(n:H b=S):(xK h H).get? b=R o:=
 PySem.W.hideAll_get _ e λhm=>by let q:=(Xj.mp hm).2;rw[n]at q;simp at q
def NC(e:(xK h H).get? b=R o):h.get? b=R o/\H b=S:=by
 let a:=PySem.W.of_hideAll (S1 h H) e;show#[a,?_];cases q:H b with
 |none=>rfl
 |some x=>let hm:b∈S1 h H:=Xj.mpr #[Wh.mpr (cn a),by simp[q]];let z:(xK h H).get? b=S:=PySem.W.hideAll_none (S1 h H) hm;rw[z]at e;ext e
structure Mod(K:UN)(mg:Str->I B)(base:Heap):Prop where
 kin:K.In base
 glob:base.Ns Vj mg
 blt:∃mb,base.Ns builtinsNs mb/\∀x:Str,x≠ "__name__"->mb x=Wb x
 nolimit:base.NoLimit
structure Cx where
 prog:Vn
 w:VJ
 K:UN
 mg:Str->I B
 base:Heap
 A:Vx
 N:G Str
 s₀:UY
 H₀:Hp
 env:Env
 outer:G Env
 stack:G Env
 ex:G M
 fn:Str->Bool
 calm:Bool
 pn:G (M×Obj)
 xe:B->UY->Prop
def A0(l:G Env):G M:=l.filterMap (·.frame)
abbrev Cx.fs(X:Cx):G M:=A0 X.outer
def Ti(sc:YU)(x:Str):Prop:=sc.names.lookup x=R .local\/sc.names.lookup x=R .cell\/sc.names.lookup x=R .free
def RP(sc:YU)(x:Str):Prop:=sc.names.lookup x=R .local\/sc.names.lookup x=R .cell
def T5(env:Env)(h:Heap)(m:Str->I B)(x:Str)(u:B):Prop:=
 (env.kindOf x=R .local/\m x=R u)\/((env.kindOf x=R .cell\/env.kindOf x=R .free)/\∃c,env.cells.lookup x=R c/\h.IsCell c (R u))
structure Cx.Ok(X:Cx):Prop where
 mod:Mod X.K X.mg X.base
 kind:X.env.scope.kind=.function
 glob:X.env.globals=Vj
 blt:X.env.builtins=builtinsNs
 above:X.s₀.heap.objs.size<=X.env.locals
 inj:∀x y c,X.env.cells.lookup x=R c->X.env.cells.lookup y=R c->x=y
 has:∀x,(X.env.kindOf x=R .cell\/X.env.kindOf x=R .free)->∃c,X.env.cells.lookup x=R c
 cab:∀x c,X.fn x=P->X.env.cells.lookup x=R c->X.s₀.heap.objs.size<=c
 hd:X.calm=P->X.A.handled=S
 frames:X.A.frames=R X.stack
 stk:X.stack=X.outer\/(X.stack=X.env::X.outer/\X.env.frame=R X.env.locals)
 exf:∀b∈X.ex,b≠X.env.locals/\∀x c,X.env.cells.lookup x=R c->c≠b
 bs:∀b o,X.base.get? b=R o->X.s₀.heap.get? b=R o/\X.H₀ b=S
 bsz:X.base.objs.size<=X.s₀.heap.objs.size
 ado:∀b o,X.base.get? b=R o->b∉X.ex
 ady:∀b∈X.ex,b∉X.fs
 aba:X.s₀.heap.FunFrames X.base X.outer
 frf:∀b∈X.fs,X.H₀ b=S
structure Inv(X:Cx)(pins:G (M×Obj))(σ:G (I V))(H:Hp)(s:UY):Prop where
 ok:X.Ok
 os:s.os=X.s₀.os
 bare:AllBare s.gens
 base:Un X.fs X.ex X.H₀ H X.s₀.heap s.heap
 loc:∃m,s.heap.Ns X.env.locals m/\∀(i:Nat) (x:Str) (v:V),X.N[i]?=R x->σ[i]?=R (R v)->Ti X.env.scope x->∃u,RelV v u/\T5 X.env s.heap m x u
 cell:∀x c,X.env.cells.lookup x=R c->∃v,s.heap.IsCell c v
 free:H X.env.locals=S
 YE:∀x c,X.env.cells.lookup x=R c->H c=S
 pin:∀p∈X.pn++pins,s.heap.get? p.1=R p.2/\H p.1=S/\p.1≠X.env.locals/\p.1∉X.fs/\∀v,p.2.data≠.cell v
 Wn:HOk X.prog X.w H s.heap
 len:σ.length=X.N.length
section
variable{X:Cx}{Z:bg (UX×Obj)}{Y:bg (br V)}{H H':Hp}{s:UY}{h':Heap}
theorem Cx.Ok.alR(ok:X.Ok)(e:X.base.get? b=R o):b∉X.fs:=λa=>by let:=(ok.aba.mem a).1;rw[e]at this;ext this
theorem Inv.bs(I:Inv X Z Y H s):∀b o,X.base.get? b=R o->s.heap.get? b=R o/\H b=S:=λb o e=>
 #[I.base.keep b o (I.ok.bs b o e).1 (I.ok.bs b o e).2 (I.ok.alR e) (I.ok.ado b o e),I.base.free b o (I.ok.bs b o e).1 (I.ok.bs b o e).2 (I.ok.ado b o e)]
theorem Inv.bk(I:Inv X Z Y H s):∀b o,X.base.get? b=R o->s.heap.get? b=R o:=λb o e=>(I.bs b o e).1
theorem Inv.mod(I:Inv X Z Y H s):Mod X.K X.mg X.base:=I.ok.mod
theorem Inv.kIn(I:Inv X Z Y H s):X.K.In s.heap:=I.ok.mod.kin.keeps I.bk
theorem Inv.lt(I:Inv X Z Y H s):X.env.locals<s.heap.objs.size:=let#[_,a,_]:=I.loc;a.lt
theorem Inv.sz(I:Inv X Z Y H s):X.s₀.heap.objs.size<=s.heap.objs.size:=VT I.ok.above (aas I.lt)
theorem Inv.alN(I:Inv X Z Y H s)(h:s.heap.objs.size<=a):a∉X.fs:=λd=>by let(_,o,b,_):=I.ok.aba.mem d;show a6 (Vo (cn b) (VT I.sz h)) (Wi _)
theorem Inv.cne(I:Inv X Z Y H s):∀x c,X.env.cells.lookup x=R c->c≠X.env.locals:=λx c e z=>by let(v,o,d,f):=I.cell x c e;let(m,(g,h,i,a,b,_),_):=I.loc;rw[z,a]at d;ext d;rw[b]at f;ext f
def Inv.aba(I:Inv X Z Y H s):s.heap.FunFrames X.base X.outer:=by
 let all:∀(l:G Env),(∀b∈A0 l,b∈X.fs)->X.s₀.heap.FunFrames X.base l->s.heap.FunFrames X.base l:=by
  intro l
  induction l with
  |nil=>intro _ _;trivial
  |cons q r h=>intro g m;let(n,(L,o,a,u,j,p),i):=m;let f:=g L (by ext A0;rw[Yj,a];show U5);let(t,e):=I.base.slot L o j (I.ok.frf L f) f λz=>I.ok.ady L z f;show#[n,#[L,_,a,u,e,p],h (λb d=>g b (by ext A0;rw[Yj,a];show U6 _ d)) i]
 show all X.outer (λ_ d=>d) I.ok.aba
def Inv.stack(I:Inv X Z Y H s):s.heap.FunFrames X.base X.stack:=by
 rcases I.ok.stk with e|⟨e,hf⟩
 .rw[e];show I.aba
 .rw[e];let(m,a,_):=I.loc;show .cons (by rw[I.ok.kind];decide) hf a ?_ I.aba;show dN (VT I.ok.bsz I.ok.above)
theorem Inv.abE(I:Inv X Z Y H s):∀b∈A0 X.stack,b∈X.env.locals::X.fs:=λb a=>by
 rcases I.ok.stk with e|⟨e,hf⟩
 .rw[e]at a;show U6 _ a
 .rw[e]at a;unfold A0 at a;rw[Yj,hf]at a;show a
theorem Inv.ab5(I:Inv X Z Y H s):∀b∈A0 X.stack,H b=S:=λb a=>by
 rcases Vm.mp (I.abE b a)with e|a
 .rw[e];show I.free
 .let(_,o,d,_):=I.ok.aba.mem a;show I.base.free b o d (I.ok.frf b a) λz=>I.ok.ady b z a
def Inv.step{g':Array Zr}{t':Nat}{d':aeG}{ch:bg UX}(I:Inv X Z Y H s)
  (g:∀b∈ch,(b∈X.ex\/X.s₀.heap.objs.size<=b)/\b≠X.env.locals/\(∀x c,X.env.cells.lookup x=R c->c≠b)/\∀p∈X.pn++Z,p.1≠b)
  (keep:∀b o,b≠X.env.locals->b∉X.fs->b∉ch->s.heap.get? b=R o->H b=S->h'.get? b=R o)
  (slot:∀b o,b≠X.env.locals->b∈X.fs->b∉ch->s.heap.get? b=R o->H b=S->∃T,h'.get? b=R {o with slots:=T}) (free:∀b o,b∉ch->s.heap.get? b=R o->H b=S->H' b=S)
  (there:∀b o,b∉ch->s.heap.get? b=R o->∃w,h'.get? b=R w)
  (abI:∀b xs,H b=R (.tup xs)->H' b=R (.tup xs)) (U:∀b o u,H b=R (.frz o u)->H' b=R (.frz o u)) (abH:∀b D,H b=R (.tbl D)->∃more,H' b=R (.tbl (D++more)))
  (L:∀m,s.heap.Ns X.env.locals m->h'.Ns X.env.locals m) (Wn:HOk X.prog X.w H' h') (P:AllBare g'):
  Inv X Z Y H' {s with heap:=h',gens:=g',drawn:=d',toks:=t'}:=by
 let B:∀b o,X.s₀.heap.get? b=R o->b≠X.env.locals:=λb o e=>Vk (Vo (cn e) I.ok.above);let j:∀b o,X.s₀.heap.get? b=R o->b∉X.ex->b∉ch:=λb o e a y=>by
  rcases(g b y).1 with z|z
  .show a z
  .show a6 (Vo (cn e) z) (Wi _)
 let h:∀x c,X.env.cells.lookup x=R c->∀v,s.heap.IsCell c v->h'.IsCell c v:=λx c e v #[o,A,F]=>by
  let f:c∉ch:=λz=>(g c z).2.2.1 x c e W;by_cases K:c∈X.fs
  .let(T,q):=slot c o (I.cne x c e) K f A (I.YE x c e);show#[_,q,F]
  .show#[o,keep c o (I.cne x c e) K f A (I.YE x c e),F]
 show#[I.ok,I.os,P,#[λb o e n y a=>?_,λb o e n y a=>?_,λb o e n a=>?_,λb o e a=>?_,λb xs e=>abI b xs (I.base.abI b xs e),λb o xs e=>U b o xs (I.base.abp b o xs e),λb D e=>?_],?_,λx c e=>?_,?_,λx c e=>?_,λp J=>?_,Wn,I.len]
 .show keep b o (B b o e) y (j b o e a) (I.base.keep b o e n y a) (I.base.free b o e n a)
 .let(T,t):=I.base.slot b o e n y a;let(E,C):=slot b _ (B b o e) y (j b o e a) t (I.base.free b o e n a);show#[E,C]
 .let(w,t):=I.base.there b o e a;show free b w (j b o e a) t (I.base.free b o e n a)
 .let(w,t):=I.base.there b o e a;show there b w (j b o e a) t
 .let(N,t):=I.base.abH b D e;let(M,C):=abH b _ t;show#[N++M,by rw[C,Array.append_assoc]]
 .let(m,hn,O):=I.loc
  show#[m,L m hn,λi x v t C Q=>?_];let(u,r,l):=O i x v t C Q;show#[u,r,?_];rcases l with l|⟨k,c,e,z⟩
  .show .inl l
  .show .inr #[k,c,e,h x c e _ z]
 .let(v,z):=I.cell x c e;show#[v,h x c e v z]
 .let(m,(o,_,_,A,_),_):=I.loc;show free _ o (λz=>(g _ z).2.1 W) A I.free
 .let(v,o,A,F):=I.cell x c e;show free c o (λz=>(g c z).2.2.1 x c e W) A (I.YE x c e)
 .let(e,n,ne,G,d):=I.pin p J;let f:p.1∉ch:=λz=>(g p.1 z).2.2.2 p J W;show#[keep p.1 p.2 ne G f e n,free p.1 p.2 f e n,ne,G,d]
def Inv.un{t':Nat}(I:Inv X Z Y H s)(u:Un X.fs [] H H' s.heap h')(Wn:HOk X.prog X.w H' h'):Inv X Z Y H' {s with heap:=h',toks:=t'}:=by let(m,(o,t,v,h,r),_):=id I.loc;let(l,j):=u.any h I.free (by simp);show I.step (g':=s.gens) (d':=s.drawn) (ch:=[]) (λ_ z=>nomatch z) (λb o _ d _ e n=>u.keep b o e n d (by simp)) (λb o _ d _ e n=>u.slot b o e n d (by simp)) (λb o _ e n=>u.free b o e n (by simp)) (λb o _ e=>u.there b o e (by simp)) u.abI u.abp u.abH (λq hm=>by let(p,f,g,a,i):=hm;rw[h]at a;ext a;show#[_,f,g,j,i]) Wn I.bare
def Inv.call{g':Array Zr}{t':Nat}{d':aeG}{ch:G M}(I:Inv X Z Y H s)(u:Un (A0 X.stack) ch H H' s.heap h')(Wn:HOk X.prog X.w H' h')(q:AllBare g')
  (f:∀b∈ch,(b∈X.ex\/X.s₀.heap.objs.size<=b)/\b≠X.env.locals/\(∀x c,X.env.cells.lookup x=R c->c≠b)/\∀p∈X.pn++Z,p.1≠b):
  Inv X Z Y H' {s with heap:=h',gens:=g',drawn:=d',toks:=t'}:=by
 let(m,(o,B,C,j,r),_):=id I.loc;let(v,g):=u.any j I.free λz=>(f _ z).2.1 W;show I.step (ch:=ch) f (λb o g t a e n=>u.keep b o e n (λz=>(Vm.mp (I.abE b z)).elim g t) a) (λb o _ _ a e n=>u.any e n a) (λb o a e n=>u.free b o e n a) (λb o a e=>u.there b o e a) u.abI u.abp u.abH (λA hm=>by let(y,h,i,d,l):=hm;rw[j]at d;ext d;show#[_,h,i,g,l]) Wn q
def Inv.turned{t':Nat}{it:M}(I:Inv X Z Y H s)(k:∀b o,b≠it->s.heap.get? b=R o->h'.get? b=R o)(w:H it=S)(f:it≠X.env.locals)
  (j:it∈X.ex\/X.s₀.heap.objs.size<=it) (y:∀x c,X.env.cells.lookup x=R c->c≠it) (i:∀p∈X.pn++Z,p.1≠it):Inv X Z Y H {s with heap:=h',toks:=t'}:=by
 let d:∀b u,H b=R u->b≠it:=λb u e z=>by rw[z,w]at e;ext e
 show I.step (g':=s.gens) (d':=s.drawn) (ch:=[it]) (λb h=>?_) (λb o _ _ a e _=>k b o (λz=>a (by simp[z])) e) (λb o _ _ a e _=>#[o.slots,k b o (λz=>a (by simp[z])) e]) (λ_ _ _ _ n=>n)
  (λb o a e=>#[o,k b o (λz=>a (by simp[z])) e]) (λ_ _ e=>e) (λ_ _ _ e=>e) (λb A e=>#[#v[],by rw[e];simp]) (λm hm=>?_) (λb u e=>?_) I.bare
 .let e:b=it:=by simpa using h
  subst e;show#[j,f,y,i]
 .let(o,l,t,g,r):=hm;show#[o,l,t,k _ o (ef f) g,r]
 .show(I.Wn b u e).aaf (λc v a q=>k c v ?_ q) (λ_ q=>q) λ_ _ q=>q
  rcases a with z|z
  .rw[z];show d b u e
  .show d c _ z
theorem Inv.tok(I:Inv X Z Y H s)(t:Nat):Inv X Z Y H {s with toks:=t}:=I.un Un.refl I.Wn
theorem Inv.kept{t':Nat}(I:Inv X Z Y H s)(k:∀b u,s.heap.get? b=R u->h'.get? b=R u):Inv X Z Y H {s with heap:=h',toks:=t'}:=I.un (Un.kept k) (I.Wn.kept k)
theorem Inv.laid{a:M}{o:HO}{t':Nat}(I:Inv X Z Y H s)(k:∀b u,s.heap.get? b=R u->h'.get? b=R u)(d:s.heap.objs.size<=a)(new:ObjOk X.prog X.w (bJ H a o) h' a o):
  Inv X Z Y (bJ H a o) {s with heap:=h',toks:=t'}:=I.un (Un.laid k d (I.Wn.fresh d)) (I.Wn.laid k d new)
theorem Inv.write{x e:M}{o:HO}{t':Nat}(I:Inv X Z Y H s)(d:Su (H x))(f:e=x\/H e=R (.own x))(k:∀b u,b≠e->s.heap.get? b=R u->h'.get? b=R u)(a:∃u,h'.get? e=R u)
  (new:ObjOk X.prog X.w (bJ H x o) h' x o):Inv X Z Y (bJ H x o) {s with heap:=h',toks:=t'}:=I.un (Un.write d f k a) (I.Wn.write d f k a new)
theorem Inv.ac2(I:Inv X Z Y H s)(h:∀p∈aiE,s.heap.get? p.1=R p.2/\H p.1=S/\p.1≠X.env.locals/\p.1∉X.fs/\∀v,p.2.data≠.cell v):Inv X aiE Y H s:=
 #[I.ok,I.os,I.bare,I.base,I.loc,I.cell,I.free,I.YE,λp a=>(VH.mp a).elim (λz=>I.pin p (Wv _ z)) (h p),I.Wn,I.len]
def uX{N:G Str}(d:N.Nodup){i j:Nat}(a:N[i]?=R x)(b:N[j]?=R x):i=j:=by let(h,f):=UP.mp a;let(g,e):=UP.mp b;show(List.getElem_inj d).mp (f.trans e.symm)
def wg{M:adG}{A:Vx}{E:B->UY->Prop}{i:Nat}{x:Str}{v:V}{u:B}{Q:Unit->UY->Prop}(I:Inv X Z Y H s)(hN:X.N.Nodup)(D:X.N[i]?=R x)(t:RP X.env.scope x)(r:RelV v u)
  (h:∀F,Inv X Z (Y.set i (R v)) H F->(∃a,Heap.SameBut a s.heap F.heap/\(a=X.env.locals\/X.env.cells.lookup x=R a))->Q ⟨⟩ F) (hf:X.fn x=P\/X.env.scope.names.lookup x=R .local:=by first|show .inl W|show .inr W|assumption):wpAny M A (storeName X.env x u) Q E s:=by
 let(m,hn,hl):=id I.loc;let ahd:(X.env.scope.kind==.class||(X.env.scope.kind==.module&&X.env.locals !=X.env.globals))=U0:=by rw[I.ok.kind];rfl
 let J:i<Y.length:=by rw[I.len];show(UP.mp D).1
 let cne:=I.cne;let tracked:∀{a:UX} {h':Heap},(∃o,s.heap.get? a=R o/\H a=S)->Heap.SameBut a s.heap h'->HOk X.prog X.w H h':=λ{a h'} ha f b ob e=>by
  let(_,_,T):=ha;show(I.Wn b ob e).aaf (λc U l q=>(f.2 c ?_).trans q) (λ_ q=>q) λ_ _ q=>q;rintro rfl;rcases l with rfl|l
  .rw[T]at e;ext e
  .rw[T]at l;ext l
 rcases t with C|C
 .show wpAny_storeName_local C hn (λh' hn' f=>?_) ahd
  let(oL,_,_,hoL,_):=id hn;show h _ #[I.ok,I.os,I.bare,#[λb o e n L t=>?_,λb o e n L t=>?_,I.base.free,λb o e t=>?_,I.base.abI,I.base.abp,I.base.abH],#[_,hn',λj y v' g w e3=>?_],λy c e=>?_,I.free,I.YE,λp hp=>?_,tracked #[oL,hoL,I.free] f,by simpa using I.len] #[_,f,.inl W]
  .show(f.2 b (Vk (Vo (cn e) I.ok.above))).trans (I.base.keep b o e n L t)
  .let(sl,g):=I.base.slot b o e n L t;show#[sl,(f.2 b (Vk (Vo (cn e) I.ok.above))).trans g]
  .let(o',g):=I.base.there b o e t;show#[o',(f.2 b (Vk (Vo (cn e) I.ok.above))).trans g]
  .by_cases hj:j=i
   .subst hj;rw[D]at g;ext g;rw[Wg J]at w;ext w;show#[u,r,.inl #[C,by simp]]
   .rw[VX (ef hj)]at w
    let(u',r',q):=hl j y v' g w e3;show#[u',r',?_];rcases q with⟨k,e⟩|⟨k,c,e,z⟩
    .show .inl #[k,?_];let:y≠x:=λe=>hj (uX hN g (e▸D));simp[this,e]
    .show .inr #[k,c,e,z.sameBut f (cne y c e)]
  .let(U,z):=I.cell y c e;show#[U,z.sameBut f (cne y c e)]
  .let(e,n,ne,nf,d):=I.pin p hp;show#[(f.2 p.1 ne).trans e,n,ne,nf,d]
 .let K:X.fn x=P:=by
   rcases hf with z|z
   .show z
   .rw[z]at C;ext C
  let(c,l):=I.ok.has x (.inl C);let(U,z):=I.cell x c l;show wpAny_storeName_cell I.ok.kind C l z (λh' O f=>?_);let(oc,N,akY):=id z;show h {s with heap:=h'} #[I.ok,I.os,I.bare,#[λb o e n L t=>?_,λb o e n L t=>?_,I.base.free,λb o e t=>?_,I.base.abI,I.base.abp,I.base.abH],#[m,hn.sameBut f (ef (cne x c l)),λj y v' g w e3=>?_],λy c' e=>?_,I.free,I.YE,λp hp=>?_,tracked #[oc,N,I.YE x c l] f,by simpa using I.len] #[c,f,.inr l]
  .show(f.2 b (Vk (Vo (cn e) (I.ok.cab x c K l)))).trans (I.base.keep b o e n L t)
  .let(sl,g):=I.base.slot b o e n L t;show#[sl,(f.2 b (Vk (Vo (cn e) (I.ok.cab x c K l)))).trans g]
  .let(o',g):=I.base.there b o e t;show#[o',(f.2 b (Vk (Vo (cn e) (I.ok.cab x c K l)))).trans g]
  .by_cases hj:j=i
   .subst hj;rw[D]at g;ext g;rw[Wg J]at w;ext w;show#[u,r,.inr #[.inl C,c,l,O]]
   .rw[VX (ef hj)]at w
    let(u',r',q):=hl j y v' g w e3;show#[u',r',?_];rcases q with q|⟨k,c',e,z'⟩
    .show .inl q
    .show .inr #[k,c',e,z'.sameBut f ?_];rintro rfl;show hj (uX hN g (I.ok.inj _ _ _ e l▸D))
  .by_cases hcc:c'=c
   .subst hcc;show#[_,O]
   .let(w2,z2):=I.cell y c' e;show#[w2,z2.sameBut f hcc]
  .let(e,n,ne,nf,d):=I.pin p hp;show#[(f.2 p.1 ?_).trans e,n,ne,nf,d];intro q;rw[q,N]at e;let q':oc=p.2:=Vi e;show d U (by rw[<-q'];show akY)
theorem qj{i:Nat}{v:V}{u:B}{Q:Unit->UY->Prop}(I:Inv X Z Y H s)(e:X.N.Nodup)(d:X.N[i]?=R x)(c:RP X.env.scope x)(r:RelV v u)
  (h:∀b,Inv X Z (Y.set i (R v)) H b->Q ⟨⟩ b) (hf:X.fn x=P\/X.env.scope.names.lookup x=R .local:=by first|show .inl W|show .inr W|assumption):wpAny a A (storeName X.env x u) Q E s:=
 wg I e d c r (λb f _=>h b f) hf
def Inv.aff{a:UY}{ch:G M}(I:Inv X Z Y H s)(g:a.os=s.os)(u:Un (A0 X.stack) ch H H' s.heap a.heap)(Wn:HOk X.prog X.w H' a.heap)(h:AllBare a.gens)
  (d:∀b∈ch,(b∈X.ex\/X.s₀.heap.objs.size<=b)/\b≠X.env.locals/\(∀x c,X.env.cells.lookup x=R c->c≠b)/\∀p∈X.pn++Z,p.1≠b):Inv X Z Y H' a:=by
 let(h',j,l,i,f):=a;let e:f=s.os:=g;subst e;show I.call (g':=j) (t':=i) (d':=l) u Wn h d
end
abbrev XK:=B->I M->Hp->Prop
abbrev St:=G (I V)
abbrev VK:=V->Hp->Prop
abbrev TE:=St->Hp->VK->Prop
abbrev TT:=St->Hp->(Bool->Hp->Prop)->Prop
abbrev TA:=St->Hp->(G V->Hp->Prop)->Prop
structure Ends where
 nx:St->Hp->Prop
 rt:VK
 bk:St->Hp->Prop:=λ_ _=>False
 ct:St->Hp->Prop:=λ_ _=>False
abbrev TS:=Ends->St->Hp->Prop
def EP(X:Cx)(a:G (M×Obj))(b:St)(Q:VK)(u:B)(d:UY):Prop:=∃v e,Inv X a b e d/\RelV v u/\Q v e
def TP(X:Cx)(a:G (M×Obj))(d:St)(Q:Bool->Hp->Prop)(b:Bool)(e:UY):Prop:=∃f,Inv X a d f e/\Q b f
def AP(X:Cx)(a:G (M×Obj))(b:St)(Q:G V->Hp->Prop)(us:G B)(d:UY):Prop:=∃e f,Inv X a b f d/\Vals e us/\Q e f
def SP(X:Cx)(a:G (M×Obj))(D:Ends)(f:Flow)(b:UY):Prop:=
 match f with
 |.next=>∃d e,Inv X a d e b/\D.nx d e
 |.brk=>∃d e,Inv X a d e b/\D.bk d e
 |.cont=>∃d e,Inv X a d e b/\D.ct d e
 |.ret u=>∃v d e,Inv X a d e b/\RelV v u/\D.rt v e
def PE(X:Cx)(e:V8)(t:TE):Prop:=
 ∀(a:G (M×Obj)) (s:UY) (b:St) (H:Hp) (Q:VK),Inv X a b H s->t b H Q->wpAny (model X.prog X.w) X.A (eval e X.env) (EP X a b Q) X.xe s
def PT(X:Cx)(e:V8)(t:TT):Prop:=
 ∀(a:G (M×Obj)) (s:UY) (b:St) (H:Hp) (Q:Bool->Hp->Prop),Inv X a b H s->t b H Q->wpAny (model X.prog X.w) X.A (isTrue e X.env (eval e X.env)) (TP X a b Q) X.xe s
def PW(X:Cx)(e:V8)(t:TT):Prop:=
 ∀(b:Sem B) (a:G (M×Obj)) (s:UY) (d:St) (H:Hp) (Q:Bool->Hp->Prop),Inv X a d H s->t d H Q->wpAny (model X.prog X.w) X.A (isTrue e X.env b) (TP X a d Q) X.xe s
theorem PW.pt(h:PW X e t):PT X e t:=h _
def PA(X:Cx)(c:G V8)(t:TA):Prop:=
 ∀(d:Pos) (a:G (M×Obj)) (s:UY) (b:St) (H:Hp) (Q:G V->Hp->Prop),Inv X a b H s->t b H Q->wpAny (model X.prog X.w) X.A (spliced (backTo d (Vt c X.env))) (AP X a b Q) X.xe s
def PS(X:Cx)(d:Xx)(t:TS):Prop:=
 ∀(a:G (M×Obj)) (s:UY) (b:St) (H:Hp) (D:Ends),Inv X a b H s->t D b H->wpAny (model X.prog X.w) X.A (exec d X.env) (SP X a D) X.xe s
def PSs(X:Cx)(d:G Xx)(t:TS):Prop:=
 ∀(a:G (M×Obj)) (s:UY) (b:St) (H:Hp) (D:Ends),Inv X a b H s->t D b H->wpAny (model X.prog X.w) X.A (execs d X.env) (SP X a D) X.xe s
theorem cT{α:Type}{t:Sem α}{Q b:α->UY->Prop}{M:adG}{A:Vx}{E:B->UY->Prop}{s:UY}(h:wpAny M A t Q E s)(d:∀a s,Q a s->b a s):wpAny M A t b E s:=wpAny_mono h d λ_ _ x=>x
section
variable{X:Cx}
def yA(i:Nat):TE:=λa H Q=>∃v,a[i]?=R (R v)/\Q v H
def tC(v:V):TE:=λ_ H Q=>Q v H
def P9(q:X.N[i]?=R x)(o:Ti X.env.scope x)(hd:(x==("__debug__":Str))=U0:=by decide)(g:(x==("__classdict__":Str))=U0:=by decide):PE X (.Name x pos) (yA i):=by
 intro d s n H Q I h;let(v,e,h):=h;let(m,t,p):=I.loc;let(u,r,l):=p i x v q e o;let b:EP X d n Q u s:=#[v,H,I,r,h];rcases l with⟨a,hm⟩|⟨a,c,j,f⟩
 .show agA (afM I.ok.kind a t hm b) hd
 .rcases a with a|a
  .show agA (agj I.ok.kind a j f b) hd
  .show agA (wpAny_loadName_free I.ok.kind a j f b g) hd
theorem aK{i j pos}:PE X (.Constant (.int i) j pos) (tC (.int i)):=λ_ _ _ H _ I h=>agB #[.int i,H,I.tok _,#[_,W],h]
theorem rG{b j pos}:PE X (.Constant (.bool b) j pos) (tC (.bl b)):=λ_ _ _ H _ I h=>Constant_bool #[.bl b,H,I,W,h]
theorem jJ{j pos}:PE X (.Constant .none j pos) (tC .XN):=λ_ _ _ H _ I h=>Constant_none #[.XN,H,I,W,h]
theorem jd{x j pos}:PE X (.Constant (.str x) j pos) (tC (.str x)):=λ_ _ _ H _ I h=>Calls.Constant_str #[.str x,H,I.tok _,#[_,W],h]
def Gl(X:Cx)(x:Str):Prop:=X.env.kindOf x=R .globalImplicit
theorem mJ(I:Inv X pins σ H s)(a:Gl X x)(hm:X.mg x=R u)(h:Q u s)
  (hd:(x==("__debug__":Str))=U0:=by decide):wpAny (model X.prog X.w) X.A (eval (.Name x pos) X.env) Q E s:=
 Calls.Name_function_global I.ok.kind a (Calls.loadGlobal_global (by rw[I.ok.glob];show I.mod.glob.keeps I.bk) hm h) hd
def lX(I:Inv X pins σ H s)(b:Gl X x)(hm:X.mg x=S)(a:Wb x=R u)(h:Q u s)
  (c:x≠ "__name__":=by decide) (hd:(x==("__debug__":Str))=U0:=by decide):wpAny (model X.prog X.w) X.A (eval (.Name x pos) X.env) Q E s:=by
 let(f,e,d):=I.mod.blt;show Calls.Name_function_global I.ok.kind b (Calls.loadGlobal_builtin (by rw[I.ok.glob];show I.mod.glob.keeps I.bk) hm (by rw[I.ok.blt];show e.keeps I.bk) ((d x c).trans a) h) hd
theorem sQ{x:Str}{v:V}{u:B}{a:Pos}(b:Gl X x)(hm:X.mg x=R u)(r:RelV v u)(hd:(x==("__debug__":Str))=U0:=by decide):PE X (.Name x a) (tC v):=
 λ_ _ _ H _ I h=>mJ I b hm #[v,H,I,r,h] hd
theorem oW(b:Gl X x)(hm:X.mg x=S)(a:Wb x=R u)(r:RelV v u)(c:x≠ "__name__":=by decide)(hd:(x==("__debug__":Str))=U0:=by decide):PE X (.Name x pos) (tC v):=
 λ_ _ _ H _ I h=>lX I b hm a #[v,H,I,r,h] c hd
variable{a b:V8}{Y Z:TE}{O:Pos}
def PC(X:Cx)(h:CmpOp)(a b:V8)(t:TE):Prop:=
 ∀(d:G (M×Obj)) (s:UY) (g:St) (H:Hp) (Q:VK),Inv X d g H s->t g H Q->
  wpAny (model X.prog X.w) X.A (eval a X.env) (λv f=>wpAny (model X.prog X.w) X.A (eval b X.env) (λu e=>wpAny (model X.prog X.w) X.A (W2 h v u) (EP X d g Q) X.xe e) X.xe f) X.xe s
def tB(t:TE):TT:=λd H Q=>t d H λx e=>∃c,x=.bl c/\Q c e
theorem GZ(h:PC X op a b t)(g:behindInMarks op b=U0:=by first|show o _ () ()|rfl):PE X (.Compare a [op] [b] O) t:=λd s e H Q I f=>akg (h d s e H Q I f) g
def Cr(h:PC X op a b t)(f:behindInMarks op b=U0:=by first|show C _ () ()|rfl):PT X (.Compare a [op] [b] O) (tB t):=by intro e s g H Q I l;show afw (cT (h e s g H _ I l) λv w f=>cT f λu r m=>cT m λc p a=>?_) f;let(x,o,n,i,j):=a;let(d,rfl,q):=j;ext i;show Xy #[o,n,q]
def k6{e:V8}{t:TE}(h:PE X e t)(m:∀whole,isTrue e X.env whole=(do let v<-whole;standAt e.pos;holding [v] (truthy v)):=by intro _;rfl):PT X e (tB t):=by intro f s g H Q I l;show isTrue_plain (cT (h f s g H _ I l) λv p #[x,o,n,i,j]=>?_) (m _);let(d,rfl,q):=j;ext i;show Xy #[o,n,q]
variable{T S:TT}{U:bg V8}
def Qn(t u:TT):TT:=λd H Q=>t d H λc e=>if c=P then u d e Q else Q U0 e
def Ua(t u:TT):TT:=λd H Q=>t d H λc e=>if c=P then Q P e else u d e Q
def Sg(t:TT):TT:=λd H Q=>t d H λc e=>Q (!c) e
def En(j:PT X a T):PW X (.BoolOp .And [a] O) T:=by
 intro g d s f H Q I h;show isTrue_and (cT (j d s f H Q I h) λc i e=>?_);cases c with
 |true=>show isTrue_and_nil e
 |false=>show e
def uH(j:PT X a T):PW X (.BoolOp .Or [a] O) T:=by
 intro g d s f H Q I h;show isTrue_or (cT (j d s f H Q I h) λc i e=>?_);cases c with
 |false=>show isTrue_or_nil e
 |true=>show e
def J3(k:PT X a T)(m:PW X (.BoolOp .And (b::U) O) S):PW X (.BoolOp .And (a::b::U) O) (Qn T S):=by
 intro j d s e H Q I h;show isTrue_and (cT (k d s e H _ I h) λc l a=>?_);let(i,g,f):=a;cases c with
 |true=>show m j d l e i Q g f
 |false=>show#[i,g,f]
def rJ(k:PT X a T)(m:PW X (.BoolOp .Or (b::U) O) S):PW X (.BoolOp .Or (a::b::U) O) (Ua T S):=by
 intro j d s e H Q I h;show isTrue_or (cT (k d s e H _ I h) λc l a=>?_);let(i,g,f):=a;cases c with
 |true=>show#[i,g,f]
 |false=>show m j d l e i Q g f
def oA(g:PT X a T):PT X (.UnaryOp .Not a O) (Sg T):=by intro d s e H Q I h;show isTrue_not (g d s e H (λc f=>Q (!c) f) I h)
def HF(Y Z:TE):TE:=λd H Q=>Y d H λx e=>∃c,x=.bl c/\if c=P then Z d e Q else Q (.bl U0) e
theorem u8{op}(h:PE X a t):PE X (.BoolOp op [a] O) t:=λd s e H Q I f=>BoolOp_one (h d s e H Q I f)
def rq(k:PE X a Y)(m:PE X (.BoolOp .And (b::U) O) Z):PE X (.BoolOp .And (a::b::U) O) (HF Y Z):=by
 intro d s f H Q I h;show BoolOp_and (cT (k d s f H _ I h) λv j a=>?_);let(x,i,g,l,e):=a;let(c,rfl,e):=e;ext l;show Xy ?_;cases c with
 |true=>show m d j f i Q g e
 |false=>show#[.bl U0,i,g,W,e]
def TR(t:TT)(Y Z:TE):TE:=λd H Q=>t d H λc e=>if c=P then Y d e Q else Z d e Q
def IU(m:PT X c T)(k:PE X a Y)(n:PE X b Z):PE X (.IfExp c a b O) (TR T Y Z):=by
 intro e s f H Q I h;show wpAny_IfExp (cT (m e s f H _ I h) λd g a=>?_);let(l,j,i):=a;cases d with
 |true=>show k e g f l Q j i
 |false=>show n e g f l Q j i
end
def Y4(K:UN)(H:Hp)(a:M)(xs:G V):Prop:=
 Rd H a (.lst xs)\/
  ∃(o:Obj) (b:Array B) (n:Nat),K.lookup a=R o/\o.cls=.type "list"/\o.dict=S/\o.data=.seq b n/\b.size<=Vb/\Vals xs b.toList
def Zw(K:UN)(H:Hp)(a:M)(xs:G V):Prop:=
 Rd H a (.tup xs)\/
  ∃(o:Obj) (b:Array B) (n:Nat),K.lookup a=R o/\(o.cls=.type "tuple"/\o.dict=S)/\o.data=.seq b n/\b.size<=Vb/\Vals xs b.toList
def Tz:B->I V
 |.none=>R .XN
 |.bool b=>R (.bl b)
 |.int i _=>R (.int i)
 |.str x _=>R (.str x)
 |.bytes b _=>R (.byt b)
 |.float b _=>R (.flt b)
 |.ref a=>R (.ref a)
 |.type n=>R (.ty n)
 |_=>S
def RelV.abs(r:RelV x u):Tz u=R x:=by
 cases x with
 |XN=>ext r;rfl
 |bl _=>ext r;rfl
 |int _=>let(t,rfl):=r;rfl
 |str _=>let(t,rfl):=r;rfl
 |byt _=>let(t,rfl):=r;rfl
 |flt _=>let(t,rfl):=r;rfl
 |ref _=>ext r;rfl
 |ty _=>ext r;rfl
theorem RelV.inj(r:RelV x u)(q:RelV y u):x=y:=Vi (r.abs.symm.trans q.abs)
theorem Vals.inj:∀{xs a:G V} {us:G B},Vals xs us->Vals a us->xs=a
 |_,_,_,.nil,.nil=>rfl
 |_,_,_,.cons r t,.cons d b=>by rw[r.inj d,Vals.inj t b]
section
variable{X:Cx}{Z:bg (UX×Obj)}{Y:St}{H:Hp}{s:UY}{a:UX}{T U:bg V}
theorem Y4.of{K:UN}(h:H a=R (.lst T)):Y4 K H a T:=.inl (.inl h)
theorem Zw.of{K:UN}(h:H a=R (.tup T)):Zw K H a T:=.inl (.inl h)
def Inv.list(I:Inv X Z Y H s)(h:Y4 X.K H a T):∃b:G B,Vals T b/\PlainL s.heap a b.toArray/\T.length<=Vb:=by
 rcases h with h|⟨o,b,n,f,g,hd,d,i,r⟩
 .let(z,b,n,r,e):=h.ok I.Wn;show#[b,r,#[_,n,e,W,W,W],z]
 .show#[b.toList,r,#[o,n,I.kIn a o f,g,hd,by simpa using d],?_];let e:=r.length;simp only[Vl]at e;ext
def Inv.tuple(I:Inv X Z Y H s)(h:Zw X.K H a T):∃b:G B,Vals T b/\IsTup s.heap a b.toArray/\T.length<=Vb:=by
 rcases h with h|⟨o,b,n,f,g,d,i,r⟩
 .let(z,b,r,p):=h.ok I.Wn;show#[b,r,p.tup,z]
 .show#[b.toList,r,#[o,I.kIn a o f,g.1,n,by simpa using d],?_];let e:=r.length;simp only[Vl]at e;ext
def Inv.agP(I:Inv X Z Y H s)(h:Zw X.K H a T):∃b:G B,Vals T b/\abF s.heap a b.toArray/\T.length<=Vb:=by
 rcases h with h|⟨o,b,n,g,d,f,i,r⟩
 .let(z,b,r,p):=h.ok I.Wn;show#[b,r,p,z]
 .show#[b.toList,r,#[o,I.kIn a o g,#[d.1,n,by simpa using f],d.2],?_];let e:=r.length;simp only[Vl]at e;ext
def Inv.afe(I:Inv X Z Y H s)(h:Y4 X.K H a T)(c:Y4 X.K H a U):T=U:=by
 let(j,r,(o,n,e,_,_,d),_):=I.list h;let(b,i,(l,m,f,_,_,g),_):=I.list c;rw[e]at f;ext f;rw[d]at g;injection g with d1 _;let:j=b:=by simpa using et agC d1
 subst this;show r.inj i
def Inv.aeu(I:Inv X Z Y H s)(h:Zw X.K H a T)(c:Zw X.K H a U):T=U:=by
 let(j,r,(o,e,_,n,d),_):=I.tuple h;let(b,i,(l,f,_,m,g),_):=I.tuple c;rw[e]at f;ext f;rw[d]at g;injection g with d1 _;let:j=b:=by simpa using et agC d1
 subst this;show r.inj i
end
abbrev Cx.abc(X:Cx)(E:B->UY->Prop):Cx:={X with xe:=E}
abbrev Cx.nox(X:Cx):Cx:=X.abc λ_ _=>False
theorem Cx.Ok.abc{X:Cx}(ok:X.Ok)(E:B->UY->Prop):(X.abc E).Ok:=
 #[ok.mod,ok.kind,ok.glob,ok.blt,ok.above,ok.inj,ok.has,ok.cab,ok.hd,ok.frames,ok.stk,ok.exf,ok.bs,ok.bsz,ok.ado,ok.ady,ok.aba,ok.frf]
theorem Cx.Ok.Zo{X:Cx}(ok:(X.abc E).Ok):X.Ok:=
 #[ok.mod,ok.kind,ok.glob,ok.blt,ok.above,ok.inj,ok.has,ok.cab,ok.hd,ok.frames,ok.stk,ok.exf,ok.bs,ok.bsz,ok.ado,ok.ady,ok.aba,ok.frf]
section
variable{X:Cx}{Z:bg (UX×Obj)}{Y:St}{H:Hp}{s:UY}{E:UQ->UY->Prop}
theorem Inv.abc(I:Inv X Z Y H s)(E:B->UY->Prop):Inv (X.abc E) Z Y H s:=#[I.ok.abc E,I.os,I.bare,I.base,I.loc,I.cell,I.free,I.YE,I.pin,I.Wn,I.len]
theorem Inv.Zo(I:Inv (X.abc E) Z Y H s):Inv X Z Y H s:=#[I.ok.Zo,I.os,I.bare,I.base,I.loc,I.cell,I.free,I.YE,I.pin,I.Wn,I.len]
def SP.Zo(h:SP (X.abc E) Z D f s'):SP X Z D f s':=by
 cases f with
 |next=>let(a,b,I,q):=h;show#[a,b,I.Zo,q]
 |brk=>let(a,b,I,q):=h;show#[a,b,I.Zo,q]
 |cont=>let(a,b,I,q):=h;show#[a,b,I.Zo,q]
 |ret u=>let(v,a,b,I,r,q):=h;show#[v,a,b,I.Zo,r,q]
theorem PSs.nox{a:G Xx}(h:PSs X.nox a t):PSs X a t:=λZ s Y H D I b=>
 wpAny_mono (h Z s Y H D (I.abc _) b) (λ_ _ q=>q.Zo) λ_ _ z=>False.elim z
end
section
variable{X:Cx}{U:Xx}{Y:bg Xx}{t u:TS}{e:V8}{Z:TE}{T:Pos}
def JL:TS:=λD a H=>D.nx a H
def Mo(t u:TS):TS:=λD a H=>t {D with nx:=u D} a H
theorem eA:PSs X [] JL:=λ_ _ a H _ I h=>ZD #[a,H,I,h]
def au(i:PS X U t)(c:PSs X Y u):PSs X (U::Y) (Mo t u):=by
 intro a s d H D I h;show ah1 (cT (i a s d H {D with nx:=u D} I h) λf g q=>?_);cases f with
 |next=>let(b,l,j,q):=q;show c a g b l D j q
 |ret v=>show q
 |brk=>show q
 |cont=>show q
def aU(d:PS X U t):PSs X [U] t:=by
 intro a s b H D I h;show ah1 (cT (d a s b H D I h) λf g q=>?_);cases f with
 |next=>show ZD q
 |ret v=>show q
 |brk=>show q
 |cont=>show q
def Inv.quiet{a:G (M×Obj)}{b:St}{H:Hp}{s:UY}(I:Inv X a b H s):interactive X.env=U0:=by simp[interactive,I.ok.kind]
def D1(Z:TE):TS:=λD a H=>Z a H λ_ b=>D.nx a b
def gz(f:PE X e Z)(c:WI e S T.line X.env=pure U0:=by rfl):PS X (.Expr e T) (D1 Z):=by intro a s b H D I h;show wpAny_Expr_any (cT (f a s b H _ I h) λv j #[x,i,g,l,d]=>#[b,i,g,d]) I.quiet c
def O9(Z:TE):TS:=λD a H=>Z a H D.rt
def b9(g:PE X e Z):PS X (.Return (R e) T) (O9 Z):=by intro a s b H D I h;show wpAny_Return_some (cT (g a s b H _ I h) λv l #[x,j,i,d,f]=>#[x,b,j,i,d,f])
def Ow:TS:=λD _ H=>D.rt .XN H
theorem MP:PS X (.Return S T) Ow:=λ_ _ a H _ I h=>wpAny_Return_none #[.XN,a,H,I,W,h]
def Oy(c:TT)(t u:TS):TS:=λD a H=>c a H λb d=>if b=P then t D a d else u D a d
def jc(n:PT X c C)(k:PSs X a t)(o:PSs X b u):PS X (.If c a b T) (Oy C t u):=by
 intro f s g H D I h;show wpAny_If (cT (n f s g H _ I h) λd i a=>?_);let(m,l,j):=a;cases d with
 |true=>show k f i g m D l j
 |false=>show o f i g m D l j
def Jo:TS:=λ_ _ _=>False
theorem zL:PS X U Jo:=λ_ _ _ _ _ _ h=>h.elim
end
abbrev TG:=V->St->Hp->(St->Hp->Prop)->Prop
abbrev Qb:=G V->St->Hp->(St->Hp->Prop)->Prop
def PG(X:Cx)(a:V8)(t:TG):Prop:=
 ∀(b:G (M×Obj)) (s:UY) (d:St) (H:Hp) (v:V) (u:B) (Q:St->Hp->Prop),Inv X b d H s->RelV v u->t v d H Q->
  wpAny (model X.prog X.w) X.A (assign a X.env u) (λ_ e=>∃f g,Inv X b f g e/\Q f g) X.xe s
def Th(X:Cx)(e:G V8)(t:Qb):Prop:=
 ∀(a:G (M×Obj)) (s:UY) (b:St) (H:Hp) (h:G V) (d:G B) (Q:St->Hp->Prop),Inv X a b H s->Vals h d->t h b H Q->
  wpAny (model X.prog X.w) X.A (assignInOrder ((assignEach e X.env).map (·.2)) d) (λ_ f=>∃g i,Inv X a g i f/\Q g i) X.xe s
abbrev Uc:=V->V->Hp->VK->Prop
def TQ(X:Cx)(d:Operator)(t:Uc):Prop:=
 ∀(a:G (M×Obj)) (s:UY) (b:St) (H:Hp) (x y:V) (v u:B) (Q:VK),Inv X a b H s->RelV x v->RelV y u->t x y H Q->
  wpAny (model X.prog X.w) X.A (inplaceOp d v u) (EP X a b Q) X.xe s
section
variable{X:Cx}{Z:Pos}
def wY(i:Nat):TG:=λv a H Q=>Q (a.set i (R v)) H
def b5(c:X.N.Nodup)(b:X.N[i]?=R x)(a:RP X.env.scope x)(hf:X.fn x=P\/X.env.scope.names.lookup x=R .local:=by first|show .inl W|show .inr W|assumption):PG X (.Name x Z) (wY i):=by intro pins s σ H v u Q I r h;show aho (qj I c b a r (λe d=>#[_,H,d,h]) hf)
def Ox:Qb:=λb a H Q=>b=[]/\Q a H
def Jp(t:TG)(u:Qb):Qb:=λe b H Q=>∃v r,e=v::r/\t v b H λa d=>u r a d Q
def xS:Th X [] Ox:=by intro a s b H f d Q I r h;let(e,h):=h;subst e;ext r;show assignInOrder_nil #[b,H,I,h]
def lZ(j:PG X e t)(k:Th X C u)
  (c:(assignEach (e::C) X.env).map (·.2)=assign e X.env::(assignEach C X.env).map (·.2):=by rfl):Th X (e::C) (Jp t u):=by
 intro a s d H q p Q I r h;let(v,o,l,h):=h;subst l;cases r with
 |cons r g=>rw[c];show assignInOrder_cons (cT (j a s d H _ _ _ I r h) λ_ f a=>?_);let(b,n,m,i):=a;show k a f b n _ _ Q m g i
def OL(K:UN)(n:Nat)(t:Qb):TG:=λv b H Q=>∃a xs,v=.ref a/\Zw K H a xs/\xs.length=n/\t xs b H Q
def CG(p:X.calm=P)(h:Th X C t)
  (c:(assignEach C X.env).length=n:=by rfl) (dW:(assignEach C X.env).findIdx? (·.1)=S:=by rfl):PG X (.Tuple C k Z) (OL X.K n t):=by
 intro d s g H v u Q I r f;let(a,xs,q,l,m,f):=f;subst q;ext r;let(A,E,j,y):=I.tuple l;show assign_Tuple_tuple (I.ok.hd p) j (by simp[c,<-m,E.length]) dW λz i=>?_;let w:=I.kept (t':=s.toks) λb o e=>i b o (Vk (cn e)) e;show h d _ g H xs _ Q w (by simpa using E) f
def Ff(b:TE)(g:TG):TS:=λD a H=>b a H λx d=>g x a d D.nx
def Jn(m:PE X e J)(l:PG X C g)(c:swapsWithSole [C] e Z.line X.env=pure U0:=by rfl)(j:swappedStores [C] e X.env=pure S:=by rfl)
  (n:(assignEach [C] X.env).map (·.2)=[assign C X.env]:=by rfl):PS X (.Assign [C] e Z) (Ff J g):=by
 intro a s b H D I h;show wpAny_Assign_stores (cT (m a s b H _ I h) λv d a=>?_) c j;let(x,p,o,f,i):=a;rw[n];show cT (l a d b p x v _ o f i) λ_ r q=>q
def cF{i:Nat}{x:Str}{e:V8}{a:TE}{pos':Pos}(j:X.N.Nodup)(g:X.N[i]?=R x)(c:RP X.env.scope x)(he:PE X e a)(f:WI e (R (.Name x pos')) Z.line X.env=pure U0:=by rfl)(hf:X.fn x=P\/X.env.scope.names.lookup x=R .local:=by first|show .inl W|show .inr W|assumption):
  PS X (.Assign [.Name x pos'] e Z) (Ff a (wY i)):=by
 intro pins s σ H D I h;show wpAny_Assign_Name (cT (he pins s σ H _ I h) λv s1 a=>?_) f;let(y,H1,m,b,d):=a;show qj m j g c b (λs2 l=>#[_,H1,l,d]) hf
def RK(i:Nat)(d:TE)(b:Uc):TS:=λD a H=>∃x,a[i]?=R (R x)/\d a H λy f=>b x y f λz e=>D.nx (a.set i (R z)) e
def Rc(F:X.N.Nodup)(n:X.N[i]?=R x)(g:RP X.env.scope x)(he:PE X e C)(E:TQ X op o)(hf:X.fn x=P\/X.env.scope.names.lookup x=R .local:=by first|show .inl W|show .inr W|assumption):
  PS X (.AugAssign (.Name x pos') op e Z) (RK i C o):=by
 intro pins s σ H D I h;let(v,N,h):=h;let(m,J,K):=I.loc;let f:Ti X.env.scope x:=by rcases g with k|k;show .inl k;show .inr (.inl k)
 let(u,r,l):=K i x v n N f;show wpAny_AugAssign_Name ?_;let go:wpAny (model X.prog X.w) X.A (eval e X.env) (λw d=>wpAny (model X.prog X.w) X.A (inplaceOp op u w) (λr b=>wpAny (model X.prog X.w) X.A (storeName X.env x r) (λ_=>SP X pins D .next) X.xe b) X.xe d) X.xe s:=by show cT (he pins s σ H _ I h) λw s1 #[y,H1,T,q,A]=>?_;show cT (E pins s1 σ H1 v y u w _ T r q A) λz s2 a=>?_;let(Y,U,Q,p,t):=a;show qj Q F n g p (λs3 O=>#[_,U,O,t]) hf
 rcases l with⟨a,hm⟩|⟨a,c,L,j⟩
 .show afM I.ok.kind a J hm go
 .rcases a with a|a
  .show agj I.ok.kind a L j go
  .rcases g with k|k
   .let:X.env.scope.names.lookup x=R .free:=a;rw[k]at this;ext this
   .let:X.env.scope.names.lookup x=R .free:=a;rw[k]at this;ext this
def Uf(f:Int->Int->Int):Uc:=λx y H Q=>∃i j,x=.int i/\y=.int j/\Q (.int (f i j)) H
def Qw:TQ X .Add (Uf λi j=>i+j):=by intro a s g H x y v u Q I d b h;let(i,j,f,e,q):=h;subst f;subst e;let(t,rfl):=d;let(l,rfl):=b;show iadd_int #[.int _,H,I.tok _,#[_,W],q]
end
section
variable{X:Cx}{Z:Pos}
def Kw(c:TT)(e:TS):TS:=λD a H=>∃W:Nat->St->Hp->Prop,(∃m,W m a H)/\∀m a H,W m a H->
 c a H λb d=>if b=P then∃N:St->Hp->Prop,(∀f h,N f h->∃g,g<m/\W g f h)/\e {D with nx:=N,ct:=N,bk:=D.nx} a d else D.nx a d
def ug(q:Ze (model X.prog X.w) X.A X.env X.xe)(K:PT X c U)(L:PSs X body tb):PS X (.While c body [] Z) (Kw U tb):=by
 intro d s z H D I h;let(W,(J,C),turn):=h;show wpAny_While (codeAny_whileLoop (λn G=>∃w A,Inv X d w A G/\W n w A) ?_ J #[z,H,I,C]);rintro n F ⟨e,y,M,B⟩;show X9 q (cT (K d F e y _ M (turn n e y B)) λb E a=>?_);let(u,t,j):=a;cases b with
 |true=>
  let(N,r,j):=j;rw[av rfl];show X9 q (cT (L d E e u _ t j) λf O i=>?_);cases f with
  |next=>let(a,g,p,m):=i;let(o,hm,l):=r a g m;show#[o,hm,a,g,p,l]
  |cont=>let(a,g,p,m):=i;let(o,hm,l):=r a g m;show#[o,hm,a,g,p,l]
  |brk=>show i
  |ret v=>show i
 |false=>rw[ax Vg];show ZD #[e,u,t,j]
end
structure It where
 go:Nat->Hp->Prop
 yld:Nat->Hp->V->Hp->Prop
 stop:Nat->Hp->Prop
def oZ(X:Cx)(a:G (M×Obj))(H:Hp)(b:M):Prop:=
 H b=S/\b≠X.env.locals/\b∉X.fs/\(b∈X.ex\/X.s₀.heap.objs.size<=b)/\(∀x c,X.env.cells.lookup x=R c->c≠b)/\∀p∈X.pn++a,p.1≠b
def Inv.adu(I:Inv X pins σ H s)(a:s.heap.objs.size<=b)(f:H' b=S):oZ X pins H' b:=by
 show#[f,Wd (Vo I.lt a),I.alN a,.inr (VT I.sz a),λx c e z=>?_,λp d z=>?_]
 .let(v,q):=I.cell x c e;show a6 (Vo q.lt (by rw[z];show a)) (Wi _)
 .show a6 (Vo (cn (I.pin p d).1) (by rw[z];show a)) (Wi _)
structure Turn(P:Vn)(w:VJ)(K:UN)(tg:V8)(J:It)(fp:G M)(it:M)(tn:Nat->Heap->Prop):Prop where
 mem:it∈fp
 obj:∀i h,tn i h->∀b∈fp,∃o,h.get? b=R o/\∀v,o.data≠.cell v
 keep:∀i h h',tn i h->(∀b∈fp,∀o,h.get? b=R o->h'.get? b=R o)->tn i h'
 item:∀(X:Cx),X.prog=P->X.w=w->X.K=K->X.calm=US->∀(i:Nat) (pins:G (M×Obj)) (s:UY) (σ:St) (H:Hp) (E:B->UY->Prop),Inv X pins σ H s->(∀b∈fp,oZ X pins H b)->tn i s.heap->J.go i H->
  wpAny (model P w) X.A (pyNext (.ref it)) (λr s1=>∃u,r=R u/\
   wpAny (model P w) X.A (letOwnedTupleGo tg (.ref it) u) (λ_ s2=>∃x H',Inv X pins σ H' s2/\RelV x u/\J.yld i H x H'/\tn (i+1) s2.heap/\∀b∈fp,H' b=S) E s1) E s
 done:∀(X:Cx),X.prog=P->X.w=w->X.K=K->X.calm=US->∀(i:Nat) (pins:G (M×Obj)) (s:UY) (σ:St) (H:Hp) (E:B->UY->Prop),Inv X pins σ H s->(∀b∈fp,oZ X pins H b)->tn i s.heap->J.stop i H->
  wpAny (model P w) X.A (pyNext (.ref it)) (λr s1=>r=S/\Inv X pins σ H s1) E s
 self:∀(A:Vx) (i:Nat) (s:UY) (Q:B->UY->Prop) (E:B->UY->Prop),tn i s.heap->Q (.ref it) s->wpAny (model P w) A (pyIter (.ref it)) Q E s
abbrev TI:=St->Hp->(It->Hp->Prop)->Prop
def Up(X:Cx)(a:G (M×Obj))(j:St)(l:V8)(R:It->Hp->Prop)(d:B)(g:UY):Prop:=
 ∃(h:M) (i:G M) (f:Nat->Heap->Prop) (J:It) (e:Hp),d=.ref h/\Inv X a j e g/\Turn X.prog X.w X.K l J i h f/\f 0 g.heap/\(∀b∈i,oZ X a e b)/\R J e
def PI(X:Cx)(f b:V8)(e:TI):Prop:=
 ∀(a:G (M×Obj)) (s:UY) (d:St) (H:Hp) (R:It->Hp->Prop),Inv X a d H s->e d H R->
  wpAny (model X.prog X.w) X.A (eval b X.env) (λv g=>wpAny (model X.prog X.w) X.A (pyIter v) (Up X a d f R) X.xe g) X.xe s
def JO{M:adG}{A:Vx}{E:B->UY->Prop}{s:UY}{b:V8}{it:UX}{u:B}{o:Obj}{n:String}{c:Array B}{Q:Unit->UY->Prop}(d:s.heap.get? it=R o)(e:o.cls=.type n)(hd:o.data=.fields c)
  (f:["enumerate","zip","dict_itemiterator","dict_reverseitemiterator","odict_iterator","itertools.zip_longest","itertools.pairwise"].contains n=U0) (a:Q ⟨⟩ s):wpAny M A (letOwnedTupleGo b (.ref it) u) Q E s:=by
 ext letOwnedTupleGo;ext b<;>first
  |show UT a
  |(ext u<;>first
    |show UT a
    |(show Ld (agD d ?_)
      rw[e,hd];show wpAny M A (if(["enumerate","zip","dict_itemiterator","dict_reverseitemiterator","odict_iterator","itertools.zip_longest","itertools.pairwise"].contains n&&c[0]? ==R (rawInt _))=P then _ else _) Q E s;rw[ax (by intro h;rw[f,Yy]at h;ext h)];show UT a))
def Tl(K:UN)(a:M):It:=
 #[λi H=>∃xs x,Y4 K H a xs/\xs[i]?=R x,λi H x b=>b=H/\∀xs,Y4 K H a xs->xs[i]?=R x,λi H=>∃xs,Y4 K H a xs/\xs.length<=i]
def T0(K:UN)(a:M):It:=
 #[λi H=>∃xs x,Zw K H a xs/\xs[i]?=R x,λi H x b=>b=H/\∀xs,Zw K H a xs->xs[i]?=R x,λi H=>∃xs,Zw K H a xs/\xs.length<=i]
def Tc(lo:Int)(n:Nat):It:=#[λi _=>i<n,λi H x a=>a=H/\x=.int (lo+i),λi _=>n<=i]
theorem Fb{K:UN}(a it:UX):Turn Pz0 w K tg (Tl K a) [it] it (λi h=>h.IsListIter it a i) where
 mem:=by simp
 obj:=λi h f b g=>by
  let e:b=it:=by simpa using g
  subst e;let(o,e,c,d):=f;show#[o,e,λv z=>by rw[d]at z;ext z]
 keep:=λi h M f k=>f.at λo e=>k it (by simp) o e
 item:=by intro X y r A L i l s N H E I n f t;subst y r A;let(xs,x,m,q):=t;let(Z,rv,p,R):=I.list m;let(u,T,Q):=rv.get q;let(J,G,U,F,C,B):=n it (by simp);show wpAny_pyNext_list_item f p.isList (by simpa using T) λM j O=>?_;let I1:=I.turned (t':=s.toks) (λb o g e=>(O.2 b g).trans e) J G F C B;let(o,e,c,d):=id j;show#[u,W,JO e c d () #[x,H,I1,Q,#[W,λys S=>by rw[I.afe S m];show q],j,λb g=>(n b g).1]]
 done:=by intro X y r A L i l s N H E I n f t;subst y r A;let(xs,m,q):=t;let(Z,rv,p,R):=I.list m;let(J,G,U,F,C,B):=n it (by simp);let hl:=rv.length;show wpAny_pyNext_list_end (I.ok.hd L) f p.isList (by simp;ext) λM Y=>#[W,I.turned (λb o g e=>Y b o g e) J G F C B]
 self:=λ_ _ _ _ _ f h=>wpAny_pyIter_listiter f h
theorem Cq{K:UN}(a it:UX):Turn Pz0 w K tg (T0 K a) [it] it (λi h=>h.IsTupleIter it a i) where
 mem:=by simp
 obj:=λi h f b g=>by
  let e:b=it:=by simpa using g
  subst e;let(o,e,c,d):=f;show#[o,e,λv z=>by rw[d]at z;ext z]
 keep:=λi h N f k=>f.at λo e=>k it (by simp) o e
 item:=by intro X y r A M i l s O H E I n f t;subst y r A;let(xs,x,m,q):=t;let(L,rv,p,S):=I.tuple m;let(u,U,R):=rv.get q;let(J,G,Y,F,C,B):=n it (by simp);show wpAny_pyNext_tuple_item f (show s.heap.IsTuple a L.toArray from p) (by simpa using U) λN j Q=>?_;let I1:=I.turned (t':=s.toks) (λb o g e=>(Q.2 b g).trans e) J G F C B;let(o,e,c,d):=id j;show#[u,W,JO e c d () #[x,H,I1,R,#[W,λys T=>by rw[I.aeu T m];show q],j,λb g=>(n b g).1]]
 done:=by intro X y r A M i l s O H E I n f t;subst y r A;let(xs,m,q):=t;let(L,rv,p,S):=I.tuple m;let(J,G,Y,F,C,B):=n it (by simp);let hl:=rv.length;show wpAny_pyNext_tuple_end (I.ok.hd M) f (show s.heap.IsTuple a L.toArray from p) (by simp;ext) λN Z=>#[W,I.turned (λb o g e=>Z b o g e) J G F C B]
 self:=λ_ _ _ _ _ f h=>wpAny_pyIter_tupleiter f h
theorem A9{K:UN}(it:UX)(lo:Int)(n:Nat):Turn T w K U (Tc lo n) [it] it (λi h=>IsRangeIter h it (lo+(i:Nat)*1) ((n:Int) - (i:Nat)) 1) where
 mem:=by simp
 obj:=λi h a b f=>by
  let e:b=it:=by simpa using f
  subst e;show#[_,a,λv z=>by let J:=z;ext J]
 keep:=λi h u a k=>k it (by simp) _ a
 item:=by intro X q l r p i d s G H E I j a m;subst q l r;let(F,C,O,B,A,y):=j it (by simp);let W:=afN.range (prog:=X.prog) (w:=X.w) (I.ok.hd p) it lo 1 n;show W.item i s _ _ m a λv u L N g M=>?_;let(t,rfl):=N;let R:Inv X d G H {s with heap:=u,toks:=L}:=I.turned (λb o f e=>M b o (by simpa using f) e) F C B A y;show#[_,rfl,JO g rfl rfl () #[.int (lo+i),H,R,#[t,?_],#[rfl,rfl],g,λb f=>(j b f).1]];rw[Int.mul_one]
 done:=by intro X q l r p i d s G H E I j a m;subst q l r;let(F,C,O,B,A,y):=j it (by simp);show wpAny_pyNext_range_end (I.ok.hd p) a (by let:n<=i:=m;ext) λu Q=>#[rfl,I.turned (λb o f e=>Q b o f e) F C B A y]
 self:=λ_ _ _ _ _ a h=>wpAny_pyIter_rangeiter a h
section
variable{X:Cx}{Z:V8}
def Il{a:G (M×Obj)}{d:St}{H:Hp}{s:UY}{R:It->Hp->Prop}{E:B->UY->Prop}{lo c:Int}{t u v:Tok}{f:Nat}(I:Inv X a d H s)(l: -(2^62)<=lo)(k:lo<2^62)(j: -(2^62)<=c)(i:c<2^62)
  (q:R (Tc lo (c - lo).toNat) H):wpAny (model X.prog X.w) X.A (pyIter (.ref s.heap.objs.size)) (Up X a d Z R) E {s with heap:=s.heap.push {cls:=.type "range",data:=.fields #v[.int lo t,.int c u,.int 1 v]},toks:=f}:=by
 show wpAny_pyIter_range (IsRange.new ..) (small_one l k j i) ?_;let g:Inv X a d H {s with heap:=s.heap.push {cls:=.type "range",data:=.fields #v[.int lo t,.int c u,.int 1 v]},toks:=f}:=I.kept λb o e=>bP _ e;show#[(s.heap.push {cls:=.type "range",data:=.fields #v[.int lo t,.int c u,.int 1 v]}).objs.size,[(s.heap.push {cls:=.type "range",data:=.fields #v[.int lo t,.int c u,.int 1 v]}).objs.size],_,_,H,W,
  g.kept (t':=f) λb o e=>bP _ e,A9 _ lo (c - lo).toNat,?_,λb h=>?_,q]
 .let n:lo+((0:Nat):Int)*1=lo:=by simp
  let m:(((c - lo).toNat:Nat):Int) - ((0:Nat):Int)=Builtin.Range.rangeSize lo c 1:=by rw[rangeSize_one];split<;>ext
  show IsRangeIter _ _ (lo+((0:Nat):Int)*1) ((((c - lo).toNat:Nat):Int) - ((0:Nat):Int)) 1;rw[n,m];show cv _ W
 .let e:b=(s.heap.push {cls:=.type "range",data:=.fields #v[.int lo t,.int c u,.int 1 v]}).objs.size:=by simpa using h
  subst e;show g.adu (U1 _) (g.Wn.fresh (U1 _))
def Os(b:TA):TI:=λa H R=>b a H λe d=>∃j:Int,e=[.int j]/\ -(2^62)<=j/\j<2^62/\R (Tc 0 j.toNat) d
def gL(m:Gl X "range")(hm:X.mg "range"=S)(k:PA X [a] C)(c:Vt [a] X.env=[(U0,eval a X.env)]:=by rfl):PI X Z (.Call (.Name "range" p) [a] [] pos) (Os C):=by
 intro b s f H R I h;show Call_ (lX I m hm boot_range (WW (cT (k pos b s f H _ I h) λo u #[w,v,n,i,d]=>?_) c W));let(j,e,d,l,q):=d;subst e;cases i with
 |cons r g=>ext g;let(t,rfl):=r;show call_range_1 (Il n () () d l (by simpa using q))
def LF(d:TI)(g:TG)(e:TS):TS:=λD a H=>d a H λJ h=>∃W:Nat->Nat->St->Hp->Prop,(∃m,W 0 m a h)/\∀i m a H,W i m a H->
 (J.stop i H/\D.nx a H)\/(J.go i H/\∃N:St->Hp->Prop,(∀j l,N j l->∃n,n<m/\W (i+1) n j l)/\∀x l,J.yld i H x l->g x a l λb f=>e {D with nx:=N,ct:=N,bk:=D.nx} b f)
def vB(a:G M)(h:Heap):G (M×Obj):=a.filterMap λb=>(h.get? b).map λo=>(b,o)
theorem kR(a:b∈C)(e:h.get? b=R o):(b,o)∈vB C h:=Yq.mpr #[b,a,by rw[e];rfl]
def Fr(a:p∈vB C h):p.1∈C/\h.get? p.1=R p.2:=by
 let(b,d,e):=Yq.mp a;cases q:h.get? b with
 |none=>rw[q]at e;ext e
 |some o=>rw[q]at e;let f:=Vi e;subst f;show#[d,q]
theorem Inv.pinned(I:Inv X pins σ H s)(i:∀b∈fp,oZ X pins H b)(h:∀b∈fp,∃o,s.heap.get? b=R o/\∀v,o.data≠.cell v):Inv X (pins++vB fp s.heap) σ H s:=
 I.ac2 λp g=>(VH.mp g).elim (λz=>I.pin p (VQ _ z)) λz=>by let(a,e):=Fr z;let(m,l,j,_):=i p.1 a;let(o,f,d):=h p.1 a;rw[e]at f;ext f;show#[e,m,l,j,d]
theorem Inv.abn(I:Inv X (pins++pl) σ H s):Inv X pins σ H s:=I.ac2 λp a=>I.pin p (VQ _ (Wv _ a))
def ri(L:Ze (model X.prog X.w) X.A X.env X.xe)(c:X.calm=US)(V:PI X Z iter wi)(hg:PG X Z g)(p:PSs X body tb)
  (k:∀x,foldedSetIterable iter X.env x=pure x:=by intro _;rfl):PS X (.For Z iter body [] pos) (LF wi g tb):=by
 intro j s σ H D I h;show wpAny_For (cT (V j s σ H _ I h) λv s1 h1=>cT h1 λitv s2 h2=>?_) k;let(it,O,tn,J,H2,e,I2,T,R,f2,W,(m0,w0),turn):=h2;subst e;let E:∀{z:Hp},(∀b∈O,z b=UO)->∀b∈O,oZ X j z b:=λhn b p=>#[hn b p,(f2 b p).2];show codeAny_forLoop_any (λn s'=>∃i w z,Inv X j w z s'/\tn i s'.heap/\(∀b∈O,z b=UO)/\W i n w z) ?_ m0 #[0,σ,H2,I2,R,λb p=>(f2 b p).1,w0];rintro n s3 ⟨i,l,P,I3,G,M,w3⟩;rcases turn i n l P w3 with⟨F,qn⟩|⟨go,N,hN,step⟩
 .show X9 L (cT (T.done X rfl rfl rfl c i j s3 l P X.xe I3 (E M) G F) λr s4 #[U,I4]=>?_);subst U;show ZD #[l,P,I4,qn]
 .show X9 L (cT (T.item X rfl rfl rfl c i j s3 l P X.xe I3 (E M) G go) λr s4 #[u,U,h4]=>?_)
  subst U;show X9 L (cT h4 λ_ s5 a=>?_);let(x,H5,I5,r5,y5,C,Y):=a;let A:=I5.pinned (E Y) (T.obj _ _ C);show X9 L (cT (hg _ s5 l H5 x u _ A r5 (step x H5 y5)) λ_ s6 a=>?_);let(Q,H6,I6,q6):=a;show X9 L (cT (p _ s6 Q H6 _ I6 q6) λf S B=>?_);let q:∀{a:St} {y:Hp},Inv X (j++vB O s5.heap) a y S->N a y->∃m,m<n/\∃i w z,Inv X j w z S/\tn i S.heap/\(∀b∈O,z b=UO)/\W i m w z:=λ{a y} t K=>by let(m',hm,w7):=hN a y K;show#[m',hm,i+1,a,y,t.abn,T.keep _ _ _ C λb p o e=>(t.pin (b,o) (VQ _ (VQ _ (kR p e)))).1,λb p=>?_,w7];let(o,e,d):=T.obj _ _ C b p;show(t.pin (b,o) (VQ _ (VQ _ (kR p e)))).2.1
  cases f with
  |next=>let(a,y,t,K):=B;show q t K
  |cont=>let(a,y,t,K):=B;show q t K
  |brk=>let(a,y,t,B):=B;show#[a,y,t.abn,B]
  |ret v=>let(x7,a,y,t,r7,B):=B;show#[x7,a,y,t.abn,r7,B]
end
abbrev R2:=V->V->Hp->VK->Prop
def OpR(X:Cx)(f:B->B->Sem B)(r:R2):Prop:=
 ∀(a:G (M×Obj)) (s:UY) (b:St) (H:Hp) (x y:V) (v u:B) (Q:VK),Inv X a b H s->RelV x v->RelV y u->r x y H Q->
  wpAny (model X.prog X.w) X.A (f v u) (EP X a b Q) X.xe s
def TH(X:Cx)(f:B->Sem B)(r:V->Hp->VK->Prop):Prop:=
 ∀(a:G (M×Obj)) (s:UY) (b:St) (H:Hp) (x:V) (v:B) (Q:VK),Inv X a b H s->RelV x v->r x H Q->
  wpAny (model X.prog X.w) X.A (f v) (EP X a b Q) X.xe s
def Yd(X:Cx)(f:B)(r:G V->Hp->VK->Prop):Prop:=
 ∀(a:G (M×Obj)) (s:UY) (b:St) (H:Hp) (xs:G V) (d:G B) (Q:VK),Inv X a b H s->Vals xs d->r xs H Q->
  wpAny (model X.prog X.w) X.A (call f d) (EP X a b Q) X.xe s
def Qv(r:R2)(d b:TE):TE:=λa H Q=>d a H λx f=>b a f λy e=>r x y e Q
def Tu(r:V->Hp->VK->Prop)(b:TE):TE:=λa H Q=>b a H λx d=>r x d Q
def rI(C:Int->Int->Prop)(g:Int->Int->V):R2:=λx y H Q=>∃i j,x=.int i/\y=.int j/\C i j/\Q (g i j) H
def yU(g:Int->Int->V):R2:=λx y H Q=>∃i j,x=.int i/\y=.int j/\Q (g i j) H
def rU(g:Int->V):V->Hp->VK->Prop:=λx H Q=>∃i,x=.int i/\Q (g i) H
section
variable{X:Cx}{a b c:V8}{Z Y T:TE}{U:Pos}
def Pp(r:PE X a Z)(m:PE X b Y){R:V->V->Hp->Prop}(I:Inv X pins σ H s)
  (h:Z σ H λx H1=>Y σ H1 λy k=>R x y k) {f:B->B->Sem B}
  (l:∀v u s2 x y k,Inv X pins σ k s2->RelV x v->RelV y u->R x y k->wpAny (model X.prog X.w) X.A (f v u) Q X.xe s2):
  wpAny (model X.prog X.w) X.A (eval a X.env) (λv q=>wpAny (model X.prog X.w) X.A (eval b X.env) (λu p=>wpAny (model X.prog X.w) X.A (f v u) Q X.xe p) X.xe q) X.xe s:=by
 show cT (r pins s σ H _ I h) λv d a=>?_;let(x,H1,o,g,j):=a;show cT (m pins d σ H1 _ o j) λu s2 a=>?_;let(y,k,n,e,i):=a;show l v u s2 x y k n g e i
def jD(j:OpR X (WT op) r)(k:PE X a Z)(l:PE X b Y):PE X (.BinOp a op b U) (Qv r Z Y):=by intro d s e H Q I h;show wpAny_BinOp (Pp k l I h λv u f x y n m i g q=>j d f e n x y v u Q m i g q)
def zg(j:TH X (unaryOp op) r)(k:PE X a Z):PE X (.UnaryOp op a U) (Tu r Z):=by intro d s e H Q I h;show UnaryOp_ (cT (k d s e H _ I h) λv f #[x,m,l,g,i]=>j d f e m x v Q l g i)
def Ri{g:Int->Int->Int}
  (d:∀(i j:Int) (t u:Tok) (s:UY) (Q:B->UY->Prop) (E:B->UY->Prop),C i j->Q (.int (g i j) s.toks) {s with toks:=s.toks+1}->wpAny (model X.prog X.w) X.A (f (.int i t) (.int j u)) Q E s):
  OpR X f (rI C λi j=>.int (g i j)):=by
 intro e s p H x y v u Q I n m h;let(i,j,rfl,rfl,o,q):=h;let(t,rfl):=n;let(l,rfl):=m;show d i j t l s _ _ o #[.int (g i j),H,I.tok _,#[_,W],q]
def Qt{g:Int->Int->Int}
  (d:∀(i j:Int) (t u:Tok) (s:UY) (Q:B->UY->Prop) (E:B->UY->Prop),Q (.int (g i j) s.toks) {s with toks:=s.toks+1}->wpAny (model X.prog X.w) X.A (f (.int i t) (.int j u)) Q E s):
  OpR X f (yU λi j=>.int (g i j)):=by
 intro e s o H x y v u Q I n m h;let(i,j,rfl,rfl,q):=h;let(t,rfl):=n;let(l,rfl):=m;show d i j t l s _ _ #[.int (g i j),H,I.tok _,#[_,W],q]
def KY{g:Int->Int->Bool}
  (d:∀(i j:Int) (t u:Tok) (s:UY) (Q:B->UY->Prop) (E:B->UY->Prop),Q (.bool (g i j)) s->wpAny (model X.prog X.w) X.A (f (.int i t) (.int j u)) Q E s):
  OpR X f (yU λi j=>.bl (g i j)):=by
 intro e s o H x y v u Q I n m h;let(i,j,rfl,rfl,q):=h;let(t,rfl):=n;let(l,rfl):=m;show d i j t l s _ _ #[.bl (g i j),H,I,W,q]
def Kc(i j:Int):Prop:=0<=j/\j<=1000000/\i.natAbs<2^64
def af4(i j:Int):Prop:=(-(2^64)<i/\i<2^64)\/(-(2^64)<j/\j<2^64)
def af4.ok(h:af4 i j):IntMulOk i j:=by
 rcases h with⟨e,d⟩|⟨e,d⟩
 .show .of_left (amk e d)
 .show .of_right (amk e d)
def two_pow_nn(k:Nat):(0:Int)<=2^k:=by rw[two_pow_cast];show Int.natCast_nonneg _
theorem QN:OpR X (WT .Add) (yU λi j=>.int (i+j)):=Qt λ_ _ _ _ _ _ _ q=>add_int q
theorem PU:OpR X (WT .Sub) (yU λi j=>.int (i - j)):=Qt λ_ _ _ _ _ _ _ q=>sub_int q
theorem Qd:OpR X (WT .Mult) (rI af4 λi j=>.int (i*j)):=Ri λ_ _ _ _ _ _ _ d q=>mul_int q d.ok
theorem Qq:OpR X (WT .Mod) (rI (λ_ j=>0<j) λi j=>.int (i % j)):=Ri λi j _ _ _ _ _ d q=>by let e:(0:Int)<j:=d;show mod_int' () (by rw[Int.fmod_eq_emod_of_nonneg i ()];show q)
theorem Ql:OpR X (WT .Pow) (rI Kc λi j=>.int (i^j.toNat)):=Ri λ_ _ _ _ _ _ _ d q=>pow_int_small d.1 d.2.1 d.2.2 q
theorem Jh:OpR X (WT .LShift) (rI Kc λi j=>.int (i*2^j.toNat)):=Ri λ_ _ _ _ _ _ _ d q=>lshift_int_small d.1 d.2.1 d.2.2 q
theorem Jc:OpR X (WT .RShift) (rI (λ_ j=>0<=j) λi j=>.int (i/2^j.toNat)):=Ri λi j _ _ _ _ _ d q=>
 rshift_int d (by rw[acM i (two_pow_nn _)];show q)
theorem GX:OpR X (WT .BitAnd) (yU λi j=>.int (Builtin.bitAnd i j)):=Qt λ_ _ _ _ _ _ _ q=>and_int q
def UD{g:Int->Int}
  (d:∀(i:Int) (t:Tok) (s:UY) (Q:B->UY->Prop) (E:B->UY->Prop),Q (.int (g i) s.toks) {s with toks:=s.toks+1}->wpAny (model X.prog X.w) X.A (f (.int i t)) Q E s):
  TH X f (rU λi=>.int (g i)):=by
 intro e s l H x v Q I j h;let(i,rfl,q):=h;let(t,rfl):=j;show d i t s _ _ #[.int (g i),H,I.tok _,#[_,W],q]
theorem tY:TH X (unaryOp .USub) (rU λi=>.int (-i)):=UD λ_ _ _ _ _ q=>neg_int q
end
section
variable{X:Cx}{a b c:V8}{Y Z T:TE}{U:Pos}
def Hn(I:Inv X pins σ H s)(q:Q (.bl k) H)(e:k=o):EP X pins σ Q (.bool o) s:=by subst e;show#[.bl k,H,I,W,q]
theorem Ia:OpR X (W2 .Lt) (yU λi j=>.bl (decide (i<j))):=KY λ_ _ _ _ _ _ _ q=>lt_int q
theorem NQ:OpR X (W2 .LtE) (yU λi j=>.bl (decide (i<=j))):=KY λ_ _ _ _ _ _ _ q=>le_int q
theorem Da:OpR X (W2 .Gt) (yU λi j=>.bl (decide (j<i))):=KY λ_ _ _ _ _ _ _ q=>gt_int q
theorem NX:OpR X (W2 .GtE) (yU λi j=>.bl (decide (j<=i))):=KY λ_ _ _ _ _ _ _ q=>ge_int q
def Qx:OpR X (W2 .Is) (λx y H Q=>y=.XN/\Q (.bl (decide (x=.XN))) H):=by
 intro e s g H x y v u Q I d f h;let(rfl,q):=h;ext f;show is_none_gen (Hn I q ?_);ext x<;>first
  |(ext d;rfl)
  |(let(t,rfl):=d;rfl)
def Dt:OpR X (W2 .IsNot) (λx y H Q=>y=.XN/\Q (.bl (!decide (x=.XN))) H):=by
 intro e s g H x y v u Q I d f h;let(rfl,q):=h;ext f;show isnot_none_gen (Hn I q ?_);ext x<;>first
  |(ext d;rfl)
  |(let(t,rfl):=d;rfl)
def cV(b:V8)(h:op≠.In:=by decide)(f:op≠.NotIn:=by decide):behindInMarks op b=U0:=by
 let e:(op==CmpOp.In)=U0:=by ext op<;>first|rfl|show a6 W h
 let d:(op==CmpOp.NotIn)=U0:=by ext op<;>first|rfl|show a6 W f
 ext b<;>simp[behindInMarks,e,d]
def fx{e:CmpOp}{r:R2}(l:OpR X (W2 e) r)(k:PE X a Y)(m:PE X b Z)(hm:behindInMarks e b=U0):PE X (.Compare a [e] [b] U) (Qv r Y Z):=by intro d s f H Q I h;show akg (Pp k m I h λv u g x y o n j i q=>l d g f o x y v u Q n j i q) hm
def IZ(t:TE):TT:=λd H Q=>t d H λx e=>∃k,x=.bl k/\Q k e
def dg(q:OpR X (W2 op) r)(D:PE X a Y)(t:PE X b Z)(hm:behindInMarks op b=U0):PT X (.Compare a [op] [b] U) (IZ (Qv r Y Z)):=by
 intro d s f H Q I h;show afw (cT (D d s f H _ I h) λv i #[x,F,J,m,p]=>cT (t d i f F _ J p) λu g #[y,E,A,l,o]=>
  cT (q d g f E x y v u _ A m l o) λc G a=>?_) hm;let(z,C,w,j,k,e,n):=a
 subst e;ext j;show Xy #[C,w,n]
def yy:(Vb:Nat)<2^63:=by rw[WK];decide
def kj(r:Vals [x] us):∃u,us=[u]/\RelV x u:=by
 cases r with
 |cons e d=>ext d;show#[_,W,e]
def EF(r:Vals [x,y] us):∃u h,us=[u,h]/\RelV x u/\RelV y h:=by
 cases r with
 |cons g f=>
  cases f with
  |cons e d=>ext d;show#[_,_,W,g,e]
def Fx(f:X.calm=P):Yd X (.builtin "max") (λxs H Q=>∃i j,xs=[.int i,.int j]/\Q (.int (if j>i then j else i)) H):=by
 intro e s g H xs m Q I r h;let(i,j,rfl,q):=h;let(u,l,rfl,(t,rfl),(o,rfl)):=EF r;show max_two_ints (I.ok.hd f) λp n k=>#[_,H,I.kept k,?_,q];by_cases d:j>i
 .rw[av d,av d];show#[_,W]
 .rw[ax d,ax d];show#[_,W]
def Sd(K:UN)(x:V)(H:Hp)(n:Nat):Prop:=
 match x with
 |.str y=>y.length<=Vb/\n=y.length
 |.byt y=>y.size<=Vb/\n=y.size
 |.ref p=>(∃xs,Y4 K H p xs/\n=xs.length)\/∃xs,Zw K H p xs/\n=xs.length
 |_=>False
def cK:Yd X (.builtin "len") (λxs H Q=>∃x n,xs=[x]/\Sd X.K x H n/\Q (.int n) H):=by
 intro l s w H xs z Q I r h;let(x,n,rfl,e,q):=h;let(u,rfl,g):=kj r;let B:=yy;let A:=WK;cases x with
 |str y=>let(t,rfl):=g;let(o,f):=e;subst f;show len_str () #[.int _,H,I.tok _,#[_,W],q]
 |byt y=>let(t,rfl):=g;let(o,f):=e;subst f;show PySem.W.len_bytes () #[.int _,H,I.tok _,#[_,W],q]
 |ref p=>
  ext g;let f:=e;rcases f with⟨xs,j,f⟩|⟨xs,j,f⟩
  .subst f;let(v,i,pl,m):=I.list j;let d:=i.length;show Calls.call_len_list pl.isList (by simp only[Va];ext) #[.int xs.length,H,I.tok _,#[_,by simp only[Va];rw[d]],q]
  .subst f;let(v,i,pl,m):=I.tuple j;let d:=i.length;show len_tuple pl (by simp only[Va];ext) #[.int xs.length,H,I.tok _,#[_,by simp only[Va];rw[d]],q]
 |_=>show(show False from e).elim
end
structure ad4(h:Heap)(x dx C:M)(mA:Str->I B):Prop where
 obj:h.get? x=R (W8 C dx)
 ns:h.Ns1 dx mA
 ne:dx≠x
def wq{h:Heap}(n:h.Ns1 J C):∃c,h.get? J=R c/\∀name,aat name c=R (C name):=by
 let(o,d,m,g,j,i,_,hm):=n;show#[o,g,λname=>?_];let e:=hm name;unfold nsFind findBy at e;rw[<-aem]at e;ext aat;rw[j];dsimp only;split
 .rename_i y q;rw[q]at e;show et R e
 .rename_i q
  rw[q]at e;let a:d.toList.any (·.refKey)=U0:=by rw[aeU];intro y f;let(z,t,b):=i y (Array.mem_toList_iff.mp f);simp[YN.refKey,b]
  let l:¬d.toList.any (·.refKey)=P:=by rw[a];show Vg
  rw[ax l];show et R e
theorem ad4.look(I:ad4 h x dx C mA):∃a,aau h x (W8 C dx) C (R a)/\∀name,aat name a=R (mA name):=
 let#[a,b,d]:=wq I.ns
 #[a,#[I.obj,W,W,b],d]
section
variable{U:Vn}{w:VJ}{A:Vx}{E:UQ->UY->Prop}{s:UY}{K:UN}{x T C f:UX}{Z:Str->br UQ}{Y:Str}{v:UQ}
def My(X:K.In s.heap)(I:ad4 s.heap x T C Z)(g:YF K C Y=P)(e:XS K C=P)
  (c:VP K (.ref C) Y=R S) (b:Z Y=R v) (a:aen v=P) (h:Q v {s with toks:=s.toks+1}):
  wpAny (model U w) A (getAttr (.ref x) Y expr) Q E s:=by
 let(i,J,d):=I.look;show PySem.W.get_value X J (aaN g).1 (PySem.W.findObj_own e c W (by rw[d,b])) a h
def Jd(X:K.In s.heap)(I:ad4 s.heap x T C Z)(a:YF K C Y=P)
  (i:VP K (.ref C) Y=R (R (.ref f))) (e:Ya K (.ref f)=P) (d:Z Y=S) (h:Q (.ref f,[.ref x]) s):
  wpAny (model U w) A (getMethod (.ref x) Y pl) Q E s:=by
 let(b,J,g):=I.look;show PySem.W.method_fn X J (aaN a).1 (aaN a).2 i (beq_iff_eq.mp e) (by show(aat Y b).map (·.isSome)=R U0;rw[g,d];rfl) h
def Ma(X:K.In s.heap)(I:ad4 s.heap x T C Z)
  (D:VP K (.ref C) "__setattr__"=R (R (.builtin "object.__setattr__"))) (o:abi K C=P) (n:abQ K C Y=R S) (p:XS K C=P)
  (m:adh Z ns) (k:ns.length<=Vb)
  (h:∀c,ad4 c x T C (λy=>if y=Y then R v else Z y)->Heap.SameBut T s.heap c->Q ⟨⟩ {s with heap:=c,toks:=s.toks+2}):
  wpAny (model U w) A (setAttr (.ref x) Y v) Q E s:=by
 let(u,J,B):=I.look;show PySem.W.set_plain X J D (PySem.W.osa_open X J o n λb=>?_);let(F,q,i):=PySem.W.any_some p;let l:=I.obj;show Ld (UT (Ld (Ld (akh l (Ld (ah2 (PySem.W.looks_clsIn X q) ?_))))));rw[i];show UT (Ld (UT (Ld ?_)));show wpAny_nsSet1 I.ns λc d a=>?_;let(z,r,t,e,g,j):=d.count (aja Y v m);show Ld (ah3 e (by rw[g];show ah4 (VT j (by rw[Vd];ext))) ?_);show UT (h _ #[(a.2 _ (ef I.ne)).trans I.obj,d,I.ne] a)
def J7{R:aaY->UY->Prop}{c:G B}{b:G (Str×B)}(X:K.In s.heap)(hm:abS K C=P)
  (k:VP K (.ref C) "__init__"=lD (lD (.ref f))) (e:aeV K (.ref f)=lD (.type "function"))
  (h:codeAny (model U w) (A.under (.builtin "type.__call__" #[.ref C::c,b])) (.call (.ref f) #[.ref (s.heap.objs.size+1)::c,b]) (PySem.W.InitBack (s.heap.objs.size+1) R)
   {s with heap:=(s.heap.push Wy).push (W8 C s.heap.objs.size)}):
  codeAny (model U w) A (.call (.ref C) #[c,b]) R s:=by
 let(j,g,d,t,i):=s;show PySem.W.make_core (PySem.W.makes_of X hm) (PySem.W.looks_findIn X k) (λa=>PySem.W.bind_fn X a e) (.inl W) h
end
def jG(f:Str)(v:V):G (Str×V)->G (Str×V)
 |[]=>[(f,v)]
 |(g,x)::r=>if g=f then(g,v)::r else(g,x)::jG f v r
theorem rE(f g:Str)(v:V):∀fs:G (Str×V),(jG f v fs).lookup g=if g=f then R v else fs.lookup g
 |[]=>by
  show XM g [(f,v)]=_;by_cases h:g=f
  .let a:=beq_iff_eq.mpr h;simp only[XM,a,av h]
  .let a:=beq_eq_false_iff_ne.mpr h;simp only[XM,a,ax h]
 |(k,x)::r=>by
  let d:=rE f g v r;rw[show jG f v ((k,x)::r)=(if k=f then(k,v)::r else(k,x)::jG f v r)from rfl];by_cases b:k=f
  .rw[av b]
   by_cases h:g=k
   .let a:=beq_iff_eq.mpr h;simp only[XM,a,av (h.trans b)]
   .let a:=beq_eq_false_iff_ne.mpr h;simp only[XM,a,ax (λe:g=f=>h (e.trans b.symm))]
  .rw[ax b]
   by_cases h:g=k
   .let a:=beq_iff_eq.mpr h;simp only[XM,a,ax (λe:g=f=>b (h.symm.trans e))]
   .let a:=beq_eq_false_iff_ne.mpr h;simp only[XM,a];show d
theorem qZ(f:Str)(v:V):∀fs:G (Str×V),f∈(jG f v fs).map (·.1)/\∀g,g∈fs.map (·.1)->g∈(jG f v fs).map (·.1)
 |[]=>#[by simp[jG],λg h=>by simp at h]
 |(k,x)::r=>by
  let(d,b):=qZ f v r;rw[show jG f v ((k,x)::r)=(if k=f then(k,v)::r else(k,x)::jG f v r)from rfl];by_cases a:k=f
  .rw[av a];subst a;show#[by simp,λg h=>by simpa using h]
  .rw[ax a]
   show#[?_,λg h=>?_]
   .rw[Vf];show U6 _ d
   .rw[Vf]at h⊢
    rcases Vm.mp h with e|e
    .show Vm.mpr (.inl e)
    .show U6 _ (b g e)
theorem rR(f:Str)(v:V):∀fs:G (Str×V),(jG f v fs).length<=fs.length+1
 |[]=>by simp[jG]
 |(k,x)::r=>by
  let b:=rR f v r;rw[show jG f v ((k,x)::r)=(if k=f then(k,v)::r else(k,x)::jG f v r)from rfl];by_cases a:k=f
  .rw[av a,Vd,Vd];ext
  .rw[ax a,Vd,Vd];ext
def ZJ.some_of(r:ZJ (R v) o):∃u,o=R u/\RelV v u:=by
 cases o with
 |none=>show(show False from r).elim
 |some u=>show#[u,W,r]
def ZJ.none_of(r:ZJ S o):o=S:=by
 cases o with
 |none=>rfl
 |some u=>show(show False from r).elim
def wT(r:RelV v u):aen u=P:=by
 cases v with
 |XN=>cases(show u=UQ.none from r);rfl
 |bl b=>cases(show u=UQ.bool b from r);rfl
 |int i=>let(t,e):=(show∃t,u=UQ.int i t from r);ext e;rfl
 |str x=>let(t,e):=(show∃t,u=UQ.str x t from r);ext e;rfl
 |byt b=>let(t,e):=(show∃t,u=UQ.bytes b t from r);ext e;rfl
 |flt b=>let(t,e):=(show∃t,u=UQ.float b t from r);ext e;rfl
 |ref a=>cases(show u=UQ.ref a from r);rfl
 |ty n=>cases(show u=UQ.type n from r);rfl
section
variable{P:Vn}{w:VJ}{H X:Hp}{h U:Heap}{a C Z:UX}{fs Y:bg (Str×V)}
def xx(Wn:HOk P w H h)(e:H a=R (.ins C Z fs)):∃c,ad4 h a Z C c/\(∀f,ZJ (fs.lookup f) (c f))/\adh c (fs.map (·.1))/\fs.length<=1000/\H Z=R (.own a):=by let(d,z,ne,b,c,n,r,q):=(show ObjOk P w H h a (.ins C Z fs)from Wn a _ e);show#[c,#[b,n,ne],r,q,z,d]
end
structure Cls(K:UN)(C:M):Prop where
 pg:YF K C Str.empty=P
 hd:XS K C=P
 po:abi K C=P
 sa:VP K (.ref C) "__setattr__"=R (R (.builtin "object.__setattr__"))
theorem Cls.get{K:UN}(c:Cls K C)(f:Str):YF K C f=P:=c.pg
def ZL(K:UN)(C:M)(f:Str):Prop:=VP K (.ref C) f=R S
def ZL.aiP{K:UN}(n:ZL K C f):abQ K C f=R S:=by ext abQ;rw[show VP K (.ref C) f=R S from n];rfl
structure Con(K:UN)(C:M)(f:Str)(v:V)(u:B):Prop where
 at_:VP K (.ref C) f=R (R u)
 rel:RelV v u
 get:Ys K u "__get__"=R S
 cp:PySem.W.copiedNames.contains f=U0
structure Meth(K:UN)(C:M)(m:Str)(f:M):Prop where
 at_:VP K (.ref C) m=R (R (.ref f))
 fn:Ya K (.ref f)=P
 kp:WM K (.ref f)=P
section
variable{X:Cx}{Z:bg (UX×Obj)}{Y:St}{H:Hp}{s:UY}{a C U:UX}{fs:bg (Str×V)}{f:Str}{v:V}{A:Vx}{E:UQ->UY->Prop}
def Ck(I:Inv X Z Y H s)(e:H a=R (.ins C U fs))(c:Cls X.K C)(n:ZL X.K C f)(l:fs.lookup f=R v)
  (h:∀u j,Inv X Z Y H j->RelV v u->Q u j):wpAny (model X.prog X.w) A (getAttr (.ref a) f b) Q E s:=by
 let(i,O,r,_,_,_):=xx I.Wn e;let(u,g,d):=ZJ.some_of (by rw[<-l];show r f);show My I.kIn O (c.get f) c.hd n g (wT d) (h u _ (I.tok _) d)
def vA(I:Inv X Z Y H s)(e:H a=R (.ins C U fs))(c:Cls X.K C)(k:Meth X.K C m g)(l:fs.lookup m=S)
  (h:Q (.ref g,[.ref a]) s):wpAny (model X.prog X.w) A (getMethod (.ref a) m pl) Q E s:=by
 let(b,O,r,_,_,_):=xx I.Wn e;let d:=ZJ.none_of (by rw[<-l];show r m);show Jd I.kIn O (c.get m) k.at_ k.fn d h
def Bq(I:Inv X Z Y H s)(e:H a=R (.ins C U fs))(c:Cls X.K C)(n:ZL X.K C f)(L:fs.length<1000)(p:RelV y u)
  (h:∀k,Inv X Z Y (bJ H a (.ins C U (jG f y fs))) k->Q ⟨⟩ k):wpAny (model X.prog X.w) A (setAttr (.ref a) f u) Q E s:=by
 let(j,O,r,i,_,l):=xx I.Wn e;let t:(fs.map (·.1)).length<=Vb:=by rw[UR,WK];ext
 show Ma I.kIn O c.sa c.po n.aiP c.hd i t λJ d m=>h _ ?_;let F:∃o,J.get? U=R o:=let#[o,_,_,w,_]:=d.ns;#[o,w]
 show I.write (by rw[e];show True.intro) (.inr l) (λb q G z=>(m.2 b G).trans z) F ?_;show#[by rw[aF O.ne];show l,?_,O.ne,d.obj,_,d.ns,λg=>?_,λg B=>?_]
 .let:=rR f y fs;ext
 .show ZJ ((jG f y fs).lookup g) (if g=f then R u else j g)
  rw[rE];by_cases q:g=f
  .rw[av q,av q];show p
  .rw[ax q,ax q];show r g
 .by_cases q:g=f
  .rw[q];show(qZ f y fs).1
  .show(qZ f y fs).2 g (i g λz=>B ?_);show(if g=f then R u else j g)=S;rw[ax q];show z
def Inv.made(I:Inv X Z Y H s):Inv X Z Y (bJ (bJ H s.heap.objs.size (.own (s.heap.objs.size+1))) (s.heap.objs.size+1) (.ins C s.heap.objs.size []))
  {s with heap:=(s.heap.push Wy).push (W8 C s.heap.objs.size)}:=by
 let d:(s.heap.push Wy).get? s.heap.objs.size=R Wy:=cv s.heap W;let j:((s.heap.push Wy).push (W8 C s.heap.objs.size)).get? (s.heap.objs.size+1)=R (W8 C s.heap.objs.size):=by let:=cv (s.heap.push Wy) (o:=W8 C s.heap.objs.size) W;rwa [dt]at this
 let i:(s.heap.push Wy).Ns s.heap.objs.size (λ_=>S):=#[Wy,#v[],_,d,W,(λe h=>a6 h (by simp)),λ_=>W];let l:=I.laid (a:=s.heap.objs.size) (o:=.own (s.heap.objs.size+1)) (h':=s.heap.push Wy) (t':=s.toks) (λb u q=>bP _ q) (U1 _) #[_,d];show l.laid (a:=s.heap.objs.size+1) (o:=.ins C s.heap.objs.size []) (t':=s.toks) (λb u q=>bP _ q) (ah5 (dt _ _)) ?_;let ne:s.heap.objs.size≠s.heap.objs.size+1:=Vk (WN _);show#[by rw[aF ne,aO],VF _,ne,j,λ_=>S,(Heap.Ns1.of_empty i).at λo q=>bP _ q,λ_=>True.intro,λy g=>a6 W g]
theorem Eg{prog:Vn}{w:VJ}{env:Env}{e:V8}{f:Str}{b:Pos}{s:UY}{Q:B->UY->Prop}(d:attributeBase e f env (eval e env)=eval e env)
  (h:wpAny (model prog w) A (eval e env) (λo c=>wpAny (model prog w) A (getAttr o f P) Q E c) E s):wpAny (model prog w) A (eval (.Attribute e f b) env) Q E s:=
 Attribute_any_ h (by rw[arm_eval_Attribute,d])
end
def Rb(K:UN)(e:TE)(f:Str):TE:=λd H Q=>e d H λx b=>∃a C g fs v,x=.ref a/\b a=R (.ins C g fs)/\Cls K C/\ZL K C f/\fs.lookup f=R v/\Q v b
def OJ(K:UN)(g e:TE)(f:Str):TS:=λD b H=>e b H λy h=>g b h λx d=>∃a C i fs,x=.ref a/\d a=R (.ins C i fs)/\Cls K C/\ZL K C f/\fs.length<1000/\
 D.nx b (bJ d a (.ins C i (jG f y fs)))
section
variable{X:Cx}{o e Z:V8}{f:Str}{T Y N:Pos}{U O:TE}
def dX(j:PE X e U)(m:attributeBase e f X.env (eval e X.env)=eval e X.env):PE X (.Attribute e f T) (Rb X.K U f):=by intro b s d H Q I h;show Eg m (cT (j b s d H _ I h) λu B a=>?_);let(x,y,w,g,a,C,E,fs,v,p,r,c,n,l,q):=a;subst p;obtain rfl:=g;show Ck w r c n l λz A t i=>#[v,y,t,i,q]
def qG(J:PE X o U)(p:PE X Z O)(k:WI Z (R (.Attribute o f Y)) T.line X.env=pure U0):PS X (.Assign [.Attribute o f Y] Z T) (OJ X.K U O f):=by intro b s d H D I h;show acA (cT (p b s d H _ I h) λu g #[y,A,z,i,q]=>cT (J b g d A _ z q) λF E a=>?_) k;let(x,G,w,j,a,C,K,fs,r,t,c,n,l,m):=a;subst r;obtain rfl:=j;show Bq w t c n l i λB v=>#[d,_,v,m]
end
section
variable{X:Cx}{Z:bg (UX×Obj)}{Y:St}{H:Hp}{s:UY}{A:Vx}{E:UQ->UY->Prop}{Q:UQ->UY->Prop}{c:UQ}{b:Bool}
inductive acb(K:UN)(H:Hp):V->B->Prop where
 |XN:acb K H .XN (.type "NoneType")
 |bl (x:Bool):acb K H (.bl x) (.type "bool")
 |int (i:Int):acb K H (.int i) (.type "int")
 |str (x:Str):acb K H (.str x) (.type "str")
 |flt (x:UInt64):acb K H (.flt x) (.type "float")
 |lst {a:M} {xs:G V} (e:H a=R (.lst xs)):acb K H (.ref a) (.type "list")
 |frz {a:M} {o:Obj} {xs:G V} (e:H a=R (.frz o (.lst xs))):acb K H (.ref a) (.type "list")
 |tup {a:M} {xs:G V} (e:H a=R (.tup xs)):acb K H (.ref a) (.type "tuple")
 |dK {a:M} {Vy:G (de×V)} (e:H a=R (.dK Vy)):acb K H (.ref a) (.type "dict")
 |dT {a:M} {Vy:G (G de×V)} (e:H a=R (.dT Vy)):acb K H (.ref a) (.type "dict")
 |ins {a C dx:M} {fs:G (Str×V)} (e:H a=R (.ins C dx fs)) (cl:Cls K C) (ha:VP K (.ref C) "__class__"=R (R (.builtin "object.__class__")))
   (hn:Ys K (.builtin "object.__class__") "__get__"=R (R (.builtin "getset_descriptor.__get__"))) (htk:PySem.W.takesIn K (.builtin "object.__class__")=R P)
   (hm:afx K C (.type "object")=R P):acb K H (.ref a) (.ref C)
end
structure Xu(k:Nat)(A:Vx):Prop where
 hd:A.handled=S
 dp:A.depth+3*k+5<recursionLimit
 un:A.units+16*k+200<cLine
theorem Xu.mono(r:Xu k A)(h:j<=k):Xu j A:=#[r.hd,by let:=r.dp;ext,by let:=r.un;ext]
theorem Xu.deeper(r:Xu (k+1) A)(env:Env):Xu k (A.deeper env):=
 #[r.hd,by let:=r.dp;show A.depth+1+3*k+5<_;ext,by let:=r.un;show A.units+3+16*k+200<_;ext]
def BN{A:Vx}:(A.under (.builtin "type.__call__" #[.ref C::us,kw])).depth=A.depth+1:=by
 first|rfl|simp[Vx.under,adi.weight,adi.isCreation,adi.isGuard,adi.isCaller,adi.frames,adi.isFrame,guardIds]
def Cw{A:Vx}:(A.under (.builtin "type.__call__" #[.ref C::us,kw])).units=A.units+1:=by
 first|rfl|simp[Vx.under,adi.cUnits,adi.frames,adi.isFrame]
theorem Xu.make(r:Xu (k+1) A)(C:M)(us:G B)(a:G (Str×B)):Xu k (A.under (.builtin "type.__call__" #[.ref C::us,a])):=
 #[r.hd,by let:=r.dp;rw[BN];ext,by let:=r.un;rw[Cw];ext]
def Xu.depth(r:Xu k A):A.depth<recursionLimit:=by let:=r.dp;ext
def Xu.units(r:Xu k A):A.units+64<cLine:=by let:=r.un;ext
def pK:TA:=λ_ H Q=>Q [] H
def jb(d:TE)(b:TA):TA:=λa H Q=>d a H λx f=>b a f λxs e=>Q (x::xs) e
section
variable{X:Cx}{e:V8}{Y:bg V8}{U:TE}{t:TA}{Z:Pos}
theorem aB:PA X [] pK:=λ_ _ _ _ H Q I h=>Calls.spliced_nil #[[],H,I,.nil,h]
def ai(k:PE X e U)(l:PA X Y t)(c:Vt (e::Y) X.env=(U0,eval e X.env)::Vt Y X.env:=by rfl):PA X (e::Y) (jb U t):=by intro Z a s b H Q I h;rw[c];show Calls.spliced_cons (cT (k a s b H _ I h) λu d a=>?_);let(x,p,n,g,j):=a;show cT (l Z a d b p _ n j) λq r #[xs,o,m,f,i]=>#[x::xs,o,m,.cons g f,i]
def OE(t:TA):TE:=λb H Q=>t b H λxs a=>xs.length<=Vb/\∀p,a p=S->Q (.ref p) (bJ a p (.tup xs))
def SG(t:TA):TE:=λb H Q=>t b H λxs a=>xs.length<=Vb/\∀p,a p=S->Q (.ref p) (bJ a p (.lst xs))
def d8{c}(h:PA X Y t):PE X (.Tuple Y c Z) (OE t):=by intro a s g H Q I j;show wpAny_Tuple_spliced (cT (h Z a s g H _ I j) λi d #[xs,m,f,r,z,q]=>#[by rw[<-r.length];show z,?_]);let l:=f.Wn.fresh (U1 _);show#[.ref d.heap.objs.size,bJ m d.heap.objs.size (.tup xs),f.laid (λb u e=>bP _ e) (U1 _) ?_,W,q _ l];show#[z,i,r,#[_,cv _ W,#[W,_,W],W]]
def kE(h:PA X Y t):PE X (.List Y Z) (SG t):=by intro a s g H Q I j;show wpAny_List_spliced (cT (h Z a s g H _ I j) λi d #[xs,m,f,r,z,q]=>#[by rw[<-r.length];show z,?_]);let l:=f.Wn.fresh (U1 _);show#[.ref d.heap.objs.size,bJ m d.heap.objs.size (.lst xs),f.laid (λb u e=>bP _ e) (U1 _) ?_,W,q _ l];show#[z,i,0,r,cv _ W]
end
abbrev Sp:=G V->Hp->VK->XK->Prop
abbrev yw:=G Env->Hp->UY->XK->B->UY->Prop
structure Env0(P:Vn)(w:VJ)(K:UN)(mg:Str->I B)(base:Heap)(A:Vx)(outer:G Env)(s:UY)(H:Hp):Prop where
 frames:A.frames=R outer
 mod:Mod K mg base
 bs:∀b o,base.get? b=R o->s.heap.get? b=R o/\H b=S
 bsz:base.objs.size<=s.heap.objs.size
 aba:s.heap.FunFrames base outer
 frf:∀b∈A0 outer,H b=S
 Wn:HOk P w H s.heap
 bare:AllBare s.gens
def CE(outer:G Env)(P:Vn)(w:VJ)(H:Hp)(s:UY)(Q:VK)(u:B)(a:UY):Prop:=
 ∃v b,a.os=s.os/\AllBare a.gens/\Un (A0 outer) [] H b s.heap a.heap/\HOk P w b a.heap/\RelV v u/\Q v b
def CR(b:yw)(outer:G Env)(P:Vn)(w:VJ)(H:Hp)(s:UY)(Q:VK)(E:XK)(r:aaY)(a:UY):Prop:=
 match r with
 |.ok (.ret u)=>CE outer P w H s Q u a
 |.ok _=>False
 |.error e=>b outer H s E e a
structure FnOk(P:Vn)(w:VJ)(K:UN)(mg:Str->I B)(base:Heap)(CX:yw)(k:Nat)(f:M)(fd:We)(ps:G Str)(sp:Sp):Prop where
 len:∀vs H Q E,sp vs H Q E->vs.length=ps.length
 run:∀(A:Vx) (outer:G Env) (s:UY) (H:Hp) (args:Args) (us:G B) (vs:G V) (Q:VK) (E:XK),Xu k A->Env0 P w K mg base A outer s H->aaZ s fd args (ps.zip us)->Vals vs us->sp vs H Q E->
  codeAny (model P w) A (.call (.ref f) args) (CR CX outer P w H s Q E) s
theorem FnOk.imp{P:Vn}{w:VJ}{K:UN}{p:Str->I B}{base:Heap}{e:yw}{k:Nat}{f:M}{fd:We}{o:G Str}{sp b:Sp}(F:FnOk P w K p base e k f fd o sp)
  (h:∀c H Q E,b c H Q E->sp c H Q E):FnOk P w K p base e k f fd o b:=
 #[λc H Q E q=>F.len c H Q E (h _ _ _ _ q),λA a s H d g c Q E l m n i j=>F.run A a s H d g c Q E l m n i (h _ _ _ _ j)]
theorem Env0.make{K:UN}(e:Env0 b w K mg base A outer s H)(C:M)(us:G B)(a:G (Str×B)):
  Env0 b w K mg base (A.under (.builtin "type.__call__" #[.ref C::us,a])) outer s H:=#[by first|show e.frames|(simpa [Vx.under,adi.envs,adi.isFrame,pushEnvs]using e.frames),e.mod,e.bs,e.bsz,e.aba,e.frf,e.Wn,e.bare]
section
variable{X:Cx}{Z:bg (UX×Obj)}{Y:St}{H:Hp}{s U:UY}
theorem Inv.agR(I:Inv X Z Y H s):Env0 X.prog X.w X.K X.mg X.base X.A X.stack s H:=
 #[I.ok.frames,I.ok.mod,I.bs,VT I.ok.bsz I.sz,I.stack,I.ab5,I.Wn,I.bare]
def Inv.after{Q:VK}{u:B}(I:Inv X Z Y H s)(h:CE X.stack X.prog X.w H s Q u U):EP X Z Y Q u U:=by let(v,j,f,a,un,Wn,r,q):=h;let(i,g,d,t,e):=U;obtain rfl:e=s.os:=f;show#[v,j,I.call (h':=i) (g':=g) (d':=d) (t':=t) (ch:=[]) un Wn a (λb z=>a6 z (by simp)),r,q]
end
def nG(sp:Sp)(c:G V)(E:XK)(t:TA):TE:=λa H Q=>t a H λd b=>sp (d++c) b Q E
def wW(C:M)(m:Str)(sp:Sp)(c:G V)(E:XK)(e:TE)(t:TA):TE:=λb H Q=>e b H λx d=>∃a h fs,x=.ref a/\d a=R (.ins C h fs)/\fs.lookup m=S/\
 t b d λg f=>sp (x::(g++c)) f Q E
def Ad(C:M)(sp:Sp)(c:G V)(E:XK)(t:TA):TE:=λb H Q=>t b H λf a=>∀x e,a x=S->a e=S->e≠x->
 sp (.ref x::(f++c)) (bJ (bJ a e (.own x)) x (.ins C e [])) (λv d=>v=.XN/\Q (.ref x) d) E
def Binds(K:UN)(fd:We)(b:G Str)(ds:G B):Prop:=
 ∀(s:UY) (a:G B),K.In s.heap->(a++ds).length=b.length->aaZ s fd #[a,[]] (b.zip (a++ds))
theorem Binds.all{K:UN}{fd:We}{b:G Str}(h:∀us:G B,us.length=b.length->bindArgs fd #[us,[]]=pure (b.zip us)):Binds K fd b []:=λs us _ a=>by rw[Vz]at a⊢;show .of_eq (h us a)
def gF(f:yw)(X:Cx)(E:XK):Prop:=∀(a:G (M×Obj)) (d:St) (H:Hp) (s:UY) (e:B) (b:UY),Inv X a d H s->f X.stack H s E e b->X.xe e b
section
variable{X:Cx}{Y:yw}{k:Nat}{f C:UX}{fd:We}{ps:bg Str}{sp:Sp}{dvs:bg V}{ds:bg UQ}{E:XK}{x m:Str}{p T Z:Pos}{e o:V8}{es:bg V8}{U:TE}{t:TA}
def BZ{a:G (M×Obj)}{d:St}{H:Hp}{s:UY}{Q:VK}{us:G B}{vs:G V}(F:FnOk X.prog X.w X.K X.mg X.base Y k f fd ps sp)(l:Xu k X.A)(q:Binds X.K fd ps ds)(hd:Vals dvs ds)(j:gF Y X E)
  (I:Inv X a d H s) (r:Vals vs us) (h:sp (vs++dvs) H Q E):wpAny (model X.prog X.w) X.A (call (.ref f) us) (EP X a d Q) X.xe s:=by
 let g:Vals (vs++dvs) (us++ds):=r.append hd;let n:(us++ds).length=ps.length:=by rw[<-g.length];show F.len _ _ _ _ h
 show Z8 (YV (F.run X.A X.stack s H #[us,[]] (us++ds) (vs++dvs) Q E l I.agR (q s us I.kIn n) g h) λr i b=>?_);cases r with
 |error e=>show j a d H s e i I b
 |ok v=>
  cases v with
  |ret u=>show I.after b
  |next=>show False.elim b
  |brk=>show False.elim b
  |cont=>show False.elim b
def EX(F:FnOk X.prog X.w X.K X.mg X.base Y k f fd ps sp)(l:Xu k X.A)(u:Gl X x)(hm:X.mg x=R (.ref f))(n:WM X.K (.ref f)=P)(y:Binds X.K fd ps ds)(hd:Vals dvs ds)(j:gF Y X E)
  (c:PA X (e::es) t) (d:(x==("__debug__":Str))=U0:=by decide) (v:Vt (e::es) X.env=(U0,eval e X.env)::Vt es X.env:=by rfl) (b:(backTo T (Vt es X.env)).any (·.1)=U0:=by rfl):
  PE X (.Call (.Name x p) (e::es) [] T) (nG sp dvs E t):=by
 intro a s i H Q I h;show Xk (mJ I u hm ?_ d);show aa0 I.ok.mod.kin n (cT (c T a s i H _ I h) λz B #[w,G,g,r,q]=>#[g.kIn,?_]) v b;show BZ F l y hd j g r q
def Lk{pl:Sem Bool}(J:PE X o U)(c:Cls X.K C)(hm:Meth X.K C m f)(F:FnOk X.prog X.w X.K X.mg X.base Y k f fd ps sp)(G:Xu k X.A)(L:Binds X.K fd ps ds)(hd:Vals dvs ds)(z:gF Y X E)(D:PA X (e::es) t)
  (dW:Vt (e::es) X.env=(U0,eval e X.env)::Vt es X.env:=by rfl) (d:(backTo T (Vt es X.env)).any (·.1)=U0:=by rfl)
  (B:eval (.Call (.Attribute o m Z) (e::es) [] T) X.env=(do
   let ov<-eval o X.env
   standAt Z.atName
   let(f,first)<-holding [ov] (getMethod ov m pl)
   callWith T f first (backTo T (Vt (e::es) X.env)) (backToKw T (keywordEach [] X.env))):=by rfl):
  PE X (.Call (.Attribute o m Z) (e::es) [] T) (wW C m sp dvs E U t):=by
 intro b s g H Q I h;show aak (pl:=pl) (cT (J b s g H _ I h) λu n a=>?_) B;let(x,O,j,v,a,dx,fs,w,N,l,q):=a;subst w;obtain rfl:u=UQ.ref a:=v;show vA j N c hm l ?_;show aa0 (first:=[.ref a]) (h₀:=X.base) I.ok.mod.kin hm.kp (cT (D T b n g O _ j q) λus P #[K,A,i,r,y]=>#[i.kIn,?_]) dW d;show BZ (us:=.ref a::us) (vs:=.ref a::K) F G L hd z i (.cons W r) y
def HC{pl:Sem Bool}(v:PE X o U)(c:Cls X.K C)(hm:Meth X.K C m f)(F:FnOk X.prog X.w X.K X.mg X.base Y k f fd ps sp)(r:Xu k X.A)(y:Binds X.K fd ps ds)(hd:Vals dvs ds)(j:gF Y X E)
  (n:eval (.Call (.Attribute o m Z) [] [] T) X.env=(do
   let ov<-eval o X.env
   standAt Z.atName
   let(f,first)<-holding [ov] (getMethod ov m pl)
   callWith T f first (backTo T (Vt [] X.env)) (backToKw T (keywordEach [] X.env))):=by rfl):
  PE X (.Call (.Attribute o m Z) [] [] T) (wW C m sp dvs E U pK):=by
 intro b s g H Q I h;show aak (pl:=pl) (cT (v b s g H _ I h) λu G a=>?_) n;let(x,J,d,i,a,A,fs,z,w,l,q):=a;subst z;obtain rfl:u=UQ.ref a:=i;show vA d w c hm l ?_;show PySem.W.callWith_K0 (first:=[.ref a]) d.kIn hm.kp (BZ (us:=[.ref a]) (vs:=[.ref a]) F r y hd j d (.cons W .nil) q)
structure Mk(K:UN)(C f:M):Prop where
 makes:abS K C=P
 init:VP K (.ref C) "__init__"=R (R (.ref f))
 fn:Ya K (.ref f)=P
 kp:WM K (.ref C)=P
def Jv(M:Mk X.K C f)(F:FnOk X.prog X.w X.K X.mg X.base Y k f fd ps sp)(n:Xu (k+1) X.A)(y:Binds X.K fd ps ds)(hd:Vals dvs ds)
  (l:gF Y X E) (I:Inv X pins σ H s) (r:Vals J us)
  (h:∀x c,H x=S->H c=S->c≠x->sp (.ref x::(J++dvs)) (bJ (bJ H c (.own x)) x (.ins C c [])) (λv A=>v=.XN/\Q (.ref x) A) E):
  wpAny (model X.prog X.w) X.A (call (.ref C) us) (EP X pins σ Q) X.xe s:=by
 let g:=h (s.heap.objs.size+1) s.heap.objs.size (I.Wn.fresh (aa1 _)) (I.Wn.fresh (U1 _)) (Vk (WN _));let b:=Inv.made (C:=C) I;let d:Vals (V.ref (s.heap.objs.size+1)::(J++dvs)) (UQ.ref (s.heap.objs.size+1)::(us++ds)):=.cons W (r.append hd);let q:(UQ.ref (s.heap.objs.size+1)::us++ds).length=ps.length:=by let e:=d.length;rw[F.len _ _ _ _ g]at e;show e.symm
 show Z8 (J7 I.kIn M.makes M.init (beq_iff_eq.mp M.fn) (YV (F.run _ X.stack _ _ #[UQ.ref (s.heap.objs.size+1)::us,[]] (UQ.ref (s.heap.objs.size+1)::(us++ds)) _ _ E (n.make C us [])
  (b.agR.make C us []) (y _ (UQ.ref (s.heap.objs.size+1)::us) b.kIn q) d g) λr i a=>?_))
 cases r with
 |error e=>show l pins σ _ _ e i b a
 |ok z=>
  cases z with
  |ret u=>let(v,G,B,w,ev,j):=b.after a;subst ev;show#[w,#[V.ref (s.heap.objs.size+1),G,B,W,j]]
  |next=>show False.elim a
  |brk=>show False.elim a
  |cont=>show False.elim a
def Nk(M:Mk X.K C f)(F:FnOk X.prog X.w X.K X.mg X.base Y k f fd ps sp)(l:Xu (k+1) X.A)(n:Gl X x)(hm:X.mg x=R (.ref C))(v:Binds X.K fd ps ds)(hd:Vals dvs ds)(j:gF Y X E)
  (c:PA X (e::es) t) (d:(x==("__debug__":Str))=U0:=by decide) (u:Vt (e::es) X.env=(U0,eval e X.env)::Vt es X.env:=by rfl) (b:(backTo T (Vt es X.env)).any (·.1)=U0:=by rfl):
  PE X (.Call (.Name x p) (e::es) [] T) (Ad C sp dvs E t):=by
 intro a s i H Q I h;show Xk (mJ I n hm ?_ d);show aa0 I.ok.mod.kin M.kp (cT (c T a s i H _ I h) λy z #[A,w,g,r,q]=>#[g.kIn,?_]) u b;show Jv M F l v hd j g r q
end
section
variable{X:Cx}{Q:yw}{k:Nat}{f C:UX}{fd:We}{ps ks:bg Str}{O:Sp}{E:XK}{x m:Str}{p Y Z U:Pos}{e o:V8}{N:bg V8}{T:bg aco}{L J:TE}{t H:TA}{A:br Str}
structure akV(K:UN)(fd:We)(ps ks:G Str)(g:G B->G B->G B)(gV:G V->G V->G V):Prop where
 to:∀(s:UY) (us ws:G B),K.In s.heap->(g us ws).length=ps.length->aaZ s fd #[us,ks.zip ws] (ps.zip (g us ws))
 rel:∀{vs:G V} {us:G B} {zs:G V} {ws:G B},Vals vs us->Vals zs ws->Vals (gV vs zs) (g us ws)
variable{g:bg UQ->bg UQ->bg UQ}{K:bg V->bg V->bg V}
end
structure XU(N P:G Str)(sc:YU):Prop where
 kind:sc.kind=.function
 co:sc.isCoroutine=U0
 gen:sc.isGenerator=U0
 nd:N.Nodup
 pre:N.take P.length=P
 par:∀x∈P,sc.names.lookup x=R .local\/sc.names.lookup x=R .cell
 ag2:∀y∈sc.names,y.2≠.free
theorem we{a:Str->I VO}:∀{binds:G (Str×B)} {m:Str->I B},(∀v,(x,v)∉binds)->bindL a binds m x=m x
 |[],_,_=>rfl
 |(n,v)::r,m,h=>by
  ext bindL;rw[we λw b=>h w (U6 _ b)];split
  .let:x≠n:=by rintro rfl;show h v U5
   simp[this]
  .rfl
theorem wP{a:Str->I VO}:∀{binds:G (Str×B)} {m:Str->I B},(∀v,(x,v)∉binds)->bindC a binds m x=m x
 |[],_,_=>rfl
 |(n,v)::r,m,h=>by
  ext bindC;rw[wP λw b=>h w (U6 _ b)];split
  .rfl
  .let:x≠n:=by rintro rfl;show h v U5
   simp[this]
theorem wJ{kindOf:Str->I VO}:∀{a:G Str} {b:G B} {i:Nat} {m:Str->I B},a.Nodup->a[i]?=R x->b[i]?=R v->kindOf x=R .local->
  bindL kindOf (a.zip b) m x=R v
 |[],_,_,_,_,h,_,_=>by simp at h
 |_::_,[],_,_,_,_,h,_=>by simp at h
 |p::a,w::b,0,m,nd,h1,d,e=>by simp at h1 d;subst h1;subst d;show bindL kindOf ((p,w)::a.zip b) m p=_;ext bindL;rw[we λv f=>(Wf.mp nd).1 (Y9 f).1,av e];simp
 |p::a,w::b,i+1,m,nd,h1,d,e=>by ext bindL;show wJ (Wf.mp nd).2 (by simpa using h1) (by simpa using d) e
theorem wF{kindOf:Str->I VO}:∀{a:G Str} {b:G B} {i:Nat} {m:Str->I B},a.Nodup->a[i]?=R x->b[i]?=R v->kindOf x≠R .local->
  bindC kindOf (a.zip b) m x=R v
 |[],_,_,_,_,h,_,_=>by simp at h
 |_::_,[],_,_,_,_,h,_=>by simp at h
 |p::a,w::b,0,m,nd,h1,d,e=>by simp at h1 d;subst h1;subst d;show bindC kindOf ((p,w)::a.zip b) m p=_;ext bindC;rw[wP λv f=>(Wf.mp nd).1 (Y9 f).1,ax e];simp
 |p::a,w::b,i+1,m,nd,h1,d,e=>by ext bindC;show wF (Wf.mp nd).2 (by simpa using h1) (by simpa using d) e
def start(N:G Str)(a:G V):St:=a.map R++U8 (N.length - a.length) S
def gM(h:yw)(P:Vn)(w:VJ)(K:UN)(c:Str->I B)(base:Heap)(N:G Str)(b:Str)(a:YU)(f:M)(g:B)(A:Vx)(outer:G Env)(s:UY)(H:Hp)(E:XK):Cx where
 prog:=P
 w:=w
 K:=K
 mg:=c
 base:=base
 A:=A.deeper (envOfC b a s.heap.objs.size f g)
 N:=N
 s₀:=s
 H₀:=H
 env:=envOfC b a s.heap.objs.size f g
 outer:=outer
 stack:=envOfC b a s.heap.objs.size f g::outer
 ex:=[]
 calm:=US
 fn:=λ_=>US
 pn:=[]
 xe:=λe i=>wpAny (model P w) (A.deeper (envOfC b a s.heap.objs.size f g)) (leaving (envOfC b a s.heap.objs.size f g) e) (λ_ d=>h outer H s E e d) (λj d=>h outer H s E j d) i
def Ai{a:YU}(h:a.names.lookup x=R .cell):∃c,(Xb n a.names []).lookup x=R c:=by let q:=Yt a.names n [] (.inl h);show acB.mp q
def F4{K:UN}
  (S:XU N ps scope) (hd:A.handled=UO) (e0:Env0 J w K mg base A outer s H) (F:U.length=ps.length) (r:Vals U us)
  (x:InCallC s s.heap.objs.size (bindL (envOfC qual scope s.heap.objs.size f cd).kindOf (ps.zip us) λ_=>UO) (Xb (s.heap.objs.size+1) scope.names []) (bindC (envOfC qual scope s.heap.objs.size f cd).kindOf (ps.zip us) λ_=>UO) s1):
  Inv (gM CX J w K mg base N qual scope f cd A outer s H E) [] (start N U) H s1:=by
 let B:ps.length<=N.length:=by let:=et Y1 S.pre;rw[V5]at this;ext
 let(n,C,rfl,t):=x.done;let g:∀b:M,b∉(gM CX J w K mg base N qual scope f cd A outer s H E).ex:=λb z=>a6 (show b∈([]:bg M)from z) (by simp);show#[#[e0.mod,S.kind,W,W,U1 _,λy z c n d=>?_,λy j=>?_,λy c _ h=>?_,λ_=>hd,Vx.frames_deeper e0.frames,.inr #[W,W],λb z=>a6 z (g b),e0.bs,e0.bsz,λb _ _=>g b,λb z=>a6 z (g b),e0.aba,e0.frf],
  W,e0.bare,Un.kept t,#[_,x.toInCall.ns,λi y v n d G=>?_],λy c h=>#[_,x.cell y c h],e0.Wn.fresh (U1 _),λy c h=>?_,λp m=>a6 (show p∈([]:bg (M×Obj))from m) (by simp),e0.Wn.kept t,?_]
 .show name_of_addr x.apart (WZ n) (WZ d)
 .let j:=j
  rcases j with j|j
  .show Ai j
  .show a6 W (S.ag2 _ (WZ j))
 .show aas (x.above y c (WZ h))
 .let L:i<U.length:=by
   unfold start at d;by_cases L:i<U.length
   .show L
   .rw[Vr (by simpa using L)]at d;rw[XB]at d;split at d<;>ext d
  let Q:U[i]?=R v:=by
   unfold start at d;rw[U3 (by simpa using L),U4]at d;cases e:U[i]? with
   |none=>rw[e]at d;ext d
   |some a=>rw[e]at d;ext d;rfl
  let(u,o,O):=r.get Q;let m:ps[i]?=R y:=by rw[<-S.pre,ZT ()];show n
  let l:ps.Nodup:=by rw[<-S.pre];show S.nd.sublist (List.take_sublist _ _)
  show#[u,O,?_];rcases S.par y (Ve m)with k|k
  .show .inl #[k,wJ l m o k]
  .let(c,e):=Ai k;show .inr #[.inl k,c,e,?_];let q:=x.cell y c e;rw[wF l m o (by show scope.names.lookup y≠_;rw[k];decide)]at q;show q
 .show e0.Wn.fresh (aas (x.above y c (WZ h)))
 .ext start;show _=N.length;rw[UZ,UR,VR];ext
def JM{m:yw}{P:Vn}{w:VJ}{K:UN}{l:Str->br B}{base:Heap}{k:Nat}{f:M}{name qual:Str}{params:Arguments}{body:G Xx}{scope:YU}{dV kV doc pm g ct T:B}{an F:br M}
  {C:Array (br B)} {N j:G Str} {sp:Sp} (U:K.lookup f=R #[T,F,.func (Wz name qual params body scope dV kV doc pm an g ct),C]) (D:Zg K g qual=US) (S:XU N j scope)
  (len:∀c H Q E,sp c H Q E->c.length=j.length)
  (Yi:∀(A:Vx) (outer:G Env) (s:UY) (H:Hp) (c:G V) (Q:VK) (E:XK),Xu k (A.deeper (envOfC qual scope s.heap.objs.size f g))->sp c H Q E->
   ∃t,PSs (gM m P w K l base N qual scope f g A outer s H E) body t/\t {nx:=λ_ d=>Q .XN d,rt:=Q} (start N c) H):
  FnOk P w K l base m (k+1) f (Wz name qual params body scope dV kV doc pm an g ct) j sp:=by
 show#[len,λA outer s H args us c Q E L e0 hb r i=>?_];let hl:=len _ _ _ _ i;let O:K.In s.heap:=e0.mod.kin.keeps λb o e=>(e0.bs b o e).1;let lim:s.heap.NoLimit:=e0.mod.nolimit.keeps λb o e=>(e0.bs b o e).1;let ZA:∀y∈j.zip us,scope.names.lookup y.1=R .local\/(scope.names.lookup y.1=R .cell/\((Xb (s.heap.objs.size+1) scope.names []).lookup y.1).isSome=US):=λ#[n,v] X=>by
  rcases S.par n (Y9 X).1 with q|q
  .show .inl q
  .show .inr #[q,Yt _ _ _ (.inl q)]
 show codeAny_call_function L.depth (O _ _ U) W S.co S.gen W (PySem.W.codeRec_of O D) (hb _ _ _ _ ?_);show wpAny_newFunctionEnv_cells S.kind ZA λenv he s1 x=>?_;subst he;show#[lim.keeps x.toInCall.keep,codeAny_func ?_];let(t,Y,Z):=Yi A outer s H c Q E (L.deeper _) i;let I:Inv (gM m P w K l base N qual scope f g A outer s H E) [] (start N c) H s1:=F4 S L.hd e0 hl r x;show wpAny_mono (Y [] s1 (start N c) H _ I Z) (λfl p h=>?_) λe p h=>h
 let fin:∀{a:St} {d:Hp} {v:V} {u:B},Inv (gM m P w K l base N qual scope f g A outer s H E) [] a d p->RelV v u->Q v d->CE outer P w H s Q u p:=
  λ{a d v u} J z q=>#[v,d,J.os,J.bare,J.base,J.Wn,z,q]
 cases fl with
 |ret u=>let(v,a,d,J,z,q):=h;show fin J z q
 |next=>let(a,d,J,q):=h;show fin (v:=V.XN) (u:=UQ.none) J W q
 |brk=>let(_,_,_,q):=h;show False.elim q
 |cont=>let(_,_,_,q):=h;show False.elim q
section
variable{X:Cx}{x:Str}{p Z:Pos}{e:V8}{Y:bg V8}{t:TA}{U T:String}{r:bg V->Hp->VK->Prop}
def IK(r:G V->Hp->VK->Prop)(t:TA):TE:=λa H Q=>t a H λd b=>r d b Q
def bF(q:Yd X (.builtin U) r)(n:Gl X x)(hm:X.mg x=S)(m:Wb x=R (.builtin U))(k:PA X (e::Y) t)(c:x≠ "__name__":=by decide)(d:(x==("__debug__":Str))=U0:=by decide)
  (o:Vt (e::Y) X.env=(U0,eval e X.env)::Vt Y X.env:=by rfl) (b:(backTo Z (Vt Y X.env)).any (·.1)=U0:=by rfl):PE X (.Call (.Name x p) (e::Y) [] Z) (IK r t):=by
 intro a s f H Q I h;show Xk (lX I n hm m ?_ c d);show ajb (cT (k Z a s f H _ I h) λg i #[w,v,u,j,l]=>q a i f v w g Q u j l) o b
def iV(q:Yd X (.type T) r)(n:Gl X x)(hm:X.mg x=S)(m:Wb x=R (.type T))(k:PA X (e::Y) t)(c:x≠ "__name__":=by decide)(d:(x==("__debug__":Str))=U0:=by decide)
  (o:Vt (e::Y) X.env=(U0,eval e X.env)::Vt Y X.env:=by rfl) (b:(backTo Z (Vt Y X.env)).any (·.1)=U0:=by rfl):PE X (.Call (.Name x p) (e::Y) [] Z) (IK r t):=by
 intro a s f H Q I h;show Xk (lX I n hm m ?_ c d);show WW (cT (k Z a s f H _ I h) λg i #[w,v,u,j,l]=>q a i f v w g Q u j l) o b
end
end L2
namespace HT
open PySem PyProof.Rows
section
open PySem.SeqAt
open PySem.AutoSeq1 (wpAny_loadPart')
open PySem.MeetsSeq PySem.MeetsSeq2 PySem.MeetsSeq3
end
section
variable{Z:Vn}{w:VJ}{A:Vx}{E:UQ->UY->Prop}{s:UY}
def cat_tup{t b:M}{c ws:G B}{Q:B->UY->Prop}(u:IsTup s.heap t c.toArray)(v:IsTup s.heap b ws.toArray)(p:c≠[])
  (y:ws=[]->Q (.ref t) s) (x:ws≠[]->Q (.ref s.heap.objs.size) {s with heap:=s.heap.push {cls:=.type "tuple",data:=.seq (c++ws).toArray}})
  (k:c.length+ws.length<=Vb):wpAny (model Z w) A (WT .Add (.ref t) (.ref b)) Q E s:=by
 let((cls,dd,data,m),j,r,n,q):=id u;let((z,h,l,d),a,g,o,f):=id v;simp only at r q g f;subst r q g f;let e:c.toArray++ws.toArray=(c++ws).toArray:=by simp
 by_cases i:ws=[]
 .show aeW #[_,j,W] #[_,a,W] acN aeo Z9 ZO (ZE _ _)
   (tuple_addW1 t b c.toArray ws.toArray n o dd h m d (by simpa using p) (by simp[i])) #[j,a,y i]
 .show aeW #[_,j,W] #[_,a,W] acN aeo Z9 ZO (ZE _ _)
   (tuple_addW2 t b c.toArray ws.toArray n o dd h m d (by simpa using p) (by simpa using i) (by rw[Va,Va];show k)) #[j,a,?_]
  rw[e];show x i
def sIx(n d:Nat):I Int->Nat
 |none=>d
 |some v=>if v<0 then(v+(n:Int)).toNat else min v.toNat n
theorem sIx_none(n d:Nat):sIx n d S=d:=W
def sIx_nat(n d k:Nat):sIx n d (R (k:Int))=min k n:=by show(if(k:Int)<0 then((k:Int)+(n:Int)).toNat else min (k:Int).toNat n)=min k n;rw[ax (),Wl]
def Qh(n d:Nat)(hd:d<=n)(o:I Int):sIx n d o<=n:=by
 cases o with
 |none=>show hd
 |some v=>
  show(if v<0 then(v+(n:Int)).toNat else min v.toNat n)<=n;by_cases a:v<0
  .rw[av a];ext
  .rw[ax a];show ab6 _ _
def DC(v:Int)(n d:Nat):(if v<0 then max (v+(n:Int)) 0 else min v (n:Int))=((sIx n d (R v):Nat):Int):=by
 show(if v<0 then max (v+(n:Int)) 0 else min v (n:Int))=(((if v<0 then(v+(n:Int)).toNat else min v.toNat n):Nat):Int);by_cases a:v<0
 .simp only[av a];ext
 .simp only[ax a];ext
def Cj(lo b:I Int)(n:Nat):Builtin.Slice.sliceAdjust lo b 1 (n:Int)=(((sIx n 0 lo:Nat):Int),((sIx n n b:Nat):Int)):=by
 let a:¬((1:Int)<0):=by ext
 ext Builtin.Slice.sliceAdjust;simp only[a,if_false];show Prod.ext ?_ ?_
 .cases lo with
  |none=>rfl
  |some v=>show DC v n 0
 .cases b with
  |none=>rfl
  |some v=>show DC v n n
def Cl7(i j:Nat):Builtin.Slice.slicePlaces (i:Int) (j:Int) 1=j - i:=by
 ext Builtin.Slice.slicePlaces;let a:(1:Int)>0:=by ext
 simp only[a,if_true,ah6];split<;>ext
def iX(p:aav v o)(h:Q o s):wpAny (model Z w) A (Builtin.Slice.slicePartIndex v) Q E s:=by
 cases p with
 |none=>show slicePart_none h
 |int i t=>show slicePart_int h
def ke{lo c:I Int}{Q:Int×Int×Nat->UY->Prop}(g:s.heap.IsSliceOf J C o .none)(pl:aav C lo)(d:aav o c)
  (h:Q (((sIx n 0 lo:Nat):Int),1,sIx n n c - sIx n 0 lo) s):wpAny (model Z w) A (Builtin.Slice.sliceApplied (.ref J) (pure (n:Int))) Q E s:=by
 let(f,a,e,b):=id g;unfold Builtin.Slice.sliceApplied Builtin.Slice.sliceFields;show Ld (Ld (VZ a b W (Ld (VZ a b W (Ld (VZ a b W (UT ?_)))))));show Ld (slicePart_none ?_);rw[ax ()];show Ld (iX pl (Ld (iX d (Ld (UT ?_)))));show wpAny _ _ (match Builtin.Slice.sliceAdjust lo c 1 (n:Int)with|(lo,c)=>pure (lo,(1:Int),Builtin.Slice.slicePlaces lo c 1)) _ _ s;rw[Cj lo c n];show wpAny _ _ (pure (((sIx n 0 lo:Nat):Int),(1:Int),Builtin.Slice.slicePlaces ((sIx n 0 lo:Nat):Int) ((sIx n n c:Nat):Int) 1)) _ _ s;rw[Cl7];show UT h
def Ks(xs:Array B)(i k:Nat):((Vc k).filterMap λ(m:Nat)=>xs[((i:Int)+(m:Int)*1).toNat]?).toArray=((xs.toList.drop i).take k).toArray:=by
 let e:(λ(m:Nat)=>xs[((i:Int)+(m:Int)*1).toNat]?)=λm=>xs[i+m]? :=by
  funext m;let:((i:Int)+(m:Int)*1).toNat=i+m:=by ext
  rw[this]
 rw[e];let:=pick_run xs i k;rw[aeH]at this;let a:((λx=>xs[x]?)∘λx=>i+x)=λm=>xs[i+m]? :=W;rw[a]at this;rw[this]
def getItem_tuple_cut{lo c:I Int}(b:IsTup s.heap t items)(k:s.heap.IsSliceOf C U J .none)(pl:aav U lo)(i:aav J c)
  (l:¬(sIx items.size 0 lo=0/\sIx items.size items.size c=items.size))
  (h:Q (.ref s.heap.objs.size) {s with heap:=s.heap.push {cls:=.type "tuple",data:=.seq ((items.toList.drop (sIx items.size 0 lo)).take (sIx items.size items.size c - sIx items.size 0 lo)).toArray}})
  (r:items.size<=Vb):wpAny (model Z w) A (getItem (.ref t) (.ref C)) Q E s:=by
 let a:sizeOk (.seq ((items.toList.drop (sIx items.size 0 lo)).take (sIx items.size items.size c - sIx items.size 0 lo)).toArray):=by show((items.toList.drop (sIx items.size 0 lo)).take (sIx items.size items.size c - sIx items.size 0 lo)).toArray.size<=Vb;rw[Va,V5,YT,Vl];ext
 let p:sIx items.size items.size c<=items.size:=Qh _ _ (U1 _) c;let(j,d,f,m):=id k;let g:s.TypeIs (.ref C) "slice":=#[j,d,f];ext getItem
 try specialize Wa ?_
 first|show Ld (UT ?_)|skip
 show Ld (acp b.typeIs () ?_);show Ld (WB b.typeIs VV
  (WX VV b.typeIs entry_tuple_getitem ?_ (args_tuple_getitem _ _)))
 show wpAny _ _ (Builtin.Tuple.tupleItemsOf (.ref t)>>=_) _ _ s;show Ld (tupleItemsOf_ b ?_);show Ld (XZ g ?_);rw[av ()];show Ld (ke k pl i ?_);let e:¬((((sIx items.size 0 lo:Nat):Int)==0&&(1:Int)==1&&(sIx items.size items.size c - sIx items.size 0 lo)==items.size)=P):=by intro q;rw[Vh,Vh]at q;let o:=eq_of_beq q.1.1;let n:=eq_of_beq q.2;show l #[by ext,by ext]
 show wpAny _ _ (if(((sIx items.size 0 lo:Nat):Int)==0&&(1:Int)==1&&(sIx items.size items.size c - sIx items.size 0 lo)==items.size)=P then _ else _) _ _ s;rw[ax e,Ks]
 first
  |show Ld (V3 (UT #[_,W,UT h]) a)
  |show Ld (V3 (Ld (UT (UT #[_,W,UT h]))) a)
  |show Ld (Ld (V3 (UT (UT #[_,W,UT h])) a))
  |show Ld (Ld (V3 (UT #[_,W,UT h]) a))
end
end HT
namespace L2
open PySem PySem.Spec PyProof.Rows
abbrev TO:=St->Hp->(I Int->Hp->Prop)->Prop
def PO(X:Cx)(e:I V8)(t:TO):Prop:=
 ∀(a:G (M×Obj)) (s:UY) (b:St) (H:Hp) (Q:I Int->Hp->Prop),Inv X a b H s->t b H Q->
  wpAny (model X.prog X.w) X.A (evalPart e X.env) (λu d=>∃o f,Inv X a b f d/\aav u o/\Q o f) X.xe s
def xq:TO:=λ_ H Q=>Q S H
def Dh(t:TE):TO:=λa H Q=>t a H λx b=>∃i,x=.int i/\Q (R i) b
def oj:∀{us:G B},Vals (ns.map V.int) us->IntsAre us ns:=by
 induction ns with
 |nil=>intro us r;rw[Yz]at r;ext r;show .nil
 |cons n ns d=>
  intro us r;rw[Vf]at r;cases r with
  |cons b a=>let(t,e):=b;subst e;show .cons n t (d a)
section
variable{X:Cx}{e:V8}{U:TE}{Z Y:br V8}{S R:TO}{pos P:Pos}
def pf:PO X UO xq:=by intro a s b H Q I h;rw[aep];show UT #[UO,H,I,.none,h]
def oX(h:PE X e U):PO X (lD e) (Dh U):=by intro a s b H Q I g;rw[evalPart_some];show cT (h a s b H _ I g) λu m a=>?_;let(x,l,j,d,f):=a;let(i,rfl,q):=f;let(t,rfl):=d;show#[lD i,l,j,.int i t,q]
def Rf(X:Cx)(r:V->I Int->I Int->Hp->VK->Prop):Prop:=
 ∀(a:G (M×Obj)) (s:UY) (b:St) (H:Hp) (x:V) (v f d:B) (Z Y:I Int) (g:M) (Q:VK),Inv X a b H s->RelV x v->s.heap.IsSliceOf g f d .none->aav f Z->aav d Y->r x Z Y H Q->
  ∃T id,typeLookup (.type T) "__getitem__"=pure (lD (.builtin id))/\s.TypeIs v T/\wpAny (model X.prog X.w) X.A (getItem v (.ref g)) (EP X a b Q) X.xe s
def TJ(r:V->I Int->I Int->Hp->VK->Prop)(U:TE)(S R:TO):TE:=λa H Q=>U a H λx f=>S a f λl d=>R a d λu b=>r x l u b Q
def lY{r:V->br Int->br Int->Hp->VK->Prop}(E:Rf X r)(J:PE X e U)(F:PO X Z S)(B:PO X Y R):PE X (.Subscript e (.Slice Z Y UO P) pos) (TJ r U S R):=by intro a s f H Q I h;show Subscript_ (cT (J a s f H _ I h) λv n a=>?_);let(x,H1,O,o,y):=a;show wpAny_Slice (cT (F a n f H1 _ O y) λi m #[l,A,N,pl,t]=>cT (B a m f A _ N t) λg d a=>?_);let(u,j,w,z,p):=a;rw[aep];show UT ?_;let L:Inv X a f j {d with heap:=d.heap.push {cls:=.type "slice",data:=.fields #v[i,g,.none]}}:=w.kept (t':=d.toks) λb ob q=>bP _ q;let(T,id,K,C,G):=E a {d with heap:=d.heap.push {cls:=.type "slice",data:=.fields #v[i,g,.none]}} f j x v i g l u d.heap.objs.size Q L o (Heap.IsSliceOf.new ..) pl z p;show wpAny (model X.prog X.w) X.A (subscriptTail e (.Slice Z Y UO P) v (.ref d.heap.objs.size)) (EP X a f Q) X.xe {d with heap:=d.heap.push {cls:=.type "slice",data:=.fields #v[i,g,.none]}};show tail_any (ops:=[.ref d.heap.objs.size,v]) C K G (by with_unfolding_all rfl)
def yW(xs:G V)(Z Y:I Int):G V:=(xs.drop (HT.sIx xs.length 0 Z)).take (HT.sIx xs.length xs.length Y - HT.sIx xs.length 0 Z)
def rK(xs:G V)(Z Y:I Int):(yW xs Z Y).length<=xs.length:=by ext yW;rw[V5,YT];ext
def R8(K:UN):V->I Int->I Int->Hp->VK->Prop:=λx Z Y H Q=>∃a xs,x=.ref a/\Zw K H a xs/\
 ¬(HT.sIx xs.length 0 Z=0/\HT.sIx xs.length xs.length Y=xs.length)/\∀p,H p=UO->Q (.ref p) (bJ H p (.tup (yW xs Z Y)))
def Re:Rf X (R8 X.K):=by
 intro f s t H x v w u Z Y y Q I j o pl l h;let(a,xs,rfl,m,n,q):=h;ext j;let(p,r,i,g):=I.tuple m;let d:p.toArray.size=xs.length:=by rw[Va];show r.length.symm
 show#["tuple",_,VV.lookup,i.typeIs,?_];show HT.getItem_tuple_cut i o pl l (by rw[d];show n) ?_ (by rw[d];show g);rw[d];show#[.ref s.heap.objs.size,_,I.laid (λb z q=>bP _ q) (U1 _) ?_,W,q _ (I.Wn.fresh (U1 _))];show#[VT (rK xs Z Y) g,_,(r.drop (HT.sIx xs.length 0 Z)).take (HT.sIx xs.length xs.length Y - HT.sIx xs.length 0 Z),abF.new _ _]
def N7(K:UN):R2:=λx y H Q=>∃a b xs ys,x=.ref a/\y=.ref b/\Zw K H a xs/\Zw K H b ys/\xs≠[]/\xs.length+ys.length<=Vb/\
 (ys=[]->Q (.ref a) H)/\(ys≠[]->∀p,H p=UO->Q (.ref p) (bJ H p (.tup (xs++ys))))
def Vals.acW(r:Vals xs us):us=[]↔xs=[]:=by
 cases r with
 |nil=>simp
 |cons _ _=>simp
def LO:OpR X (WT .Add) (N7 X.K):=by intro g s A H x y v u Q I l j h;let(a,b,xs,B,rfl,rfl,J,r,p,i,n,m):=h;ext l;ext j;let(E,f,o,_):=I.tuple J;let(t,d,P,_):=I.tuple r;show HT.cat_tup o P (λz=>p (f.acW.mp z)) (λz=>#[.ref a,H,I,W,n (d.acW.mp z)]) (λz=>?_) (by rw[<-f.length,<-d.length];show i);show#[.ref s.heap.objs.size,_,I.laid (λb C q=>bP _ q) (U1 _) ?_,W,m (λw=>z (d.acW.mpr w)) _ (I.Wn.fresh (U1 _))];show#[by rw[UZ];show i,_,f.append d,abF.new _ _]
end
def KG(n:Nat)(i:Int):I Nat:=if 0<=i then(if i<n then R i.toNat else S)else if -(n:Int)<=i then R (i+n).toNat else S
def lA(xs:G α)(i:Int):I α:=(KG xs.length i).bind λj=>xs[j]?
def Nl(h:KG n i=R j):seqIndex? i n=R j/\j<n/\ -(n:Int)<=i/\i<n:=by
 unfold KG at h;by_cases b:0<=i
 .rw[av b]at h
  by_cases a:i<n
  .rw[av a]at h;let e:=Vi h;show#[by rw[seqIndex_of b a,e],by ext,by ext,a]
  .rw[ax a]at h;ext h
 .rw[ax b]at h
  by_cases a: -(n:Int)<=i
  .rw[av a]at h;let e:=Vi h;show#[by rw[seqIndex_neg () a,e],by ext,a,by ext]
  .rw[ax a]at h;ext h
def xh(h:lA xs i=R v):∃j,seqIndex? i xs.length=R j/\xs[j]?=R v/\j<xs.length/\ -(xs.length:Int)<=i/\i<xs.length:=by
 unfold lA at h;cases e:KG xs.length i with
 |none=>rw[e]at h;ext h
 |some j=>rw[e]at h;let(f,d,b,a):=Nl e;show#[j,f,h,d,b,a]
def CS{j:Nat}(h:xs[j]?=R v):lA xs (j:Int)=R v:=by
 let a:=(UP.mp h).1;let e:KG xs.length (j:Int)=R j:=by ext KG;rw[av (),av ()];simp
 ext lA;rw[e];show h
def JU(xs:G α)(v:α):lA (xs++[v]) (-1)=R v:=by
 let a:(xs++[v]).length=xs.length+1:=by simp
 let e:KG (xs++[v]).length (-1)=R xs.length:=by ext KG;rw[a,ax (),av ()];congr 1;ext
 ext lA;rw[e];simp
def Np(b:V8):Prop:=∀o i,subscripted b U0 o i=operate [o,i] (getItem o i)
def IxR(X:Cx)(r:R2):Prop:=
 ∀(d a:V8) (b:G (M×Obj)) (s:UY) (e:St) (H:Hp) (x y:V) (v u:B) (Q:VK),Inv X b e H s->RelV x v->RelV y u->r x y H Q->
  subscripted a U0 v u=operate [v,u] (getItem v u)->wpAny (model X.prog X.w) X.A (subscriptTail d a v u) (EP X b e Q) X.xe s
def Tx(X:Cx)(e:String)(r:V->G V->Hp->VK->Prop):Prop:=
 ∀(a:G (M×Obj)) (s:UY) (b:St) (H:Hp) (x:V) (xs:G V) (v:B) (d:G B) (Q:VK),Inv X a b H s->RelV x v->Vals xs d->r x xs H Q->
  wpAny (model X.prog X.w) X.A (call (.builtin e) (v::d)) (EP X a b Q) X.xe s
section
variable{X:Cx}{a b:V8}{ta tb:TE}{pos:Pos}
def IxR.or(h:IxR X r)(c:IxR X r'):IxR X (λx y H Q=>r x y H Q\/r' x y H Q):=by
 intro d e f s g H x y v u Q I j i q l;rcases q with q|q
 .show h d e f s g H x y v u Q I j i q l
 .show c d e f s g H x y v u Q I j i q l
def bG{r:R2}(j:IxR X r)(k:PE X a ta)(l:PE X b tb)(c:Np b):PE X (.Subscript a b pos) (Qv r ta tb):=by intro d s e H Q I h;show Subscript_ (Pp k l I h λv u f x y n m i g q=>j a b d f e n x y v u Q m i g q (c _ _))
def Rs(K:UN):R2:=λx y H Q=>∃p xs i v,x=.ref p/\y=.int i/\Y4 K H p xs/\lA xs i=R v/\Q v H
def Si(K:UN):R2:=λx y H Q=>∃p xs i v,x=.ref p/\y=.int i/\Zw K H p xs/\lA xs i=R v/\Q v H
def RQ:R2:=λx y H Q=>∃z i c,x=.str z/\y=.int i/\z.length<=Vb/\lA z.cps.toList i=R c/\Q (.str #[#v[c]]) H
def KN:IxR X (Rs X.K):=by
 intro g l d s C H x y v u Q I F E h o;let(p,xs,i,z,rfl,rfl,G,L,q):=h;ext F;let(t,rfl):=E;let(P,r,pl,R):=I.list G;let(j,f,O,S,N,M):=xh L;let(w,B,m):=r.get O;let J:=r.length;let K:=yy;let e:EP X d C Q w s:=#[z,H,I,m,q];by_cases A:0<=i
 .let n:i.toNat=j:=by
   rw[seqIndex_of A M]at f;show Vi f
  show item_listR pl.isList A () (by rw[n];simpa using B) e o
 .let n:(i+(P.toArray.size:Int)).toNat=j:=by
   rw[seqIndex_neg () N]at f;rw[Va,<-J];show Vi f
  show subscriptTail_builtinR pl.isList.typeIs ahp.lookup
   (wpAny_getItem_list_neg pl.isList () (by rw[Va]<;>ext) () (by rw[n];simpa using B) #[W,e]) o
def Ph:IxR X (Si X.K):=by
 intro e f d s m H x y v u Q I o n h A;let(p,xs,i,z,rfl,rfl,B,E,q):=h;ext o;let(t,rfl):=n;let(P,r,pl,L):=I.tuple B;let(j,G,F,O,N,M):=xh E;let(w,J,g):=r.get F;let C:=r.length;let K:=yy;let l:EP X d m Q w s:=#[z,H,I,g,q];show subscriptTail_builtinR pl.typeIs slot_tuple_getitem.lookup
  (getItem_tuple pl () () (by rw[Va,<-C];show G) (by simpa using J) #[W,l]) A
def O8:IxR X RQ:=by
 intro d e f s E H x y v u Q I m l h n;let(z,i,c,rfl,rfl,G,p,q):=h;let(t,rfl):=m;let(F,rfl):=l;let(j,g,A,J,w,r):=xh p;let o:z.cps.toList.length=z.length:=by simp[Str.length]
 rw[o]at g w r;let K:=yy;show tail_any (typeIs_str s z t) slot_str_getitem.lookup (getItem_str (by let C:decide (i< -(2^63:Int))=U0:=a4 ();let B:decide (i≥2^63)=U0:=a4 ();rw[C,B,ac5]) (by rw[g];simpa using A) #[.str #[#v[c]],H,I.tok _,#[_,W],q]) n
def Tb(K:UN):R2:=λx y H Q=>Rs K x y H Q\/Si K x y H Q\/RQ x y H Q
theorem bj:IxR X (Tb X.K):=KN.or (Ph.or O8)
def yc(lo c:I Int)(n:Nat):(sliceBounds lo c S n).1=((HT.sIx n 0 lo:Nat):Int)/\(sliceBounds lo c S n).2.1=((HT.sIx n n c:Nat):Int)/\(sliceBounds lo c S n).2.2=1:=by
 show#[?_,?_,W]
 .cases lo with
  |none=>simp[sliceBounds,HT.sIx]
  |some i=>
   simp only[sliceBounds,HT.sIx,aeI,show(1:Int)>0 by decide,if_true];by_cases h:i<0
   .simp only[h,if_true]<;>ext
   .simp only[h,if_false]<;>ext
 .cases c with
  |none=>simp[sliceBounds,HT.sIx]
  |some i=>
   simp only[sliceBounds,HT.sIx,aeI,show(1:Int)>0 by decide,if_true];by_cases h:i<0
   .simp only[h,if_true]<;>ext
   .simp only[h,if_false]<;>ext
def vU(d:G B)(lo c:I Int):slicePick d.toArray lo c S=((d.drop (HT.sIx d.length 0 lo)).take (HT.sIx d.length d.length c - HT.sIx d.length 0 lo)).toArray:=by let(g,f,e):=yc lo c d.toArray.size;ext slicePick;rw[g,f,e];simp only[sliceRange_one,pick_run,Va]<;>rfl
def SE(K:UN):V->I Int->I Int->Hp->VK->Prop:=λx lo d H Q=>∃a xs,x=.ref a/\Y4 K H a xs/\∀p,H p=S->Q (.ref p) (bJ H p (.lst (yW xs lo d)))
def L6:Rf X (SE X.K):=by intro e s n H x v p o lo y t Q I g m pl i h;let(a,xs,rfl,l,q):=h;ext g;let(w,r,f,j):=I.list l;let d:=r.length;show#["list",_,ahp.lookup,f.isList.typeIs,?_];show wpAny_getItem_list_slice f.isList m pl i .none (by simp) ?_ (by rw[Va]<;>ext);rw[vU,<-d];show#[.ref s.heap.objs.size,_,I.laid (λb u q=>bP _ q) (U1 _) ?_,W,q _ (I.Wn.fresh (U1 _))];show#[VT (rK xs lo y) j,_,0,(r.drop (HT.sIx xs.length 0 lo)).take (HT.sIx xs.length xs.length y - HT.sIx xs.length 0 lo),cv _ W]
def Yd.or(h:Yd X f r)(c:Yd X f r'):Yd X f (λxs H Q=>r xs H Q\/r' xs H Q):=by
 intro d s e H xs g Q I i q;rcases q with q|q
 .show h d s e H xs g Q I i q
 .show c d s e H xs g Q I i q
def xg:Yd X (.type "list") (λxs H Q=>∃p ys,xs=[.ref p]/\(Y4 X.K H p ys\/Zw X.K H p ys)/\∀l,H l=S->Q (.ref l) (bJ H l (.lst ys))):=by
 intro j s E H xs G Q I r h;let(p,ys,rfl,v,q):=h;let(u,rfl,F):=kj r;ext F
 let z:∀(f:bg UQ),Vals ys f->ys.length<=Vb->∀(d:Heap) (i:Nat),(∀b w,s.heap.get? b=R w->d.get? b=R w)->
   d.get? s.heap.objs.size=R {cls:=.type "list",dict:=S,data:=.seq f.toArray i,slots:= #v[]}->EP X j E Q (.ref s.heap.objs.size) {s with heap:=d}:=λf g t d i m e=>
  #[.ref s.heap.objs.size,_,I.laid m (U1 _) (show ObjOk X.prog X.w _ d _ (.lst ys)from#[t,f,i,g,e]),W,q _ (I.Wn.fresh (U1 _))]
 rcases v with v|v
 .let(f,g,pl,t):=I.list v;let y:=g.length;let(o,A,C,n,B):=pl.isList;show aml p (.inl W) A C B (λd i m e=>z f g t d i m e) (by simp only[Va]<;>ext)
 .let(f,g,pl,t):=I.tuple v;let y:=g.length;let(o,A,C,n,B):=pl;show aml p (.inr W) A C B (λd i m e=>z f g t d i m e) (by simp only[Va]<;>ext)
def gS:Yd X (.type "tuple") (λxs H Q=>∃p ys,xs=[.ref p]/\((Y4 X.K H p ys/\∀l,H l=S->Q (.ref l) (bJ H l (.tup ys)))\/(Zw X.K H p ys/\Q (.ref p) H))):=by
 intro g s A H xs B Q I r h;let(p,ys,rfl,h):=h;let(u,rfl,t):=kj r;ext t;rcases h with⟨f,q⟩|⟨f,q⟩
 .let(m,d,pl,i):=I.list f
  let j:=d.length;show call_tuple_list pl.isList (λy v=>?_) (by simp only[Va]<;>ext);let n:=I.kept (t':=s.toks) v
  let z:=
   n.laid (t':=s.toks) (λb o e=>bP _ e) (U1 _) (show ObjOk X.prog X.w _ _ _ (.tup ys)from#[i,m,d,abF.new _ _])
  show#[.ref y.objs.size,_,z,W,q _ (n.Wn.fresh (U1 _))]
 .let(m,d,pl,i):=I.tuple f;show call_tuple_same pl #[.ref p,H,I,W,q]
def Ty(K:UN)(T:String)(x:V)(H:Hp):Prop:=match x with
 |.str _=>T= "str"
 |.int _=>T= "int"
 |.ref p=>(T= "list"/\∃xs,Y4 K H p xs)\/(T= "tuple"/\∃o,K.lookup p=R o/\o.cls=.type "tuple"/\o.dict=UO)\/
   (T= "dict"/\((∃d,H p=R (.dK d))\/∃d,H p=R (.dT d)))\/(T= "set"/\∃S n,H p=R (.set S n))
 |_=>False
def Ii(I:Inv X pins σ H s)(r:RelV x v)(ty:Ty X.K T x H):
  s.TypeIs v T/\∀a,v=.ref a->∃k,s.heap.get? a=R k/\k.dict=UO:=by
 cases x with
 |str z=>let(t,rfl):=r;cases(show T= "str" from ty);show#[typeIs_str s z t,λ_ e=>nomatch e]
 |int i=>let(t,rfl):=r;cases(show T= "int" from ty);show#[ab7 s i t,λ_ e=>nomatch e]
 |ref p=>
  ext r;rcases ty with⟨rfl,xs,j⟩|⟨rfl,o,d,l,g⟩|⟨rfl,d⟩|⟨rfl,S,n,d⟩
  .let(m,_,pl,_):=I.list j;show#[pl.isList.typeIs,λa e=>?_];ext e;let(o,n,e,c,g,_):=pl;show#[o,e,g]
  .show#[#[o,I.kIn p o d,l],λa e=>?_];ext e;show#[o,I.kIn _ o d,g]
  .let z:∃o,s.heap.get? p=R o/\o.ExactDict:=by
    rcases d with⟨q,d⟩|⟨q,d⟩
    .let(_,_,_,_,o,_,_,e,f,_):=I.Wn p _ d;show#[o,e,f]
    .let(_,_,_,_,o,_,_,e,f,_):=I.Wn p _ d;show#[o,e,f]
   let(o,e,f):=z;show#[#[o,e,f.1],λa h=>?_];ext h;show#[o,e,f.2.1]
  .let(o,_,_,_,e,f,_):=I.Wn p _ d;show#[#[o,e,f.1],λa h=>?_];ext h;show#[o,e,f.2.1]
 |_=>show False.elim ty
def Ps(K:UN)(T:String)(r:V->G V->Hp->VK->Prop)(to:TE):TE:=λe H Q=>to e H λx d=>Ty K T x d/\r x [] d Q
def T8(K:UN)(T:String)(r:V->G V->Hp->VK->Prop)(to:TE)(t:TA):TE:=λd H Q=>to d H λx e=>Ty K T x e/\t d e λxs f=>r x xs f Q
variable{o e:V8}{N:bg V8}{to:TE}{t:TA}{O:Str}{Z Y:Pos}{T U:String}{r:V->bg V->Hp->VK->Prop}
def xb(c:PlainAttrs T)(slot:Slot T O U)(f:typeOf (.builtin U)=pure (.type "method_descriptor"))(hm:Tx X U r)(q:PE X o to)
  (i:attributeBase o O X.env (eval o X.env)=eval o X.env:=by rfl) (g:(Z.endLine==Y.line)=P:=by rfl):PE X (.Call (.Attribute o O Z) [] [] Y) (Ps X.K T r to):=by
 intro d s j H Q I h;show wpAny_Call_method0_late i g (cT (q d s j H _ I h) λv n a=>?_);let(x,y,m,l,ty,p):=a;let(w,u):=Ii m l ty;show#[T,U,c,slot,f,w,u,Calls.callWith_builtin W (PySem.evalArgs_none (hm d n j y x [] v [] Q m l .nil p))]
def zA(c:PlainAttrs T)(slot:Slot T O U)(g:typeOf (.builtin U)=pure (.type "method_descriptor"))(hm:Tx X U r)(C:PE X o to)(D:PA X (e::N) t)
  (m:attributeBase o O X.env (eval o X.env)=eval o X.env:=by rfl)
  (i:((backTo Y (Vt (e::N) X.env)).all (λx=> !x.1)&&(backToKw Y (keywordEach [] X.env)).all (λx=>x.1.isSome)
   &&decide ((e::N).length+([]:bg aco).length+(if([]:bg aco).isEmpty then 0 else 1)<30))=P:=by rfl)
  (j:(Z.endLine==Y.line)=P:=by rfl) (k:Vt (e::N) X.env=(U0,eval e X.env)::Vt N X.env:=by rfl) (l:(backTo Y (Vt N X.env)).any (·.1)=U0:=by rfl):
  PE X (.Call (.Attribute o O Z) (e::N) [] Y) (T8 X.K T r to t):=by
 intro d s f H Q I h;show wpAny_Call_method_late m i j W (cT (C d s f H _ I h) λv y a=>?_);let(x,L,q,n,ty,K):=a;let(F,E):=Ii q n ty;show#[T,U,c,slot,g,F,E,?_];let p:=D Y d y f L _ q K;rw[k]at p⊢;show Calls.callWith_builtin (by show(U0||(backTo Y (Vt N X.env)).any (·.1))=U0;rw[l]<;>rfl) (Calls.evalArgs_plain ?_);show cT p λu w #[vs,J,G,z,A]=>hm d w f J x vs v u Q G n z A
end
def Ul(X:Cx)(e:String)(r:V->G V->Hp->VK->Prop):Prop:=
 ∀(a:G (M×Obj)) (s:UY) (b:St) (H:Hp) (x:V) (xs:G V) (v:B) (d:G B) (Q:VK),Inv X a b H s->RelV x v->Vals xs d->r x xs H Q->
  wpAny (model X.prog X.w) X.A (call (.builtin e) (v::d)) (EP X a b Q) X.xe s
theorem Vals.one:∀{x:V} {us:G B},Vals [x] us->∃u,us=[u]/\RelV x u
 |_,_,.cons r .nil=>#[_,W,r]
theorem Vals.zero:∀{us:G B},Vals [] us->us=[]
 |_,.nil=>rfl
theorem Vals.rep(h:Vals xs us):∀k:Nat,Vals (U8 k xs).flatten (U8 k us).flatten
 |0=>.nil
 |k+1=>by rw[Wc,Wc,Xp,Xp];show Vals.append h (Vals.rep h k)
theorem ra(b:G B):∀(k:Nat) (a:G B),
  aan (λf c=>f++c) a.toArray (U8 k b.toArray)=(a++(U8 k b).flatten).toArray
 |0,a=>by simp
 |k+1,a=>by
  let e:a.toArray++b.toArray=(a++b).toArray:=by simp
  let d:(a++b)++(U8 k b).flatten=a++(U8 (k+1) b).flatten:=by rw[Wc,Xp,Vw]
  rw[<-d,<-ra b k (a++b),<-e,Wc,Za]
section
variable{X:Cx}{Z:bg (UX×Obj)}{Y:St}{H:Hp}{s:UY}{l b:UX}{T U Q:bg V}
def Inv.aiB{d a:G B}(I:Inv X Z Y H s)(m:H l=R (.lst T))
  (e:s.heap.get? l=R {cls:=.type "list",data:=.seq d.toArray n}) (i:f d.toArray=a.toArray) (g:Vals U a) (c:U.length<=Vb):
  Inv X Z Y (bJ H l (.lst U)) {s with heap:=s.heap.update l (Obj.mapSeq f),toks:=t'}:=by
 let q:=anE e f;rw[i]at q;show I.write (by rw[m];show trivial) (.inl W) (λo u j h=>(cw s.heap (Obj.mapSeq f) (ef j)).trans h) #[_,q] ?_;show#[c,a,_,g,q]
theorem Inv.aik(I:Inv X Z Y H s)(a:Vals U VW)(c:U.length<=Vb):
  Inv X Z Y (bJ H s.heap.objs.size (.lst U)) {s with heap:=s.heap.push {cls:=.type "list",data:=.seq VW.toArray},toks:=t'}:=
 I.laid (λ_ _ q=>bP _ q) (U1 _) #[c,VW,0,a,cv _ W]
theorem Inv.fresh(I:Inv X Z Y H s):H s.heap.objs.size=S:=I.Wn.fresh (U1 _)
def Inv.agK(I:Inv X Z Y H s)(d:H l=R (.lst T)):T.length<=Vb/\∃(a:G B) (n:Nat),Vals T a/\T.length=a.length/\s.heap.get? l=R {cls:=.type "list",data:=.seq a.toArray n}:=by let(z,a,n,r,e):=I.Wn l _ d;show#[z,a,n,r,r.length,e]
def Iy(h:n<=Vb):Builtin.List.listTooLong n=U0:=by ext Builtin.List.listTooLong;show a4 ()
end
section
variable{X:Cx}
def yN:V->G V->Hp->VK->Prop:=λx a H Q=>∃l xs y,x=.ref l/\a=[y]/\H l=R (.lst xs)/\xs.length<Vb/\Q .XN (bJ H l (.lst (xs++[y])))
def iR:Ul X "list.append" yN:=by intro a s i H x t v j Q I d p h;let(l,xs,y,rfl,rfl,b,m,q):=h;ext d;let(u,rfl,f):=p.one;let(z,g,n,r,o,e):=I.agK b;show aaa F.slot_list_append #[_,e,W] F.entry_list_append (F.args_list_append_2 _ _) (PySem.list_append l g.toArray n u (by rw[Va];ext)) #[e,?_];show#[.XN,_,I.aiB b e (by simp) (r.append (.cons f .nil)) ?_,W,q];rw[UZ,YR];ext
def JB:V->G V->Hp->VK->Prop:=λx a H Q=>∃l xs,x=.ref l/\a=[]/\H l=R (.lst xs)/\Q .XN (bJ H l (.lst []))
def AF:Ul X "list.clear" JB:=by intro b s i H x p v j Q I f o h;let(l,xs,rfl,rfl,d,q):=h;ext f;let a:=o.zero;subst a;let(z,g,n,r,m,e):=I.agK d;show aaa F.slot_list_clear #[_,e,W] F.entry_list_clear (F.args_list_clear_1 _) (AutoSeq1.list_clear_list_0 l g.toArray n (by rw[Va];ext)) #[e,?_];show#[.XN,_,I.aiB d e W .nil (VF _),W,q]
def D2(xs:G α)(k:Nat):(U8 k xs).flatten.length=k*xs.length:=by
 induction k with
 |zero=>simp
 |succ k a=>rw[Wc,Xp,UZ,a,ah7,YG]
end
section
variable{Z:Vn}{w:VJ}{A:Vx}{E:UQ->UY->Prop}{s:UY}
set_option maxRecDepth 100000 in
end
end L2
namespace Att
open PySem PySem.W PySem.Calls PyProof.Rows
def sG:∀(d:G Int) (c:G B),WellAll f h c (d.map WData.int)->IntsAre c d:=by
 intro d
 induction d with
 |nil=>intro c w;rw[Yz]at w;ext w;show .nil
 |cons n d e=>
  intro c w;rw[Vf]at w;cases w with
  |cons a b=>ext a;show .cons _ _ (e _ b)
def Fu{l:OpenLaw}(k:l.most=R n)
  (e:l.row.toRowW.claim.pre args=US) (i:WellAll A h vals args):
  ∃a c ns,vals=[UQ.ref a]/\args=[WData.list (ns.map WData.int)]/\h.get? a=R {cls:=.type "list",data:=.seq c.toArray}/\IntsAre c ns/\ns.length<=n:=by
 let j:=(pre_splitW e).1;let o:l.pre.holds [] {args:=args}=US:=(pre_splitW e).2;let(d,r,rfl,z,y):=hasAllW_cons j;obtain rfl:=hasAllW_nil y;let(xs,rfl,w):=hasW_list z;let(ns,rfl):=items_int w;let b:ns.length<=n:=by
  unfold OpenLaw.pre at o;let g:(WTm.not (.lt (.lit (.int (n:Int))) (.len (.arg 0)))).holds [] {args:=[.list (ns.map .int)]}=US:=by let g:=(holds_andW o).1;rw[k]at g;show g
  let f:=condW_of g (w_not (w_lt w_lit (w_len_list (w_arg W))));rw[UR]at f;show Nat.le_of_not_lt λq=>?_;let u:(n:Int)<((ns.length:Nat):Int):=by ext
  first
   |(rw[aP u]at f;show a6 f ())
   |(simp at f;ext)
 cases i with
 |cons t p=>
  ext p;cases t with
  |list v m=>show#[_,_,ns,W,W,v,sG ns _ m,b]
theorem Fq(l:OpenLaw)(args:G WData):l.row.toRowW.claim.post args (.bool P) args=P:=
 postW_of
  (show WShape.has [] (.bool P) .bool=P by first|rfl|decide|simp[WShape.has,WShape.arms,WShape.armsAll])
  (show(WTm.eq .res (.lit (.bool P))).value [] {args:=args,res:=R (.bool P),after:=args}=R (.bool (P==P))from w_eq_bool (w_res W) w_lit) W
def attach_call{l:OpenLaw}{n:Nat}{q:Vn}{e:bg Str}{I:(Str->br UQ)->Heap->Prop}{H:VJ->Heap->Prop}{d:DefRec}
  (U:l.most=lD n) (y:d.params.defaults=[])
  (call:∀(w:VJ) (c b:UY) (D t:Str->br UQ) (s:UX) (o:Obj) (p m h:UQ) (a:UX) (k:bg UQ) (j:bg Int),
   Ground q e [] I w c D t b.heap->H w b.heap->
   b.heap.get? s=lD o->o.data=.func (docDef d.name d.params d.body d.scope p m h)->b.heap.CodeRec m d.name->D d.name=lD (.ref s)->
   b.heap.get? a=lD {cls:=.type "list",data:=.seq k.toArray}->IntsAre k j->j.length<=n->b.gens= #v[]->
   codeAny (model l.prog w) callerA (.call (.ref s) #[[.ref a],[]]) (λr x=>r=.ok (.ret (.bool US))/\OldK b.heap x.heap/\x.os=b.os/\AllBare x.gens) b):
  WalkO q e I H l.row.toRowW d [] (λf k=>ah8 f k):=by
 intro w c b D t G Y s o p m h dV kV L O z E v N F C T B S J u M;obtain rfl:dV=.none:=Dflts.none E y;obtain rfl:kV=.none:=Dflts.noKw E;let(a,k,j,rfl,rfl,A,g,i):=Fu U B u;show enter_call (YV (call w c b D t s o p m h a k j G Y L (fd_plain O) z v A g i N) λr x K=>?_);let(rfl,R,Q,P):=K;show#[.inl #[.bool US,.bool US,[],W,λ_=>W,.bool US,Fq l _,λ_=>#[Y2,λ_ hm=>(nomatch hm)]],R,Q,P]
end Att
namespace L2
open PySem PySem.Spec PyProof.Rows
theorem jY:∀{b:G B} {a:G Int},IntsAre b a->Vals (a.map V.int) b
 |_,_,.nil=>.nil
 |_,_,.cons n t h=>.cons #[t,W] (jY h)
def Sh(H:Hp):Prop:=∀b,H b=S\/∃o xs,H b=R (.frz o (.lst xs))
def JW{P:Vn}{w:VJ}{K:UN}{mg I:Str->br UQ}{CX:yw}{k:Nat}{fa a:UX}{fd:We}{x:Str}{sp:Sp}{f:UY}{D:bg UQ}{p:bg Int}
  (Z:K.In f.heap) (t:f.heap.Ns Vj mg) (g:f.heap.Ns builtinsNs I) (L:∀x:Str,x≠ "__name__"->I x=Wb x) (R:f.heap.NoLimit) (hg:f.gens= #v[])
  (ha:f.heap.get? a=lD {cls:=.type "list",data:=.seq D.toArray}) (hi:IntsAre D p) (T:p.length<=Vb) (hr:Xu k callerA)
  (F:∀base:Heap,K.In base->base.Ns Vj mg->FnOk P w K mg base CX k fa fd [x] sp) (S:∀(s:UY) (u:UQ),aaZ s fd #[[u],[]] [(x,u)])
  (J:∀H:Hp,Sh H->Y4 K H a (p.map V.int)->sp [.ref a] H (λv _=>v=.bl US) λ_ _ _=>False)
  (M:∀H e c,CX [] H f (λ_ _ _=>False) e c->False):
  codeAny (model P w) callerA (.call (.ref fa) #[[.ref a],[]]) (λr c=>r=.ok (.ret (.bool US))/\OldK f.heap c.heap/\c.os=f.os/\AllBare c.gens) f:=by
 let rv:=jY hi;let Q:=hi.length
 let j:∀H:Hp,Sh H->Y4 K H a (p.map V.int)->HOk P w H f.heap->(∀b,H b≠UO->b=a)->(H a≠UO->K.lookup a=UO)->
   codeAny (model P w) callerA (.call (.ref fa) #[[.ref a],[]]) (λr c=>r=.ok (.ret (.bool US))/\OldK f.heap c.heap/\c.os=f.os/\AllBare c.gens) f:=by
  intro H U hS Wn X hK;let E:∀{b:UX} {o:Obj},f.heap.get? b=lD o->H b=UO->(xK f.heap H).get? b=lD o:=λe n=>GS e n;let G:∀{b:UX} {o:Obj} {A:Array YN} {Bz0:Nat},f.heap.get? b=lD o->o.data=.dict A Bz0->H b=UO:=λ{b o A Bz0} e d=>by
   cases q:H b with
   |none=>rfl
   |some u=>let N:b=a:=X b (by rw[q];simp);subst N;rw[ha]at e;ext e;let d':Data.seq D.toArray _=Data.dict A Bz0:=d;ext d'
  let i:∀{b:UX} {m:Str->br UQ},f.heap.Ns b m->(xK f.heap H).Ns b m:=λ{b m} #[o,A,Bz0,e,d,r]=>#[o,A,Bz0,E e (G e d),d,r];let y:K.In (xK f.heap H):=λb o e=>E (Z b o e) (by
   cases q:H b with
   |none=>rfl
   |some u=>let N:b=a:=X b (by rw[q];simp);subst N;rw[hK (by rw[q];simp)]at e;ext e)
  let hM:Mod K mg (xK f.heap H):=#[y,i t,#[I,i g,L],let#[mc,h1,h2]:=R;#[mc,i h1,h2]];let e0:Env0 P w K mg (xK f.heap H) callerA [] f H:=#[W,hM,λb o e=>NC e,ah5 (Gj _ _),trivial,λb g=>a6 (show b∈([]:bg UX)from g) (by simp),Wn,.of_eq hg];show YV ((F _ y (i t)).run callerA [] f H #[[.ref a],[]] [.ref a] [.ref a] _ _ hr e0 (S f (.ref a)) (.cons W .nil) (J H U hS)) λr c h=>?_;cases r with
  |error e=>show(M H e c h).elim
  |ok fl=>
   cases fl with
   |next=>show False.elim h
   |brk=>show False.elim h
   |cont=>show False.elim h
   |ret u=>
    let(v,H',os,C,un,O,r',q):=h;let q':v=.bl US:=q;subst q';obtain rfl:u=UQ.bool US:=r';show#[W,OldK.of_keep λb o e=>?_,os,C];cases q:H b with
    |none=>show un.keep b o e q (by intro z;show a6 (show b∈([]:bg UX)from z) (by simp)) (by simp)
    |some u=>
     rcases U b with z|⟨ob,xs,z⟩
     .rw[q]at z;ext z
     .let z2:=un.abp b ob _ z;let(Y,_):=Wn b _ z;let(e2,_):=O b _ z2;rw[e]at Y;ext Y;show e2
 cases hk:K.lookup a with
 |some o=>let e:=Z a o hk;rw[ha]at e;ext e;show j (λ_=>UO) (λ_=>.inl W) (.inr #[_,D.toArray,_,hk,W,W,W,by rw[Va,Q];show T,by simpa using rv]) (λb u z=>by let l:(UO:br HO)=lD u:=z;ext l) (λb z=>a6 W z) λz=>a6 W z
 |none=>
  show j (λb=>if b=a then lD (.frz {cls:=.type "list",data:=.seq D.toArray} (.lst (p.map V.int)))else UO) (λb=>?_) (.inl (.inr #[{cls:=.type "list",data:=.seq D.toArray},av W])) (λb u z=>?_) (λb z=>?_) λ_=>hk
  .by_cases g:b=a
   .show .inr #[_,_,av g]
   .show .inl (ax g)
  .by_cases g:b=a
   .let l:=(av g).symm.trans z;ext l;subst g;show#[ha,by rw[UR];show T,D,_,rv,ha]
   .let l:=(ax g).symm.trans z;ext l
  .by_cases g:b=a
   .show g
   .show a6 (ax g) z
def bw(s:Xx)(j:Nat):Xx:=match s with
 |.ClassDef _ _ _ body _ _ _ _ _ _ _=>body.getD j (.Pass #[0,0,0,0])
 |_=>.Pass #[0,0,0,0]
def gu(s:Xx):Arguments:=match s with
 |.FunctionDef _ a _ _ _ _ _ _ _ _=>a
 |_=>{posonlyargs:=[],args:=[],vararg:=S,kwonlyargs:=[],kw_defaults:=[],kwarg:=S,defaults:=[]}
def cI(s:Xx):G Xx:=match s with
 |.FunctionDef _ _ b _ _ _ _ _ _ _=>b
 |_=>[]
def aI(s:Xx):YU:=match s with
 |.FunctionDef _ _ _ _ _ _ sc _ _ _=>sc
 |_=>{kind:=.function,names:=[],isGenerator:=U0,isCoroutine:=U0}
abbrev dR:yw:=λ_ _ _ _ _ _=>False
abbrev E0:XK:=λ_ _ _=>False
theorem Ez:gF dR X E0:=λ_ _ _ _ _ _ _ h=>h.elim
structure Yp(K:UN)(x qual:Str)(st:Xx)(f:M)(fd:We):Prop where
 ex:∃(oc:B) (od:I M) (kV doc pm:B) (an:I M) (Wt ct:B) (osl:Array (I B)),
  fd=Wz x qual (gu st) (cI st) (aI st) .none kV doc pm an Wt ct/\K.lookup f=R #[oc,od,.func fd,osl]/\Zg K Wt qual=P
 kp:WM K (.ref f)=P
section
variable{P:Vn}{w:VJ}{K:UN}{Z:Str->br UQ}{base:Heap}
def Yp.ok{x a:Str}{b:Xx}{f:M}{fd:We}{N v:G Str}{k:Nat}{sp:Sp}(F:Yp K x a b f fd)(S:XU N v (aI b))(len:∀c H Q E,sp c H Q E->c.length=v.length)
  (n:∀(d:B) (A:Vx) (outer:G Env) (s:UY) (H:Hp) (c:G V) (Q:VK) (E:XK),Xu k (A.deeper (envOfC a (aI b) s.heap.objs.size f d))->sp c H Q E->
   ∃t,PSs (gM dR P w K Z base N a (aI b) f d A outer s H E).nox (cI b) t/\t {nx:=λ_ y=>Q .XN y,rt:=Q} (start N c) H):FnOk P w K Z base dR (k+1) f fd v sp:=by
 let(r,p,kV,m,o,u,d,ct,i,rfl,j,g):=F.ex;show JM j g S len λA outer s H c Q E l e=>?_;let(t,h,q):=n d A outer s H c Q E l e;show#[t,h.nox,q]
def Yp.binds{x a:Str}{d:Xx}{f:M}{fd:We}{ps:G Str}(F:Yp K x a d f fd)
  (h:∀(kV b e:B) (g:I M) (i ct:B) (us:G B),us.length=ps.length->bindArgs (Wz x a (gu d) (cI d) (aI d) .none kV b e g i ct) #[us,[]]=pure (ps.zip us)):Binds K fd ps []:=by
 let(n,m,kV,b,e,g,i,ct,j,rfl,o,l):=F.ex;show .all (h kV b e g i ct)
theorem Ij{a:Xx}{kV b e d ct:B}(l:K.lookup f=R #[J,C,.func (Wz x qual (gu a) (cI a) (aI a) .none kV b e an d ct),o])
  (c:Zg K d qual=US) (k:WM K (.ref f)=US):Yp K x qual a f (Wz x qual (gu a) (cI a) (aI a) .none kV b e an d ct):=#[#[J,C,kV,b,e,an,d,ct,o,W,l,c],k]
end
theorem D6(a:Xu k A):A.units+1<cLine:=ZF (Nat.add_le_add_left (by decide:1<=64) _) a.units
section
variable{X:Cx}
theorem pv(i:Nat)(d:X.N[i]?=R x:=by rfl)(b:Ti X.env.scope x:=by first|show a7 W|show bb (a7 W)|show bb (bb W))(hd:(x==("__debug__":Str))=U0:=by decide)
  (a:(x==("__classdict__":Str))=U0:=by decide):PE X (.Name x pos) (yA i):=P9 d b hd a
end
def WY(H a:Hp):Prop:=∀b o,H b=R o->a b=R o
theorem WY.refl(H:Hp):WY H H:=λ_ _ h=>h
theorem WY.trans(a:WY H H1)(b:WY H1 H2):WY H H2:=λc o h=>b c o (a c o h)
def WY.free(e:WY H H')(h:H' l=S):H l=S:=by
 cases q:H l with
 |none=>rfl
 |some o=>rw[e l o q]at h;ext h
end L2
set_option maxHeartbeats 4000000
namespace L2
open PySem PySem.Spec PyProof.Rows
section
variable{X:Cx}{Z:bg (UX×Obj)}{U:St}{H:Hp}{s:UY}{Y:Heap}
def Inv.aea{ch:G M}(I:Inv X Z U H s)(h:∀b∈ch,oZ X Z H b)
  (k:∀b u,b∉ch->s.heap.get? b=R u->Y.get? b=R u) (j:s.heap.objs.size<=p)
  (new:ObjOk X.prog X.w (bJ H p o) Y p o):Inv X Z U (bJ H p o) {s with heap:=Y,toks:=t'}:=by
 let w:=I.Wn.fresh j;let d:∀b u,H b=R u->b∉ch:=λb u e z=>by rw[(h b z).1]at e;ext e
 let g:∀b u,s.heap.get? b=R u->b≠p:=λb u e=>Vk (Vo (cn e) j);show I.step (λb f=>?_) (λb u _ _ a e _=>k b u a e) (λb u _ _ a e _=>#[u.slots,k b u a e])
  (λb u _ e n=>by rw[aF (g b u e)];show n) (λb u a e=>#[u,k b u a e]) (λb xs e=>by rw[aF (cC e w)];show e)
  (λb u xs e=>by rw[aF (cC e w)];show e) (λb J e=>#[#v[],by rw[aF (cC e w),e];simp]) (λm hm=>?_) (λb u e=>?_) I.bare
 .let(_,B,_,A,y,t):=h b f;show#[A,B,y,t]
 .let(i,C,E,l,r):=hm;show#[i,C,E,k _ i (λz=>(h _ z).2.1 W) l,r]
 .by_cases f:b=p
  .subst f;rw[aO]at e;ext e;show new
  .rw[aF f]at e
   show(I.Wn b u e).aaf (λc v a q=>k c v ?_ q) (λc q=>by rw[aF (cC q w)];show q) λc xs q=>by rw[aF (cC q w)];show q
   rcases a with z|z
   .rw[z];show d b u e
   .show d c _ z
end
mutual
inductive DV(K:UN)(H:Hp):V->UU->Prop
 |XN:DV K H .XN .none
 |bl (b:Bool):DV K H (.bl b) (.bool b)
 |int (i:Int):DV K H (.int i) (.int i)
 |str (x:Str):DV K H (.str x) (.str x)
 |tup {a:UX} {xs:bg V} {ds:bg UU}:Zw K H a xs->WO K H xs ds->DV K H (.ref a) (.tuple ds)
 |lst {a:UX} {xs:bg V} {ds:bg UU}:Y4 K H a xs->WO K H xs ds->DV K H (.ref a) (.list ds)
inductive WO(K:UN)(H:Hp):bg V->bg UU->Prop
 |nil:WO K H [] []
 |cons {v:V} {vs:bg V} {d:UU} {ds:bg UU}:DV K H v d->WO K H vs ds->WO K H (v::vs) (d::ds)
end
section
variable{X:Cx}{Z:bg (UX×Obj)}{σ:St}{H:Hp}{s:UY}
mutual
theorem DV.reads(I:Inv X Z σ H s):∀{v:V} {d:UU} {u:UQ},DV X.K H v d->RelV v u->∃as,acq s.heap u d as
 |_,_,_,.XN,r=>by cases r;exact⟨_,.none⟩
 |_,_,_,.bl b,r=>by cases r;exact⟨_,.bool b⟩
 |_,_,_,.int i,r=>by obtain⟨t,rfl⟩:=r;exact⟨_,.int i t⟩
 |_,_,_,.str x,r=>by obtain⟨t,rfl⟩:=r;exact⟨_,.str x t⟩
 |_,_,_,.tup h hs,r=>by cases r;obtain⟨a,rv,⟨o,e,c,n,d⟩,_⟩:=I.tuple h;obtain⟨as,q⟩:=WO.reads I hs rv;exact⟨_,.tuple e c d (by simpa using q)⟩
 |_,_,_,.lst h hs,r=>by cases r;obtain⟨a,rv,⟨o,n,e,c,_,d⟩,_⟩:=I.list h;obtain⟨as,q⟩:=WO.reads I hs rv;exact⟨_,.list e c d (by simpa using q)⟩
theorem WO.reads(I:Inv X Z σ H s):∀{vs:bg V} {ds:bg UU} {us:bg UQ},WO X.K H vs ds->Vals vs us->∃as,aab s.heap us ds as
 |_,_,_,.nil,r=>by cases r;exact⟨_,.nil⟩
 |_,_,_,.cons h hs,r=>by
  cases r with
  |cons b a=>obtain⟨as,q⟩:=DV.reads I h b;obtain⟨bs,d⟩:=WO.reads I hs a;exact⟨_,.cons q d⟩
end
end
def K0(K:UN)(neg:Bool):R2:=λx y H Q=>∃a b,DV K H x a/\DV K H y b/\a.canLay0=P/\b.canLay0=P/\a.depth<=64/\Q (.bl (if neg then !UU.eqv a b else UU.eqv a b)) H
section
variable{X:Cx}
def je(n:X.A.units+64<cLine):OpR X (W2 .Eq) (K0 X.K U0):=by intro a s m H x y v u Q I d b h;let(t,p,l,j,i,g,o,q):=h;let(r,f):=l.reads I d;let(bs,e):=j.reads I b;show aki f e i g () #[.bl _,H,I,W,q]
def lK(n:X.A.units+64<cLine):OpR X (W2 .NotEq) (K0 X.K P):=by intro a s m H x y v u Q I d b h;let(t,p,l,j,i,g,o,q):=h;let(r,f):=l.reads I d;let(bs,e):=j.reads I b;show akj f e i g () #[.bl _,H,I,W,q]
theorem Jx:OpR X (WT .FloorDiv) (rI (λ_ j=>0<j/\j.natAbs.log2<9000) λi j=>.int (i/j)):=Ri λi j _ _ _ _ _ a q=>by let b:(0:Int)<j:=a.1;show floordiv_int () (by rw[acM i ()];show q) (.inl (PyProof.noPylong_of_log2 a.2))
end
def jp(env:Env):G (Str×VO)->G (Str×M)->G (Str×M)
 |[],acc=>acc
 |(n,k)::r,acc=>if(k==VO.free)=P then(match env.cells.lookup n with|some c=>jp env r ((n,c)::acc)|none=>jp env r acc)else jp env r acc
theorem nU{f:Str×VO->G (Str×M)->Sem (ForInStep (G (Str×M)))}
  (d:∀n k a,(k==VO.free)=U0->f (n,k) a=pure (.yield a)) (m:∀n c a,env.cells.lookup n=R c->f (n,.free) a=pure (.yield ((n,c)::a))):
  ∀(names:G (Str×VO)) (a:G (Str×M)),(∀y∈names,y.2=.free->∃c,env.cells.lookup y.1=R c)->forIn names a f=pure (jp env names a)
 |[],a,_=>rfl
 |(n,k)::r,a,h=>by
  let g:=λy j=>h y (U6 _ j);rw[Zb];cases l:(k==VO.free)with
  |false=>rw[d n k a l,pure_bind];show forIn r a f=_;rw[nU d m r a g];simp only[jp,l,VN,if_false]
  |true=>
   let e:k=.free:=by simpa using l
   subst e;let(c,i):=h _ U5 W;rw[m n c a i,pure_bind];show forIn r ((n,c)::a) f=_;rw[nU d m r _ g];let b:=i;simp only[jp,l,if_true,b]
def vH(h:∀y∈scope.names,y.2=.free->∃c,env.cells.lookup y.1=R c):closureFor scope env=pure (jp env scope.names []):=by simp only[closureFor];rw[nU (λn k a b=>by simp only[b,VN,if_false]) (λn c a d=>by simp only[eu,if_true,cellOf,d,pure_bind]) scope.names [] h,pure_bind]
theorem mh:∀(names:G (Str×VO)) (a:G (Str×M)),(∀x c,a.lookup x=R c->env.cells.lookup x=R c)->∀x c,(jp env names a).lookup x=R c->env.cells.lookup x=R c
 |[],_,h,x,c,e=>h x c e
 |(n,k)::r,a,h,x,c,e=>by
  unfold jp at e;split at e
  .split at e
   .rename_i g b
    show mh r _ (λy d q=>?_) x c e;rw[Vq]at q;split at q
    .rename_i f;ext q;rw[eq_of_beq f];show b
    .show h y d q
   .show mh r a h x c e
  .show mh r a h x c e
theorem mQ:∀(names:G (Str×VO)) (a:G (Str×M)) (x:Str),(a.lookup x).isSome=P->((jp env names a).lookup x).isSome=P
 |[],_,_,h=>h
 |(n,k)::r,a,x,h=>by
  ext jp;split
  .split
   .show mQ r _ x ?_
    rw[Vq];split
    .rfl
    .show h
   .show mQ r a x h
  .show mQ r a x h
theorem oG:∀(names:G (Str×VO)) (a:G (Str×M)) (x:Str) (c:M),(x,VO.free)∈names->env.cells.lookup x=R c->((jp env names a).lookup x).isSome=P
 |[],_,_,_,h,_=>by ext h
 |(n,k)::r,a,x,c,h,b=>by
  rcases Vm.mp h with z|h
  .ext z;simp only[jp,eu,if_true,b];show mQ r _ _ (by simp[Vq])
  .ext jp
   split
   .split
    .show oG r _ x c h b
    .show oG r a x c h b
   .show oG r a x c h b
def yX(h:(x,VO.free)∈names)(a:env.cells.lookup x=R c):(jp env names []).lookup x=R c:=by
 let q:=oG names [] x c h a;cases e:(jp env names []).lookup x with
 |none=>rw[e]at q;ext q
 |some d=>let z:=mh names [] (λy d q=>by ext q) x d e;rw[a]at z;show z.symm
def zY{env:Env}{a:YU}{x:Str}{k:VO}(h:(relabel a env).names.lookup x=R k):∃c,(x,c)∈a.names/\(k=c\/(c=.free/\k=.cell)):=by
 let((n,c),hm,e):=Vs.mp (WZ h);simp only at e;split at e
 .rename_i b
  ext e;let d:(c==VO.free)=P:=by rw[Vh,Vh]at b;show b.1.1
  show#[c,hm,.inr #[by simpa using d,W]]
 .ext e;show#[_,hm,.inl W]
theorem kO{env:Env}:∀{names:G (Str×VO)} {x:Str},names.lookup x=R .free->
  (names.map λ(n,k)=>if(k==VO.free&&env.scope.kind==.function&&env.kindOf n==R .cell)then(n,VO.cell)else(n,k)).lookup x=R .cell\/
  (names.map λ(n,k)=>if(k==VO.free&&env.scope.kind==.function&&env.kindOf n==R .cell)then(n,VO.cell)else(n,k)).lookup x=R .free
 |[],_,h=>by ext h
 |(n,k)::r,x,h=>by
  rw[Vq]at h;rw[Vf];dsimp only;by_cases a:(k==VO.free&&env.scope.kind==.function&&env.kindOf n==R .cell)=P
  .rw[av a,Vq]
   cases b:x==n with
   |true=>show .inl W
   |false=>rw[b]at h;show kO h
  .rw[ax a,Vq]
   cases b:x==n with
   |true=>rw[b]at h;show .inr h
   |false=>rw[b]at h;show kO h
def gJ(own:G Str)(a:G (Str×Nat)):G Str:=own++a.map (·.1)
def iq(own:G Str)(b:G (Str×Nat))(a:St):St:=own.map (λ_=>S)++b.map λp=>(a[p.2]?).join
def ad1(X:Cx)(a:YU):G (Str×Nat)->Prop
 |[]=>True
 |p::r=>(X.N[p.2]?=R p.1/\a.names.lookup p.1=R .free/\(X.env.scope.names.lookup p.1=R .cell\/X.env.scope.names.lookup p.1=R .free))/\ad1 X a r
theorem ad1.mem:∀{a:G (Str×Nat)},ad1 X scope a->∀p∈a,X.N[p.2]?=R p.1/\scope.names.lookup p.1=R .free/\(X.env.scope.names.lookup p.1=R .cell\/X.env.scope.names.lookup p.1=R .free)
 |[],_,p,b=>by ext b
 |q::r,h,p,b=>by
  rcases Vm.mp b with z|b
  .rw[z];show h.1
  .show h.2.mem p b
def yD(X:Cx)(a:YU)(C:M):G (Str×M):=Xb (C+1) a.names (jp X.env a.names [])
theorem uT:∀(names:G (Str×VO)) (n:Nat) (b:G (Str×M)) (x:Str) (c:M),(Xb n names b).lookup x=R c->(n<=c/\(x,VO.cell)∈names)\/b.lookup x=R c
 |[],_,_,_,_,h=>.inr h
 |(y,k)::r,n,b,x,c,h=>by
  unfold Xb at h;by_cases d:(k==VO.cell)=P
  .rw[av d]at h
   let e:k=.cell:=by simpa using d
   rcases uT r _ _ x c h with⟨a,f⟩|a
   .show .inl #[ZU a,U6 _ f]
   .rw[Vq]at a
    split at a
    .rename_i g;ext a;show .inl #[U1 _,by rw[eq_of_beq g,e];show U5]
    .show .inr a
  .rw[ax d]at h
   rcases uT r _ _ x c h with⟨a,f⟩|a
   .show .inl #[a,U6 _ f]
   .show .inr a
theorem HA:∀(names:G (Str×VO)) (n:Nat) (a:G (Str×M)) (x:Str),(x,VO.cell)∉names->(Xb n names a).lookup x=a.lookup x
 |[],_,_,_,_=>rfl
 |(y,k)::r,n,a,x,h=>by
  let d:=λz=>h (U6 _ z);ext Xb;by_cases b:(k==VO.cell)=P
  .let e:k=.cell:=by simpa using b
   rw[av b,HA r _ _ x d,Vq];let f:(x==y)=U0:=by show beq_eq_false_iff_ne.mpr λz=>h ?_;rw[z,e];show U5
   rw[f]
  .rw[ax b];show HA r _ _ x d
theorem ud:∀(names:G (Str×VO)) (h:Heap) (b:G (Str×M)) (x:Str) (c:M),(Xb h.objs.size names b).lookup x=R c->(h.objs.size<=c/\(pushCells h names).IsCell c S)\/b.lookup x=R c
 |[],_,_,_,_,e=>.inr e
 |(y,k)::r,h,b,x,c,e=>by
  unfold Xb at e;ext pushCells;by_cases d:(k==VO.cell)=P
  .rw[av d]at e⊢
   rw[<-dt h {cls:=.type "cell",data:=.cell S}]at e;rcases ud r _ _ x c e with⟨a,f⟩|a
   .rw[dt]at a;show .inl #[ZU a,f]
   .rw[Vq]at a
    split at a
    .ext a;show .inl #[U1 _,_,adj _ _ _ _ (cv _ W),W]
    .show .inr a
  .rw[ax d]at e⊢;show ud r _ _ x c e
theorem BQ:∀(names:G (Str×VO)) (n:Nat) (e:G (Str×M)),(∀x c,e.lookup x=R c->c<n)->(∀x y c,e.lookup x=R c->e.lookup y=R c->x=y)->∀x y c,(Xb n names e).lookup x=R c->(Xb n names e).lookup y=R c->x=y
 |[],_,_,_,m,x,y,c,l,j=>m x y c l j
 |(z,k)::r,n,e,h1,m,x,y,c,l,j=>by
  unfold Xb at l j;by_cases h:(k==VO.cell)=P
  .rw[av h]at l j
   show BQ r (n+1) ((z,n)::e) (λa d q=>?_) (λa b d g f=>?_) x y c l j
   .rw[Vq]at q
    split at q
    .ext q;show WN _
    .show X8 (h1 a d q)
   .rw[Vq]at g f
    split at g
    .rename_i o
     split at f
     .rename_i i;rw[eq_of_beq o,eq_of_beq i]
     .ext g;show a6 (h1 b _ f) (Wi _)
    .split at f
     .ext f;show a6 (h1 a _ g) (Wi _)
     .show m a b d g f
  .rw[ax h]at l j;show BQ r n e h1 m x y c l j
theorem Bv:∀{names:G (Str×VO)} {x:Str} {k a:VO},(names.map (·.1)).Nodup->names.lookup x=R k->(x,a)∈names->k=a
 |[],_,_,_,_,h,_=>by ext h
 |(y,j)::r,x,k,a,d,h,hm=>by
  rw[Vf,Wf]at d;rw[Vq]at h;rcases Vm.mp hm with e|b
  .ext e;rw[eu]at h;show(Vi h).symm
  .cases f:x==y with
   |true=>rw[eq_of_beq f]at b;show a6 (Vs.mpr #[_,b,W]) d.1
   |false=>rw[f]at h;show Bv d.2 h b
def eO(X:Cx)(s:UY)(H:Hp)(a:YU)(C:M)(N:G Str)(b:G M):Cx:=
 {X with N:=N,s₀:=s,H₀:=H,env:=compEnvC a (yD X a C) C X.env,outer:=X.stack,stack:=X.stack,ex:=b,fn:=λx=>((jp X.env a.names []).lookup x).isNone,pn:=[],xe:=λ_ _=>False}
section
variable{X:Cx}{Z:bg (UX×Obj)}{Y:St}{H:Hp}{s:UY}
def wD{a:YU}(I:Inv X Z Y H s)(e:(jp X.env a.names []).lookup x=R c):X.env.cells.lookup x=R c/\c<s.heap.objs.size:=by let h:=mh _ _ (λ_ _ q=>by ext q) x c e;let(v,o,z,_):=I.cell x c h;show#[h,cn z]
theorem Dl(I:Inv X Z Y H s)(L:scope.kind=.function)(m:(scope.names.map (·.1)).Nodup)
  (u:∀y∈scope.names,y.2=.free->∃c,X.env.cells.lookup y.1=R c) (f:s.heap.objs.size<=C) (i:∀b∈U,oZ X Z H b) (d:∀b∈U,b<s.heap.objs.size):(eO X s H scope C N U).Ok where
 mod:=I.ok.mod
 kind:=L
 glob:=I.ok.glob
 blt:=I.ok.blt
 above:=f
 inj:=BQ _ _ _ (λx c e=>X8 (Vo (wD I e).2 f)) λx y c A w=>I.ok.inj x y c (wD I A).1 (wD I w).1
 has:=λx F=>by
  let j:∃k,(relabel scope X.env).names.lookup x=R k/\(k=.cell\/k=.free):=by
   rcases F with z|z
   .show#[_,z,.inl W]
   .show#[_,z,.inr W]
  let(k,J,n):=j;let(B,hm,t):=zY J;let e:B=.free\/B=.cell:=by
   rcases t with z|⟨z,_⟩
   .subst z
    rcases n with z|z
    .show .inr z
    .show .inl z
   .show .inl z
  let q:((yD X scope C).lookup x).isSome=P:=by
   rcases e with e|e
   .subst e;let(c,K):=u _ hm W;show Yt _ _ _ (.inr (by rw[yX hm K];rfl))
   .subst e
    show Yt _ _ _ (.inl ?_);cases z:scope.names.lookup x with
    |none=>show a6 hm (λhm=>by
      let:∀{l:bg (Str×VO)},l.lookup x=S->(x,VO.cell)∉l:=λ{l}=>by
       induction l with
       |nil=>show λ_=>by simp
       |cons p r E=>
        intro h q;rw[Vq]at h;rcases Vm.mp q with q|q
        .rw[<-q,eu]at h;ext h
        .split at h
         .ext h
         .show E h q
      show this z hm)
    |some M=>rw[Bv m z hm]
  show acB.mp q
 cab:=λx c A w=>by
  let g:((jp X.env scope.names []).lookup x).isNone=P:=A;let v:=w;rcases uT _ _ _ x c v with⟨z,_⟩|z
  .show VT f (ZU z)
  .rw[z]at g;ext g
 hd:=I.ok.hd
 frames:=I.ok.frames
 stk:=.inl W
 exf:=λb a=>#[Vk (Vo (d b a) f),λx c e=>by
  rcases uT _ _ _ x c e with⟨z,_⟩|z
  .show Wd (Vo (Vo (d b a) f) (ZU z))
  .show(i b a).2.2.2.2.1 x c (wD I z).1]
 bs:=I.bs
 bsz:=VT I.ok.bsz I.sz
 ado:=λb o e a=>by
  rcases(i b a).2.2.2.1 with z|z
  .show I.ok.ado b o e z
  .show a6 (Vo (cn e) (VT I.ok.bsz z)) (Wi _)
 ady:=λb a G=>by
  rcases Vm.mp (I.abE b G)with z|z
  .show(i b a).2.1 z
  .show(i b a).2.2.1 z
 aba:=I.stack
 frf:=I.ab5
def Gr(I:Inv X Z Y H s)(ZA:scope.kind=.function)(g:(scope.names.map (·.1)).Nodup)
  (O:∀y∈scope.names,y.2=.free->∃c,X.env.cells.lookup y.1=R c) (N:ad1 X scope J) (E:s.heap.objs.size<=D) (j:D<C) (U:s.heap.objs.size<=C) (hf:∀b∈fp,oZ X Z H b) (Q:∀b∈fp,b<s.heap.objs.size)
  (L:h1.Ns C m) (F:∀x c,(yD X scope C).lookup x=R c->C<c->∃v,h1.IsCell c v) (w:∀b o,s.heap.get? b=R o->h1.get? b=R o) (hd:∃n,h1.get? D=R {cls:=.type "list",data:=.seq #v[] n}):
  Inv (eO X s H scope C (gJ own J) fp) [] (iq own J Y) (bJ H D (.lst [])) {s with heap:=h1,toks:=t1}:=by
 let hn:=I.Wn.fresh E;let(n,hd):=hd;let T:=Wd j;let h:∀x c,(yD X scope C).lookup x=R c->C<c\/(X.env.cells.lookup x=R c/\c<s.heap.objs.size):=λx c e=>by
  rcases uT _ _ _ x c e with⟨z,_⟩|z
  .show .inl z
  .show .inr (wD I z)
 show#[Dl I ZA g O U hf Q,W,I.bare,Un.laid w E hn,#[m,L,λi x v e1 e2 e3=>?_],λx c e=>?_,?_,λx c e=>?_,λp hp=>a6 (show p∈([]:G (M×Obj))from hp) (by simp),?_,?_]
 .
  let d:(own++J.map (·.1))[i]?=R x:=e1;let a:(own.map (λ_=>(S:br V))++J.map λp=>(Y[p.2]?).join)[i]?=R (R v):=e2;let A:own.length<=i:=by
   by_cases A:i<own.length
   .rw[U3 (by simpa using A),U4]at a
    cases q:own[i]? with
    |none=>rw[q]at a;ext a
    |some _=>rw[q]at a;ext a
   .omega
  rw[Vr A,U4]at d;rw[Vr (by simpa using A),U4,UR]at a;cases q:J[i - own.length]? with
  |none=>rw[q]at d;ext d
  |some p=>
   rw[q]at d a;let ex:=Vi d;subst ex;let ev:(Y[p.2]?).join=R v:=Vi a;let(g1,g2,g3):=N.mem p (Ve q);let ev2:Y[p.2]?=R (R v):=by
    cases z:Y[p.2]? with
    |none=>rw[z]at ev;ext ev
    |some y=>rw[z]at ev;show et R ev
   let(m0,_,hl):=I.loc;let(u,r,l):=hl p.2 p.1 v g1 ev2 (.inr g3);show#[u,r,?_];let l2:∃c,X.env.cells.lookup p.1=R c/\s.heap.IsCell c (R u):=by
    rcases l with⟨k,_⟩|⟨_,c,e,z⟩
    .let t:X.env.scope.names.lookup p.1=R .local:=k
     rcases g3 with z|z
     .rw[z]at t;ext t
     .rw[z]at t;ext t
    .show#[c,e,z]
   let(c,e,o,K,f):=l2;show .inr #[?_,c,?_,o,w c o K,f]
   .show kO g2
   .show(yD X scope C).lookup p.1=R c;ext yD;rw[HA _ _ _ _ λz=>by cases Bv g g2 z];show yX (WZ g2) e
 .rcases h x c e with z|⟨z,_⟩
  .show F x c e z
  .let(v,o,K,f):=I.cell x c z;show#[v,o,w c o K,f]
 .show bJ H D (.lst []) C=S;rw[aF T];show I.Wn.fresh U
 .show bJ H D (.lst []) c=S
  rcases h x c e with z|⟨z1,z2⟩
  .rw[aF (Wd (YH j z))];show I.Wn.fresh (VT U (aas z))
  .rw[aF (Vk (Vo z2 E))];show I.YE x c z1
 .show I.Wn.laid w E #[by show 0<=Vb;show VF _,[],n,.nil,hd]
 .show(own.map (λ_=>(S:br V))++J.map λp=>(Y[p.2]?).join).length=(own++J.map (·.1)).length;simp
end
def HI(X:Cx)(d:G V8)(t:TT):Prop:=
 ∀(a:G (M×Obj)) (s:UY) (b:St) (H:Hp) (Q:Bool->Hp->Prop),Inv X a b H s->t b H Q->
  wpAny (model X.prog X.w) X.A (forIn d P λc r=>if r=P then do let ok<-isTrue c X.env (eval c X.env);pure (ForInStep.yield ok)else pure (ForInStep.yield r)) (TP X a b Q) X.xe s
def IR:TT:=λ_ H Q=>Q P H
theorem dZ:HI X [] IR:=λ_ _ _ H _ I h=>wpAny_tests_nil #[H,I,h]
theorem ui(h:PT X c o):HI X [c] o:=λa s b H Q I d=>wpAny_tests_one (h a s b H Q I d)
def EZ(J:It)(D:M)(d:St)(g:TG)(j:TT)(h:TE)(n:Hp)(Fin:Hp->Prop):Prop:=
 ∃W:Nat->Nat->St->Hp->Prop,(∃m,W 0 m d (bJ n D (.lst [])))/\∀i m σ H,W i m σ H->
  (J.stop i H/\Fin H)\/(J.go i H/\∃N:St->Hp->Prop,(∀o p,N o p->∃q,q<m/\W (i+1) q o p)/\
   ∀x p,J.yld i H x p->g x σ p λa l=>j a l λb f=>if b=P then h a f λy e=>∃ys,e D=R (.lst ys)/\ys.length<Vb/\N a (bJ e D (.lst (ys++[y])))else N a f)
section
variable{Y:Vn}{w:VJ}{A:Vx}{s:UY}
def Fo{g l d:V8}{f:bg V8}{b:YU}{j:Pos}{it i:UQ}{env:Env}{R:aaY->UY->Prop}{XE:UQ->UY->Prop}(y:∀x s1,XE x s1->notedBy (model Y w) A env (λe s2=>R (.error e) s2) x s1)(I:Nat->UY->Prop)
  (turn:∀n s,I n s->wpAny (model Y w) A (pyNext it) (λr s1=>match r with
   |none=>R (.ok .next) s1
   |some v=>wpAny (model Y w) A (letOwnedTupleGo l it v) (λ_ s2=>wpAny (model Y w) A (assign l env v) (λ_ s3=>
     wpAny (model Y w) A (forIn f P λc r=>if r=P then do let ok<-isTrue c env (eval c env);pure (ForInStep.yield ok)else pure (ForInStep.yield r)) (λok s4=>
      if ok=P then wpAny (model Y w) A (eval g env) (λx s5=>
       wpAny (model Y w) A (call (.builtin "list.append") [i,x]) (λ_ k=>∃m,m<n/\I m k) (λ_ _=>False) s5) XE s4
      else∃m,m<n/\I m s4) (λ_ _=>False) s3) (λ_ _=>False) s2) (λ_ _=>False) s1) (λ_ _=>False) s)
  (n:Nat) (h:I n s):codeAny (model Y w) A (.compLoop (.ListComp g [#[l,d,f,0]] b j) 0 it i env) R s:=by
 show codeAny_loop W I (λn s B=>?_) n h;show wpAny _ A (Sem.onRaise (compTurn (.ListComp g [#[l,d,f,0]] b j) 0 it i env) (λx=>do noteFrame x env;theTreesLotGoes x)) _ _ s;show wpAny_noted ?_;rw[compTurn_list]
 let no:∀{α:Type} {t:Sem α} {Q u:α->UY->Prop} {E:UQ->UY->Prop} {s:UY},wpAny (model Y w) A t Q (λ_ _=>False) s->(∀a J,Q a J->u a J)->wpAny (model Y w) A t u E s:=
  λo p=>wpAny_mono o p λ_ _ z=>False.elim z
 show Ld (XF (Ld (no (turn n s B) λr s1 o=>?_)));cases r with
 |none=>show UT o
 |some v=>
  show Ld (no o λ_ s2 p=>Ld (no p λ_ s3 G=>Ld (no G λok s4 q=>?_)));cases ok with
  |false=>show UT #[W,q]
  |true=>show Ld (Ld (wpAny_mono q (λx s5 F=>Ld (no F λ_ k C=>UT (UT #[W,C]))) y))
end
section
variable{X:Cx}{Z:bg (UX×Obj)}{Y:St}{H:Hp}{s:UY}
def xz
  (h:Q (newEnv scope s.heap.objs.size globals (Xb (s.heap.objs.size+1) scope.names closure) qual S .none (R env) builtinsNs) {s with heap:=pushCells (s.heap.push {cls:=.type "dict",data:=.dict #v[]}) scope.names}):
  wpAny e A (newFunctionEnv scope globals closure [] qual S .none (R env)) Q E s:=by
 simp only[newFunctionEnv,aeb,if_true];show Ld (wpAny_alloc ?_);show Ld (wpAny_layCells _ (λd a b=>by cases f:a==VO.cell<;>simp[f]) _ _ _ _ ?_);rw[show({s with heap:=s.heap.push {cls:=.type "dict",data:=.dict #v[]}}:UY).heap.objs.size=s.heap.objs.size+1 from dt ..];rw[aaT];show Ld (UT (UT h))
def uJ{P tg q:V8}{F:bg V8}{scope:YU}{pos:Pos}{own:bg Str}{h:bg (Str×Nat)}{g:TG}{tc:TT}{te:TE}{E:UQ->UY->Prop}{it:UX}{k:bg UX}{tn:Nat->Heap->Prop}{J:It}{Fin:UX->Hp->Prop}
  {RR:UQ->UX->aaY->UY->Prop} (I:Inv X Z Y H s) (hc:X.calm=US) (ZA:scope.kind=.function) (hnd:(scope.names.map (·.1)).Nodup) (hfr:∀y∈scope.names,y.2=.free->∃c,X.env.cells.lookup y.1=lD c) (hfv:ad1 X scope h)
  (T:Turn X.prog X.w X.K tg J k it tn) (st:tn 0 s.heap) (L:∀b∈k,oZ X Z H b)
  (hg:∀C,PG (eO X s H scope C (gJ own h) k) tg g) (ht:∀C,HI (eO X s H scope C (gJ own h) k) F tc) {W:UX->UQ->UY->Prop} (he:∀C,PE ((eO X s H scope C (gJ own h) k).abc (W C)) P te) (hEE:∀D C x s1,s.heap.objs.size<=C->W C x s1->notedBy (model X.prog X.w) X.A (compEnvC scope (yD X scope C) C X.env) (λe s2=>RR (.ref D) C (.error e) s2) x s1)
  (hR:∀D,H D=UO->EZ J D (iq own h Y) g tc te H (Fin D))
  (hRR:∀D C V s',Inv X Z Y V s'->Fin D V->(∃m,s'.heap.Ns C m)->s.heap.objs.size<=C->V C=UO->RR (.ref D) C (.ok .next) s'):
  wpAny (model X.prog X.w) X.A (newList []) (λacc s3=>wpAny (model X.prog X.w) X.A (newFunctionEnv scope X.env.globals (jp X.env scope.names []) [] X.env.qual UO .none (lD X.env)) (λaiY s4=>
   codeAny (model X.prog X.w) X.A (.compStart (.ListComp P [#[tg,q,F,0]] scope pos) 0 (.ref it) acc {aiY with scope:=relabel scope X.env}) (RR acc aiY.locals) s4) E s3) E s:=by
 show V3 ?_;generalize hH2:s.heap.push {cls:=.type "list",dict:=UO,data:=.seq ([]:bg UQ).toArray}=h2;let hz:h2.objs.size=s.heap.objs.size+1:=by rw[<-hH2,dt]
 show xz (s:={s with heap:=h2}) ?_;let M:s.heap.objs.size<h2.objs.size:=by rw[hz];show WN _
 let hC:s.heap.objs.size<=h2.objs.size:=aas M;generalize hH1:pushCells (h2.push {cls:=.type "dict",data:=.dict #v[]}) scope.names=h1;let kp2:∀b o,h2.get? b=lD o->h1.get? b=lD o:=λb o e=>by rw[<-hH1];show adj _ _ b o (bP _ e)
 let kp:∀b o,s.heap.get? b=lD o->h1.get? b=lD o:=λb o e=>kp2 b o (by rw[<-hH2];show bP _ e);let hns:h1.Ns h2.objs.size (λ_=>UO):=by rw[<-hH1];show(Heap.Ns.new h2 (.type "dict")).keeps (adj _ _)
 let hoc:∀x c,(yD X scope h2.objs.size).lookup x=lD c->h2.objs.size<c->∃v,h1.IsCell c v:=λx c e Y6=>by
  let e':(Xb (h2.push {cls:=.type "dict",data:=.dict #v[]}).objs.size scope.names (jp X.env scope.names [])).lookup x=lD c:=by rw[dt];show e
  rcases ud _ _ _ x c e' with⟨_,z⟩|z
  .show#[UO,by rw[<-hH1];show z]
  .show a6 (YH (wD I z).2 (YH M Y6)) (Wi _)
 let hd:∃n,h1.get? s.heap.objs.size=lD {cls:=.type "list",data:=.seq #v[] n}:=#[0,kp2 _ _ (by rw[<-hH2];show cv _ rfl)];let G:∀b∈k,b<s.heap.objs.size:=λb f=>by let(o,e,_):=T.obj 0 _ st b f;show cn e
 let hn:H s.heap.objs.size=UO:=I.Wn.fresh (U1 _);let(W,(m0,w0),turn):=hR s.heap.objs.size hn;let O:∀{pl:bg (UX×Obj)} {V:Hp},(∀b∈k,V b=UO)->(∀p∈pl,p.1∉k)->∀b∈k,oZ (eO X s H scope h2.objs.size (gJ own h) k) pl V b:=λ{pl V} hn' hpl b f=>by let ok:=Dl (C:=h2.objs.size) (N:=gJ own h) I ZA hnd hfr hC L G;show#[hn' b f,(ok.exf b f).1,ok.ady b f,.inl f,(ok.exf b f).2,λp hp=>by let hp':p∈([]:bg (UX×Obj))++pl:=hp;intro z;show hpl p (by simpa using hp') (by rw[z];show f)]
 let l:∀s4:UY,s4={s with heap:=h1}->
   codeAny (model X.prog X.w) X.A (.compLoop (.ListComp P [#[tg,q,F,0]] scope pos) 0 (.ref it) (.ref s.heap.objs.size) (compEnvC scope (yD X scope h2.objs.size) h2.objs.size X.env)) (RR (.ref s.heap.objs.size) h2.objs.size) s4:=by
  rintro s4 rfl
  let I0:Inv (eO X s H scope h2.objs.size (gJ own h) k) [] (iq own h Y) (bJ H s.heap.objs.size (.lst [])) {s with heap:=h1}:=
   Gr I ZA hnd hfr hfv (U1 _) M hC L G hns hoc kp hd
  let st0:tn 0 h1:=T.keep 0 _ _ st λb _ o e=>kp b o e;let fr0:∀b∈k,(bJ H s.heap.objs.size (.lst [])) b=UO:=λb f=>by rw[aF (Vk (G b f))];show(L b f).1
  show Fo (λx s1 z=>hEE _ _ x s1 hC z) (λn s'=>∃i σ' V,Inv (eO X s H scope h2.objs.size (gJ own h) k) [] σ' V s'/\tn i s'.heap/\(∀b∈k,V b=UO)/\W i n σ' V) ?_ m0 #[0,_,_,I0,st0,fr0,w0];rintro n s5 ⟨i,j,H5,I5,st5,fr5,w5⟩;rcases turn i n j H5 w5 with⟨stop,fin⟩|⟨go,N,hN,step⟩
  .show cT (T.done (eO X s H scope h2.objs.size (gJ own h) k) rfl rfl rfl hc i [] s5 j H5 (λ_ _=>False) I5 (O fr5 (by simp)) st5 stop) λr s6 #[hr,K]=>?_;subst hr;let(mm,hm,_):=K.loc;show hRR _ _ H5 s6 ?_ fin #[mm,hm] hC K.free;show I.aff (ch:=k) K.os K.base K.Wn K.bare λb f=>#[(L b f).2.2.2.1,(L b f).2.1,(L b f).2.2.2.2.1,(L b f).2.2.2.2.2]
  .show cT (T.item (eO X s H scope h2.objs.size (gJ own h) k) rfl rfl rfl hc i [] s5 j H5 (λ_ _=>False) I5 (O fr5 (by simp)) st5 go) λr s6 #[u,hr,h6]=>?_
   subst hr;show cT h6 λ_ s7 a=>?_;let(x,H7,I7,r7,y7,w,fr7):=a;let I7':=I7.pinned (fp:=k) (O fr7 (by simp)) (T.obj _ _ w);let t:∀{a:St} {Q:Hp} {A:UY},Inv (eO X s H scope h2.objs.size (gJ own h) k) ([]++vB k s7.heap) a Q A->N a Q->∃m,m<n/\∃i σ' V,Inv (eO X s H scope h2.objs.size (gJ own h) k) [] σ' V A/\tn i A.heap/\(∀b∈k,V b=UO)/\W i m σ' V:=λ{a Q A} I8 n8=>by let(m',hm,w8):=hN a Q n8;show#[m',hm,i+1,a,Q,I8.abn,T.keep _ _ _ w λb f o e=>(I8.pin (b,o) (VQ _ (VQ _ (kR f e)))).1,λb f=>?_,w8];let(o,e,d):=T.obj _ _ w b f;show(I8.pin (b,o) (VQ _ (VQ _ (kR f e)))).2.1
   show cT (hg _ _ s7 j H7 x u _ I7' r7 (step x H7 y7)) λ_ A a=>?_;let(a,Q,I8,q8):=a;show cT (ht _ _ A a Q _ I8 q8) λok s9 a=>?_;let(H9,I9,q9):=a;cases ok with
   |false=>rw[ax Vg]at q9⊢;show t I9 q9
   |true=>rw[av rfl]at q9⊢;show cT (he _ _ s9 a H9 _ (I9.abc _) q9) λy s10 a=>?_;let(U,H10,al1,r10,ys,hy,hl,q10):=a;let I10:=al1.Zo;show cT (iR _ s10 a H10 (.ref s.heap.objs.size) [U] (.ref s.heap.objs.size) [y] (λ_ H11=>N a H11) I10 rfl (.cons r10 .nil) #[_,ys,U,rfl,rfl,hy,hl,q10]) λ_ s11 a=>?_;let(v11,H11,I11,_,q11):=a;show t I11 q11
 show codeAny_compStart_list (l _ rfl) (T.self _ 0 _ _ _ (T.keep 0 _ _ st λb _ o e=>kp b o e) (l _ rfl))
def wB(own:G Str)(f:G (Str×Nat))(b:TI)(g:TG)(e:TT)(d:TE):TE:=λY H Q=>b Y H λJ a=>∀D,a D=S->EZ J D (iq own f Y) g e d a λh=>Q (.ref D) h
theorem sL{a:YU}(ok:X.Ok)(h:∀y∈a.names,y.2=.free->(X.env.scope.names.lookup y.1=R .cell\/X.env.scope.names.lookup y.1=R .free)):∀y∈a.names,y.2=.free->∃c,X.env.cells.lookup y.1=R c:=
 λy b e=>ok.has y.1 (h y b e)
theorem NO{a b:YU}(h:(a.names.all λy=> !(y.2==VO.free)||(b.names.lookup y.1==R VO.cell)||(b.names.lookup y.1==R VO.free))=P):
  ∀y∈a.names,y.2=.free->(b.names.lookup y.1=R .cell\/b.names.lookup y.1=R .free):=λy d e=>by
 let q:=Wr.mp h y d;rw[e]at q
 simpa using q
def fC{elt f iter:V8}{ifs:G V8}{scope:YU}{pos:Pos}(own:G Str)(c:G (Str×Nat)){t:TI}{g:TG}{v:TT}{u:TE}(V:X.calm=P)(O:PI X f iter t)
  (U:∀s H C a,PG (eO X s H scope C (gJ own c) a) f g) (F:∀s H C a,HI (eO X s H scope C (gJ own c) a) ifs v) (he:∀s H C a,PE (eO X s H scope C (gJ own c) a) elt u) (l:ad1 X scope c)
  (n:(scope.names.all λy=> !(y.2==VO.free)||(X.env.scope.names.lookup y.1==lD VO.cell)||(X.env.scope.names.lookup y.1==lD VO.free))=P)
  (w:scope.kind=.function:=by rfl) (k:(scope.names.map (·.1)).Nodup:=by left)
  (p:∀y∈scope.names,y.2=.local->scope.names.lookup y.1=lD .local:=by left) (L:∀x,foldedSetIterable iter X.env x=pure x:=by intro _;rfl):
  PE X (.ListComp elt [#[f,iter,ifs,0]] scope pos) (wB own c t g v u):=by
 intro Z s Y H Q I h;let d:=NO n;rw[eval_ListComp];show aeq (use:=S) rfl L (vH (sL I.ok d)) w p (cT (O Z s Y H _ I h) λxv s1 h1=>cT h1 λK s2 h2=>?_);let(it,a,tn,J,H2,e,A,T,i,f2,R):=h2;subst e;show uJ A V w k (sL I.ok d) l T i f2 (λC=>U _ _ C _) (λC=>F _ _ C _) (W:=λ_ _ _=>False) (λC=>he _ _ C _) (λ_ _ _ _ _ z=>z.elim) (Fin:=λD r=>Q (.ref D) r) R ?_;intro D C r E I' fin hm hC N;let(m,hm):=hm;show#[m,hm,λh' j=>#[.ref D,r,?_,rfl,fin]];let(f0,f1,_,f3,f4,f5):=A.adu hC N;show I'.turned (t':=E.toks) (λb o hb q=>(j.2 b hb).trans q) f0 f1 f3 f4 f5
def w9{elt d iter:V8}{ifs:G V8}{scope:YU}{pos k py:Pos}{i:Nat}{x:Str}(own:G Str)(j:G (Str×Nat)){U:TI}{g:TG}{tc:TT}{V:TE}(hN:X.N.Nodup)(w:X.N[i]?=lD x)(hx:X.env.scope.names.lookup x=lD .local)
  (hc:X.calm=P) (hi:PI X d iter U)
  (hg:∀s H C c,PG (eO X s H scope C (gJ own j) c) d g) (ht:∀s H C c,HI (eO X s H scope C (gJ own j) c) ifs tc) (he:∀s H C c,PE (eO X s H scope C (gJ own j) c) elt V) (A:ad1 X scope j)
  (F:(scope.names.all λy=> !(y.2==VO.free)||(X.env.scope.names.lookup y.1==lD VO.cell)||(X.env.scope.names.lookup y.1==lD VO.free))=P)
  (r:WI (.ListComp elt [#[d,iter,ifs,0]] scope pos) (lD (.Name x py)) k.line X.env=pure P:=by rfl)
  (ZA:scope.kind=.function:=by rfl) (u:(scope.names.map (·.1)).Nodup:=by left)
  (K:∀y∈scope.names,y.2=.local->scope.names.lookup y.1=lD .local:=by left) (hs:∀x,foldedSetIterable iter X.env x=pure x:=by intro _;rfl):
  PS X (.Assign [.Name x py] (.ListComp elt [#[d,iter,ifs,0]] scope pos) k) (Ff (wB own j U g tc V) (wY i)):=by
 intro Z s Y H D I h;let f:=NO F;rw[exec_Assign_Name_used _ _ _ _ r];show Ld (XF (Ld ?_));show wpAny _ _ (do let _<-comprehension (.ListComp elt [#[d,iter,ifs,0]] scope pos) scope X.env _ (newList []) U0 (eval iter X.env) (lD (assign (.Name x py) X.env))) _ _ s;show Ld (cT (aeq (use:=lD (assign (.Name x py) X.env)) (Q:=λ_ l=>SP X Z D .next l) rfl hs (vH (sL I.ok f)) ZA K
  (cT (hi Z s Y H _ I h) λxv s1 h1=>cT h1 λitv s2 h2=>?_)) λ_ l q=>UT (UT q))
 let(it,c,tn,J,H2,e,I2,T,n,f2,R):=h2;subst e;show uJ I2 hc ZA u (sL I.ok f) A T n f2 (λC=>hg _ _ C _) (λC=>ht _ _ C _) (W:=λ_ _ _=>False) (λC=>he _ _ C _) (λ_ _ _ _ _ z=>z.elim) (Fin:=λL O=>D.nx (Y.set i (lD (.ref L))) O) R ?_;intro L C O l I' fin hm hC hn;let(m,hm):=hm;let(f0,f1,f2',f3,f4,f5):=I2.adu hC hn;show wpAny _ _ (assign (.Name x py) X.env (.ref L)) _ _ l;show aho (wg I' hN w (.inl hx) (v:=.ref L) rfl (λp N #[a,sb,ha]=>?_) (.inr hx));let E:C≠a:=by
  rcases ha with z|z
  .rw[z];show f1
  .show λq=>f4 x a z q.symm
 show#[m,hm.sameBut sb E,λh' t=>#[_,O,?_,fin]];show N.turned (t':=p.toks) (λb o hb q=>(t.2 b hb).trans q) f0 f1 f3 f4 f5
end
def zm(P:Vn)(w:VJ)(K:UN)(c:Str->I B)(base:Heap)(k:Nat)(x:Str)(b:G Str)(sp:Sp):Prop:=
 ∃(f:M) (a:We),FnOk P w K c base dR k f a b sp/\Binds K a b []/\WM K (.ref f)=US/\c x=R (.ref f)
def cG(C:zm X.prog X.w X.K X.mg X.base k x U sp)(i:Xu j X.A)(c:PA X (e::J) t)(d:k<=j:=by decide)(l:Gl X x:=by rfl)
  (g:(x==("__debug__":Str))=U0:=by decide) (n:Vt (e::J) X.env=(U0,eval e X.env)::Vt J X.env:=by rfl) (a:(backTo pos (Vt J X.env)).any (·.1)=U0:=by rfl):
  PE X (.Call (.Name x p) (e::J) [] pos) (nG sp [] E0 t):=by
 let(f,o,F,b,h,m):=C;show EX F (i.mono d) l m h b .nil Ez c g n a
section
variable{Z:St}{H:Hp}{Q:VK}{D:Ends}
theorem QQ(h:t {D with nx:=u D} Z H):Mo t u D Z H:=h
theorem OU(h:o Z H λx H1=>g x Z H1 D.nx):Ff o g D Z H:=h
theorem LG{Q:St->Hp->Prop}(h:Q (Z.set i (R v)) H):wY i v Z H Q:=h
theorem Iu(h:Q v H):tC v Z H Q:=h
theorem LC(h:o Z H λ_ H1=>D.nx Z H1):D1 o D Z H:=h
end
def Qf{α:Type}{xs:G α}{i:Int}{v:α}(h0:0<=i)(h:xs[i.toNat]?=R v):lA xs i=R v:=by let q:=CS h;rwa [abj h0]at q
def WY.tup{K:UN}(e:WY H H')(h:Zw K H a xs):Zw K H' a xs:=by
 rcases h with(h|⟨o,h⟩)|h
 .show .inl (.inl (e _ _ h))
 .show .inl (.inr #[o,e _ _ h])
 .show .inr h
theorem bO(h:H p=S)(o:HO):WY H (bJ H p o):=λb u q=>by rw[aF (cC q h)];show q
def NU:Wb "max"=R (.builtin "max"):=by left
def gp:Wb "isinstance"=R (.builtin "isinstance"):=by left
def gH:Wb "len"=R (.builtin "len"):=by left
def zk:Wb "sorted"=R (.builtin "sorted"):=by left
def AE:Wb "all"=R (.builtin "all"):=by left
def Ou:Wb "any"=R (.builtin "any"):=by left
def uZ:Wb "list"=R (.type "list"):=by left
def mI:Wb "tuple"=R (.type "tuple"):=by left
section
variable{X:Cx}
def AR:Yd X (.builtin "sorted") (λxs H Q=>∃(p:M) (f:bg Int),xs=[.ref p]/\Y4 X.K H p (f.map V.int)/\f.length<64/\∀(l:M) (a:bg Int),H l=S->a.Perm f->a.Pairwise (·<=·)->Q (.ref l) (bJ H l (.lst (a.map V.int)))):=by
 intro i s C H xs E Q I r h;let(p,f,rfl,t,y,q):=h;let(u,rfl,m):=kj r;ext m;let(B,J,pl,G):=I.list t;let v:=J.length;rw[UR]at v;show sorted_ints pl.isList (oj J) () λd a K j n=>?_;let(e,w):=sortedAll_at s.heap B d;let g:a.length=f.length:=j.length_eq;let A:d.toList.length=a.length:=K.length;show#[.ref (s.heap.objs.size+1),_,I.laid (t':=s.toks) (o:=.lst (a.map V.int)) (λb F z=>sortedAll_old z) (aa1 _) ?_,W,q _ a (I.Wn.fresh (aa1 _)) j n];show#[?_,d.toList,e,jY K,w];rw[UR,g];let:(64:Nat)<=Vb:=by decide
 ext
end
end L2
namespace L3
open PySem L2
abbrev D:=UU
inductive PV where
 |fz (d:D)
 |ow (ds:G D)
 |pl (i:Nat)
abbrev bA:=G (I PV)
structure Xc where
 cls:Str
 fs:G (Str×D)
inductive Res(α:Type) where
 |ok (a:α)
 |er (x:Xc)
 |bad
namespace Res
def bind(r:Res α)(f:α->Res β):Res β:=match r with
 |.ok a=>f a
 |.er x=>.er x
 |.bad=>.bad
def V4:I α->Res α
 |some a=>.ok a
 |none=>.bad
theorem bind_ok(a:α)(f:α->Res β):(Res.ok a).bind f=f a:=W
end Res
abbrev ey:=@Res.bind_ok
abbrev cg:=M->Prop
def bV(O:cg)(p:M):cg:=λb=>O b\/b=p
def JN(O:cg)(p:M):cg:=λb=>O b/\b≠p
def noO:cg:=λ_=>False
def Ev(O:cg)(H:Hp)(a:cg)(c:Hp):Prop:=∀b o,H b=R o->¬O b->c b=R o/\¬a b
theorem Ev.refl:Ev O H O H:=λ_ _ h n=>#[h,n]
theorem Ev.trans(a:Ev O H O1 H1)(b:Ev O1 H1 O2 H2):Ev O H O2 H2:=λp o h n=>let#[h1,d]:=a p o h n;b p o h1 d
theorem Ev.grow(s:WY H H'):Ev O H O H':=λb o h n=>#[s b o h,n]
theorem Ev.add(s:WY H H')(a:H p=S):Ev O H (bV O p) H':=λb o h n=>#[s b o h,λz=>z.elim n λe=>by subst e;rw[h]at a;ext a]
theorem Ev.sub(h:∀b,O' b->O b):Ev O H O' H:=λb o e n=>#[e,λz=>n (h b z)]
theorem Ev.mut(a:O p)(u:HO):Ev O H O (bJ H p u):=λb o h n=>#[by rw[aF (λe=>n (by rw[e];show a))];show h,n]
def Zp(K:UN)(H:Hp)(a:M)(xs:G V):Prop:=Rd H a (.lst xs)\/∃(b:G B) (n:Nat),K.lookup a=R {cls:=.type "list",data:=.seq b.toArray n}/\xs.length<=Vb/\Vals xs b
def Zp.sq(h:Zp K H a xs):Y4 K H a xs:=by
 rcases h with h|⟨e,n,h1,d,b⟩
 .show .inl h
 .show .inr #[_,e.toArray,n,h1,W,W,W,by rw[Va,<-b.length];show d,by simpa using b]
theorem Zp.of(h:H a=R (.lst xs)):Zp K H a xs:=.inl (.inl h)
def Zp.same(e:WY H H')(h:Zp K H a xs):Zp K H' a xs:=by
 rcases h with(h|⟨o,h⟩)|h
 .show .inl (.inl (e _ _ h))
 .show .inl (.inr #[o,e _ _ h])
 .show .inr h
theorem mK(H:Hp):WY (λ_=>S) H:=λ_ _ h=>by ext h
def abX(O:cg)(K:UN)(H:Hp)(a:M)(xs:G V):Prop:=Zp K H a xs/\(O a->Zp K (λ_=>S) a xs)
def aay(O:cg)(K:UN)(H:Hp)(a:M)(xs:G V):Prop:=Zw K H a xs/\(O a->Zw K (λ_=>S) a xs)
section
variable{O Z:cg}{K:UN}{H Y:Hp}{a:UX}{X:bg V}
def abX.ev(h:abX O K H a X)(e:Ev O H Z Y):abX Z K Y a X:=by
 let(h,k):=h;by_cases z:O a
 .show#[Zp.same (mK Y) (k z),λ_=>k z]
 .rcases h with(h|⟨o,h⟩)|h
  .let(d,b):=e a _ h z;show#[.inl (.inl d),λy=>a6 y b]
  .let(d,b):=e a _ h z;show#[.inl (.inr #[o,d]),λy=>a6 y b]
  .show#[.inr h,λ_=>.inr h]
def aay.ev(h:aay O K H a X)(e:Ev O H Z Y):aay Z K Y a X:=by
 let(h,k):=h;by_cases z:O a
 .show#[(mK Y).tup (k z),λ_=>k z]
 .rcases h with(h|⟨o,h⟩)|h
  .let(d,b):=e a _ h z;show#[.inl (.inl d),λy=>a6 y b]
  .let(d,b):=e a _ h z;show#[.inl (.inr #[o,d]),λy=>a6 y b]
  .show#[.inr h,λ_=>.inr h]
end
mutual
inductive DV(O:cg)(K:UN)(H:Hp):V->D->Prop
 |XN:DV O K H .XN .none
 |bl (b:Bool):DV O K H (.bl b) (.bool b)
 |int (i:Int):DV O K H (.int i) (.int i)
 |str (x:Str):DV O K H (.str x) (.str x)
 |tup {a:UX} {xs:bg V} {ds:bg D}:aay O K H a xs->WO O K H xs ds->DV O K H (.ref a) (.tuple ds)
 |lst {a:UX} {xs:bg V} {ds:bg D}:abX O K H a xs->WO O K H xs ds->DV O K H (.ref a) (.list ds)
inductive WO(O:cg)(K:UN)(H:Hp):bg V->bg D->Prop
 |nil:WO O K H [] []
 |cons {v:V} {vs:bg V} {d:D} {ds:bg D}:DV O K H v d->WO O K H vs ds->WO O K H (v::vs) (d::ds)
end
section
variable{O Z:cg}{K:UN}{H H':Hp}
mutual
theorem DV.ev(e:Ev O H Z H'):∀{v:V} {d:D},DV O K H v d->DV Z K H' v d
 |_,_,.XN=>.XN
 |_,_,.bl b=>.bl b
 |_,_,.int i=>.int i
 |_,_,.str x=>.str x
 |_,_,.tup h hs=>.tup (h.ev e) (WO.ev e hs)
 |_,_,.lst h hs=>.lst (h.ev e) (WO.ev e hs)
theorem WO.ev(e:Ev O H Z H'):∀{vs:bg V} {ds:bg D},WO O K H vs ds->WO Z K H' vs ds
 |_,_,.nil=>.nil
 |_,_,.cons h hs=>.cons (DV.ev e h) (WO.ev e hs)
end
theorem WO.length:∀{a:G V} {ds:G D},WO O K H a ds->a.length=ds.length
 |_,_,.nil=>rfl
 |_,_,.cons _ t=>by rw[Vd,Vd,t.length]
theorem WO.get:∀{c:G V} {ds:G D} {i:Nat} {d:D},WO O K H c ds->ds[i]?=R d->∃v,c[i]?=R v/\DV O K H v d
 |_,_,_,_,.nil,e=>by simp at e
 |_,_,0,_,.cons h _,e=>by simp at e;subst e;show#[_,W,h]
 |_,_,i+1,d,.cons _ t,e=>by let(v,b,a):=WO.get t (by simpa using e);show#[v,by simpa using b,a]
theorem WO.ahh:∀{c:G V} {ds:G D} {i:Nat} {v:V},WO O K H c ds->c[i]?=R v->∃d,ds[i]?=R d/\DV O K H v d
 |_,_,_,_,.nil,e=>by simp at e
 |_,_,0,_,.cons h _,e=>by simp at e;subst e;show#[_,W,h]
 |_,_,i+1,v,.cons _ t,e=>by let(d,b,a):=WO.ahh t (by simpa using e);show#[d,by simpa using b,a]
theorem WO.append:∀{a ws:G V} {ds b:G D},WO O K H a ds->WO O K H ws b->WO O K H (a++ws) (ds++b)
 |_,_,_,_,.nil,h=>h
 |_,_,_,_,.cons h t,g=>.cons h (WO.append t g)
theorem WO.take:∀{a:G V} {ds:G D} (n:Nat),WO O K H a ds->WO O K H (a.take n) (ds.take n)
 |_,_,0,_=>.nil
 |_,_,_+1,.nil=>.nil
 |_,_,n+1,.cons h t=>.cons h (WO.take n t)
theorem WO.drop:∀{a:G V} {ds:G D} (n:Nat),WO O K H a ds->WO O K H (a.drop n) (ds.drop n)
 |_,_,0,h=>h
 |_,_,_+1,.nil=>.nil
 |_,_,n+1,.cons _ t=>WO.drop n t
theorem WO.flat(h:WO O K H vs ds):∀n:Nat,WO O K H (U8 n vs).flatten (U8 n ds).flatten
 |0=>.nil
 |n+1=>by rw[Wc,Wc,Xp,Xp];show h.append (WO.flat h n)
mutual
theorem DV.plain:∀{v:V} {d:D},DV O K H v d->L2.DV K H v d
 |_,_,.XN=>.XN
 |_,_,.bl b=>.bl b
 |_,_,.int i=>.int i
 |_,_,.str x=>.str x
 |_,_,.tup h hs=>.tup h.1 (WO.plain hs)
 |_,_,.lst h hs=>.lst h.1.sq (WO.plain hs)
theorem WO.plain:∀{vs:bg V} {ds:bg D},WO O K H vs ds->L2.WO K H vs ds
 |_,_,.nil=>.nil
 |_,_,.cons h hs=>.cons (DV.plain h) (WO.plain hs)
end
end
def DX(O:cg)(K:UN)(H:Hp)(v:V):D->Prop
 |.list ds=>∃a xs,v=.ref a/\Zp K H a xs/\WO O K H xs ds
 |d=>DV O K H v d
def DV.x(h:DV O K H v d):DX O K H v d:=by
 cases h with
 |lst h a=>show#[_,_,W,h.1,a]
 |XN=>show .XN
 |bl b=>show .bl b
 |int i=>show .int i
 |str x=>show .str x
 |tup h a=>show .tup h a
def DX.plain(h:DX O K H v d):L2.DV K H v d:=by
 cases d with
 |list ds=>let(a,xs,rfl,f,e):=h;show .lst f.sq e.plain
 |none=>show DV.plain h
 |bool b=>show DV.plain h
 |int i=>show DV.plain h
 |str x=>show DV.plain h
 |tuple ds=>show DV.plain h
 |dict g=>show DV.plain h
def acV(K:UN)(b:Hp)(O:cg)(H:Hp)(v:V):PV->Prop
 |.fz d=>DV O K H v d
 |.ow ds=>∃a e,v=.ref a/\O a/\b a=S/\H a=R (.lst e)/\WO O K H e ds
 |.pl _=>False
structure Rl(K:UN)(B:cg)(H0:Hp)(O:cg)(σ:St)(H:Hp)(ρ:bA):Prop where
 same:WY H0 H
 bo:∀a,B a->O a
 bd:∀a,B a->H0 a≠S
 od:∀a,H a=S->¬O a
 len:σ.length=ρ.length
 slot:∀(i:Nat) (x:PV),ρ[i]?=R (R x)->∃v,σ[i]?=R (R v)/\acV K H0 O H v x
 one:∀(i j:Nat) (ds es:G D) (v:V),ρ[i]?=R (R (.ow ds))->ρ[j]?=R (R (.ow es))->σ[i]?=R (R v)->σ[j]?=R (R v)->i=j
def aaE(K:UN)(f:Hp)(O:cg)(b:St)(H:Hp)(c:bA)(v:V):PV->Prop
 |.fz d=>DV O K H v d
 |.ow ds=>∃a g,v=.ref a/\O a/\f a=S/\H a=R (.lst g)/\WO O K H g ds/\∀(i:Nat) (e:G D),c[i]?=R (R (.ow e))->b[i]?≠R (R (.ref a))
 |.pl i=>b[i]?=R (R v)
def mG:PV->Prop
 |.ow _=>False
 |_=>True
def eF:PV->PV
 |.ow ds=>.fz (.list ds)
 |p=>p
section
variable{K:UN}{B O X:cg}{Z H H':Hp}{Y:St}{ρ ρ':bA}{v:V}
def acV.grow(s:WY H H')(h:acV K Z O H v x):acV K Z O H' v x:=by
 cases x with
 |fz d=>show DV.ev (Ev.grow s) h
 |ow ds=>let(a,l,e,j,g,f,b):=h;show#[a,l,e,j,g,s _ _ f,b.ev (Ev.grow s)]
 |pl i=>show h
theorem Rl.grow(R:Rl K B Z O Y H ρ)(s:WY H H'):Rl K B Z O Y H' ρ:=
 #[R.same.trans s,R.bo,R.bd,λa h=>R.od a (s.free h),R.len,λi x h=>let#[v,h1,b]:=R.slot i x h;#[v,h1,b.grow s],R.one]
theorem Rl.agw(R:Rl K B Z O Y H ρ)(h:H p=S):Z p=S:=R.same.free h
def Rl.add(R:Rl K B Z O Y H ρ)(s:WY H H')(f:H p=S)(g:H' p≠S):Rl K B Z (bV O p) Y H' ρ:=by
 show#[R.same.trans s,λa h=>.inl (R.bo a h),R.bd,λa h z=>z.elim (R.od a (s.free h)) λe=>g (by rw[<-e];show h),R.len,λi x h=>?_,R.one];let(v,j,b):=R.slot i x h;show#[v,j,?_];cases x with
 |fz d=>show DV.ev (Ev.add s f) b
 |ow ds=>let(a,q,e,o,n,m,l):=b;show#[a,q,e,.inl o,n,s _ _ m,l.ev (Ev.add s f)]
 |pl i=>show b
theorem Rl.agf(R:Rl K B Z O Y H ρ)(h:Z a=S):¬B a:=λz=>R.bd a z h
def Rl.sub(R:Rl K B Z O Y H ρ){a:M}(h0:Z a=S)(h:∀(i:Nat) (c:G D),ρ[i]?=lD (lD (.ow c))->Y[i]?≠lD (lD (.ref a))):Rl K B Z (JN O a) Y H ρ:=by
 show#[R.same,λb f=>#[R.bo b f,λe=>R.agf h0 (e▸f)],R.bd,λb f z=>R.od b f z.1,R.len,λi x j=>?_,R.one];let(v,l,g):=R.slot i x j;show#[v,l,?_];cases x with
 |fz d=>show DV.ev (Ev.sub λb z=>z.1) g
 |ow ds=>let(b,q,e,p,o,n,m):=g;subst e;show#[b,q,W,#[p,λe=>h i ds j (by rw[l,e])],o,n,m.ev (Ev.sub λb z=>z.1)]
 |pl i=>show g
theorem yB(h:H a=R (.lst o))(n:¬O a)(hd:WO O K H o ds):DV O K H (.ref a) (.list ds):=.lst #[Zp.of h,λz=>a6 z n] hd
def jS{pv:PV}(R:Rl K B Z O Y H ρ)(h:aaE K Z O Y H ρ v pv):∃X,Ev O H X H/\Rl K B Z X Y H ρ/\aaE K Z X Y H ρ v (eF pv):=by
 cases pv with
 |fz d=>show#[O,.refl,R,h]
 |pl i=>show#[O,.refl,R,h]
 |ow ds=>let(a,m,rfl,l,j,g,f,e):=h;show#[JN O a,Ev.sub λb z=>z.1,R.sub j e,yB g (λz=>z.2 W) (f.ev (Ev.sub λb z=>z.1))]
def sR(pv:PV):mG (eF pv):=by ext pv<;>trivial
def aaE.keep{pv:PV}(a:mG pv)(e:Ev O H X H')(h:aaE K Z O Y H ρ v pv):aaE K Z X Y H' ρ' v pv:=by
 cases pv with
 |fz d=>show DV.ev e h
 |pl i=>show h
 |ow ds=>show a.elim
def Um:I (I PV)->I D
 |some (R (.fz d))=>R d
 |some (R (.ow ds))=>R (.list ds)
 |_=>S
def A8(ρ:bA):PV->I D
 |.fz d=>R d
 |.ow ds=>R (.list ds)
 |.pl i=>Um ρ[i]?
def oB{pv:PV}(R:Rl K B Z O Y H ρ)(h:aaE K Z O Y H ρ v pv)(e:A8 ρ pv=lD d):DX O K H v d:=by
 cases pv with
 |fz t=>ext e;show DV.x h
 |ow ds=>ext e;let(a,E,rfl,C,A,p,n,z):=h;show#[a,E,W,Zp.of p,n]
 |pl i=>
  let b:Um ρ[i]?=lD d:=e;let r:=h;cases q:ρ[i]? with
  |none=>rw[q]at b;ext b
  |some o=>
   cases o with
   |none=>rw[q]at b;ext b
   |some x=>
    let(u,g,f):=R.slot i x q;rw[r]at g;ext g;rw[q]at b;cases x with
    |fz t=>ext b;show DV.x f
    |ow ds=>ext b;let(a,E,rfl,y,w,m,l):=f;show#[a,E,W,Zp.of m,l]
    |pl j=>show f.elim
def toS(ρ:bA)(i:Nat):I (I PV)->I (D×bA)
 |some (R (.fz d))=>R (d,ρ)
 |some (R (.ow ds))=>R (.list ds,ρ.set i (R (.fz (.list ds))))
 |_=>S
def zn(ρ:bA):PV->I (D×bA)
 |.fz d=>R (d,ρ)
 |.ow ds=>R (.list ds,ρ)
 |.pl i=>toS ρ i ρ[i]?
def cP{l:G α}(h:(l.set i x)[j]?=R y):(j=i/\y=x)\/(j≠i/\l[j]?=R y):=by
 rw[Wk]at h;by_cases e:i=j
 .rw[av e]at h
  split at h
  .ext h;show .inl #[e.symm,W]
  .ext h
 .rw[ax e]at h;show .inr #[λz=>e z.symm,h]
def wS{pv:PV}(R:Rl K B Z O Y H ρ)(h:aaE K Z O Y H ρ v pv)(e:zn ρ pv=lD (d,ρ')):∃X,Ev O H X H/\Rl K B Z X Y H ρ'/\DV X K H v d:=by
 cases pv with
 |fz d'=>ext e;show#[O,.refl,R,h]
 |ow ds=>ext e;let(a,vs,rfl,h1,h2,h3,h4,U):=h;show#[JN O a,Ev.sub λb z=>z.1,R.sub h2 U,yB h3 (λz=>z.2 W) (h4.ev (Ev.sub λb z=>z.1))]
 |pl i=>
  let f:toS ρ i ρ[i]?=lD (d,ρ'):=e;let A:=h;cases q:ρ[i]? with
  |none=>rw[q]at f;ext f
  |some o=>
   cases o with
   |none=>rw[q]at f;ext f
   |some x=>
    let(u,F,C):=R.slot i x q;rw[A]at F;ext F;rw[q]at f;cases x with
    |fz d'=>ext f;show#[O,.refl,R,C]
    |pl j=>show C.elim
    |ow ds=>
     ext f;let(a,vs,rfl,k1,T,S,Q):=C;let n:Ev O H (JN O a) H:=Ev.sub λb z=>z.1;let G:=yB S (λz=>z.2 W) (Q.ev n);show#[JN O a,n,#[R.same,λb m=>#[R.bo b m,λe=>R.agf T (e▸m)],R.bd,λb m z=>R.od b m z.1,by rw[V2];show R.len,λj x l=>?_,λj k xs I w y t=>?_],G]
     .rcases cP l with⟨rfl,g⟩|⟨r,l⟩
      .ext g;show#[_,A,G]
      .let(u,E,p):=R.slot j x l
       show#[u,E,?_];cases x with
       |fz d=>show DV.ev n p
       |pl i=>show p
       |ow xs=>let(b,J,rfl,P,N,M,L):=p;show#[b,J,W,#[P,λz=>r (R.one j i xs ds (.ref a) l q (by rw[E,z]) A)],N,M,L.ev n]
     .rcases cP y with⟨rfl,g⟩|⟨_,y⟩
      .ext g
      .rcases cP t with⟨rfl,g⟩|⟨_,t⟩
       .ext g
       .show R.one j k xs I w y t
end
def XOk(K:UN)(B:cg)(H:Hp)(c:UQ)(b:I M)(x:Xc):Prop:=
 (∃a,c=.ref a/\Vp K Vj x.cls=R (R (.ref a)))/\∃fs,(∀p,b=R p->H p=R (.xd fs))/\∀f d,x.fs.lookup f=R d->b≠S/\∃v,fs.lookup f=R v/\DV B K H v d
def XE(K:UN)(B:cg)(a:Hp)(E:XK)(x:Xc):Prop:=∀c b H',WY a H'->XOk K B H' c b x->E c b H'
def WR(K:UN)(E:XK)(B:cg)(b:Hp)(P:α->Prop):Res α->Prop
 |.ok a=>P a
 |.er x=>XE K B b E x
 |.bad=>False
section
variable{K:UN}{E:XK}{B:cg}{Z:Hp}
def WR.bind(h:WR K E B Z b (r.bind k)):WR K E B Z (λa=>WR K E B Z b (k a)) r:=by ext r<;>show h
def WR.V4(h:WR K E B Z b ((Res.V4 o).bind k)):∃a,o=R a/\WR K E B Z b (k a):=by
 cases o with
 |none=>show h.elim
 |some a=>show#[a,W,h]
def WR.imp(h:WR K E B Z b r)(g:∀a,b a->P' a):WR K E B Z P' r:=by
 cases r with
 |ok a=>show g a h
 |er x=>show h
 |bad=>show h
end
abbrev FE:=bA->Res (PV×bA)
abbrev FT:=bA->Res (Bool×bA)
abbrev FA:=bA->Res (G PV×bA)
def EO(K:UN)(E:XK)(t:TE)(f:FE):Prop:=
 ∀(B:cg) (b:Hp) (O:cg) (a:St) (H:Hp) (e:bA) (Q:VK),Rl K B b O a H e->WR K E B b (λr=>∀d v H',Ev O H d H'->Rl K B b d a H' r.2->aaE K b d a H' r.2 v r.1->Q v H') (f e)->t a H Q
def TTO(K:UN)(E:XK)(t:TT)(f:FT):Prop:=
 ∀(B:cg) (b:Hp) (O:cg) (a:St) (H:Hp) (d:bA) (Q:Bool->Hp->Prop),Rl K B b O a H d->WR K E B b (λr=>∀e H',Ev O H e H'->Rl K B b e a H' r.2->Q r.1 H') (f d)->t a H Q
def AO(K:UN)(E:XK)(t:TA)(f:FA):Prop:=
 ∀(B:cg) (b:Hp) (O:cg) (a:St) (H:Hp) (e:bA) (Q:G V->Hp->Prop),Rl K B b O a H e->WR K E B b (λr=>∀d g H',Ev O H d H'->Rl K B b d a H' r.2->Paired (λv pv=>aaE K b d a H' r.2 v pv/\mG pv) g r.1->Q g H') (f e)->t a H Q
inductive RV where
 |fz (d:D)
 |ow (ds:G D)
def RV.pv:RV->PV
 |.fz d=>.fz d
 |.ow ds=>.ow ds
def Fin(O:cg)(K:UN)(H:Hp)(Q:VK):RV->Prop
 |.fz d=>∀v H',WY H H'->DV O K H' v d->Q v H'
 |.ow ds=>∀p a H',WY H H'->H p=S->H' p=R (.lst a)->WO (bV O p) K H' a ds->Q (.ref p) H'
def pV(O:cg)(H:Hp):Prop:=∀a,H a=S->¬O a
section
variable{K:UN}{E:XK}{B O X:cg}{Y H H':Hp}{Z:St}{ρ ρ':bA}{v:V}
def lP(R:Rl K B Y O Z H ρ)(h:∀X v H',Ev O H X H'->Rl K B Y X Z H' ρ->aaE K Y X Z H' ρ v rv.pv->Q v H'):Fin O K H Q rv:=by
 cases rv with
 |fz d=>show λv H' s f=>h O v H' (Ev.grow s) (R.grow s) f
 |ow ds=>intro p t H' s b e f;show h (bV O p) (.ref p) H' (Ev.add s b) (R.add s b (by rw[e];simp)) #[p,t,W,.inr W,R.agw b,e,f,λi r w z=>?_];let(u,g,a,m,l,q,o,j,n):=R.slot i _ w;rw[z]at g;ext g;ext l;rw[b]at j;ext j
theorem Fin.new(hd:WO O K H vs ds)(h:Fin O K H Q (.ow ds)):∀p,H p=S->Q (.ref p) (bJ H p (.lst vs)):=λp a=>
 h p vs _ (bO a _) a aO (hd.ev (Ev.add (bO a _) a))
theorem Fin.aeA(hd:WO O K H vs ds)(b:pV O H)(h:Fin O K H Q (.fz (.tuple ds))):∀p,H p=S->Q (.ref p) (bJ H p (.tup vs)):=λp a=>
 h (.ref p) _ (bO a _) (.tup #[Zw.of aO,λz=>a6 z (b p a)] (hd.ev (Ev.grow (bO a _))))
theorem Fin.at(h:Fin O K H Q (.fz d))(a:DV O K H v d):Q v H:=h v H (WY.refl H) a
def Dy(ρ:bA)(i:Nat):I (I PV)->Res (PV×bA)
 |some (R (.fz d))=>.ok (.fz d,ρ)
 |some (R (.ow _))=>.ok (.pl i,ρ)
 |_=>.bad
def ae(i:Nat):FE:=λρ=>Dy ρ i ρ[i]?
def az:EO K E (yA i) (ae i):=by
 intro B Y O Z H ρ Q R w;unfold ae at w;cases q:ρ[i]? with
 |none=>rw[q]at w;show w.elim
 |some o=>
  cases o with
  |none=>rw[q]at w;show w.elim
  |some x=>
   rw[q]at w;let(v,a,b):=R.slot i x q;cases x with
   |fz d=>show#[v,a,w O v H .refl R b]
   |ow ds=>show#[v,a,w O v H .refl R a]
   |pl j=>show w.elim
def pC(d:D):FE:=λρ=>.ok (.fz d,ρ)
theorem yG(h:∀O H,DV O K H v d):EO K E (tC v) (pC d):=λB Y O Z H ρ Q R w=>w O v H .refl R (h O H)
theorem aL:EO K E (tC (.int i)) (pC (.int i)):=yG λ_ _=>.int i
theorem rM:EO K E (tC (.bl b)) (pC (.bool b)):=yG λ_ _=>.bl b
theorem iY:EO K E (tC (.str x)) (pC (.str x)):=yG λ_ _=>.str x
theorem kH:EO K E (tC .XN) (pC .none):=yG λ_ _=>.XN
def nO(K:UN)(r:R2)(f:D->D->I RV):Prop:=∀(O:cg) (H:Hp) (x y:V) (d a:D) (b:RV) (Q:VK),pV O H->DX O K H x d->DX O K H y a->f d a=R b->Fin O K H Q b->r x y H Q
def aY(f:D->D->I RV)(c fb:FE):FE:=λρ=>(c ρ).bind λa=>(fb a.2).bind λb=>(Res.V4 (A8 b.2 (eF a.1))).bind λg=>(Res.V4 (A8 b.2 b.1)).bind λd=>(Res.V4 (f g d)).bind λe=>.ok (e.pv,b.2)
def bW(t:nO K r f)(c:EO K E ta fa)(u:EO K E U fb):EO K E (Qv r ta U) (aY f fa fb):=by intro B Y O Z H ρ Q R w;show c B Y O Z H ρ _ R (w.bind.imp λa i T x S C I q=>?_);let(M,A,R2,p):=jS I q;show u B Y M Z S a.2 _ R2 (i.bind.imp λb d L y P h e o=>?_);let g:=p.keep (sR a.1) h (ρ':=b.2);let(dx,l,d):=d.V4;let(F,j,d):=d.V4;let(rv,m,d):=d.V4;show t L P x y dx F rv Q e.od (oB e g l) (oB e o j) m (lP e λJ v N z G n=>?_);show d J v N (C.trans (A.trans (h.trans z))) G n
def Uh(K:UN)(r:V->Hp->VK->Prop)(f:D->I RV):Prop:=∀(O:cg) (H:Hp) (x:V) (b:D) (a:RV) (Q:VK),pV O H->DX O K H x b->f b=R a->Fin O K H Q a->r x H Q
def FQ(f:D->I RV)(c:FE):FE:=λρ=>(c ρ).bind λa=>(Res.V4 (A8 a.2 a.1)).bind λd=>(Res.V4 (f d)).bind λb=>.ok (b.pv,a.2)
def AY(j:Uh K r f)(c:EO K E C J):EO K E (Tu r C) (FQ f J):=by intro B Y O Z H ρ Q R w;show c B Y O Z H ρ _ R (w.bind.imp λa b p x t m d i=>?_);let(y,e,b):=b.V4;let(u,g,b):=b.V4;show j p t x y u Q d.od (oB d i e) g (lP d λo v q l n h=>b o v q (m.trans l) n h)
def TL:D->I Bool
 |.bool b=>R b
 |_=>S
def OD(h:DX O K H x d)(e:TL d=R b):x=.bl b:=by ext d<;>ext e;ext h;rfl
def a8(c:FE):bA->Res (Bool×bA):=λρ=>(c ρ).bind λa=>(Res.V4 (A8 a.2 a.1)).bind λd=>(Res.V4 (TL d)).bind λb=>.ok (b,a.2)
def ji(c:EO K E o C):TTO K E (IZ o) (a8 C):=by intro B Y O Z H ρ Q R w;show c B Y O Z H ρ _ R (w.bind.imp λa e l x m j f i=>?_);let(d,g,e):=e.V4;let(b,h,e):=e.V4;show#[b,OD (oB f i g) h,e l m j f]
theorem Oq(a:EO K E o C):TTO K E (tB o) (a8 C):=ji a
def xc(b fb:FT):FT:=λρ=>(b ρ).bind λa=>if a.1=P then fb a.2 else .ok (U0,a.2)
def Qk(b fb:FT):FT:=λρ=>(b ρ).bind λa=>if a.1=P then .ok (P,a.2)else fb a.2
theorem TTO.next(h:TTO K E t f)(R:Rl K B Y O1 Z H1 ρ)(a:Ev O H O1 H1)(w:WR K E B Y (λr=>∀X H',Ev O H X H'->Rl K B Y X Z H' r.2->Q r.1 H') (f ρ)):t Z H1 Q:=
 h B Y O1 Z H1 ρ Q R (w.imp λr q X H' b d=>q X H' (a.trans b) d)
theorem EO.next(h:EO K E t f)(R:Rl K B Y O1 Z H1 ρ)(b:Ev O H O1 H1)(w:WR K E B Y (λr=>∀X v H',Ev O H X H'->Rl K B Y X Z H' r.2->aaE K Y X Z H' r.2 v r.1->Q v H') (f ρ)):t Z H1 Q:=
 h B Y O1 Z H1 ρ Q R (w.imp λr q X v H' d e a=>q X v H' (b.trans d) e a)
def MO(j:TTO K E t f)(c:TTO K E u g):TTO K E (Qn t u) (xc f g):=by
 intro B Y O Z H ρ Q R w;show j B Y O Z H ρ _ R (w.bind.imp λa d l m e h=>?_);let(b,i):=a;cases b with
 |true=>show c.next h e d
 |false=>show d l m e h
def QK(j:TTO K E t f)(c:TTO K E u g):TTO K E (Ua t u) (Qk f g):=by
 intro B Y O Z H ρ Q R w;show j B Y O Z H ρ _ R (w.bind.imp λa d l m e h=>?_);let(b,i):=a;cases b with
 |true=>show d l m e h
 |false=>show c.next h e d
def hV:FT:=λρ=>.ok (P,ρ)
theorem hG:TTO K E IR hV:=λB Y O Z H ρ Q R w=>w O H .refl R
def Hl(b fb:FE):FE:=λρ=>(a8 b ρ).bind λa=>if a.1=P then fb a.2 else .ok (.fz (.bool U0),a.2)
def IL(k:EO K E C J)(i:EO K E o fb):EO K E (HF C o) (Hl J fb):=by
 intro B Y O Z H ρ Q R w;show ji k B Y O Z H ρ (λc d=>if c=P then o Z d Q else Q (.bl U0) d) R (w.bind.imp λa e j d f g=>?_);let(b,h):=a;cases b with
 |true=>show i.next g f e
 |false=>show e j _ d f g (.bl U0)
def aD:FA:=λρ=>.ok ([],ρ)
def af(c:FE)(d:FA):FA:=λρ=>(c ρ).bind λa=>(d a.2).bind λb=>.ok (eF a.1::b.1,b.2)
theorem bx:AO K E pK aD:=λB Y O Z H ρ Q R w=>w O [] H .refl R .nil
def aH(c:EO K E C J)(l:AO K E tr fr):AO K E (jb C tr) (af J fr):=by intro B Y O Z H ρ Q R w;show c B Y O Z H ρ _ R (w.bind.imp λa g y x u n p j=>?_);let(r,m,R2,i):=jS p j;show l B Y r Z u a.2 _ R2 (g.bind.imp λb f q e t d o h=>?_);show f q (x::e) t (n.trans (m.trans d)) o (.cons #[i.keep (sR a.1) d,sR a.1] h)
def zU(ρ:bA):G PV->I (G D)
 |[]=>R []
 |p::r=>match A8 ρ p with
  |some d=>(match zU ρ r with
   |some ds=>R (d::ds)
   |none=>S)
  |none=>S
theorem Bz(R:Rl K B Y O Z H ρ):∀{g:G V} {c:G PV} {ds:G D},Paired (λv pv=>aaE K Y O Z H ρ v pv/\mG pv) g c->zU ρ c=lD ds->Paired (DX O K H) g ds
 |_,_,_,.nil,e=>by ext e;show .nil
 |_,_,_,.cons (l₂:=c) (b:=p) h t,e=>by
  unfold zU at e;cases q:A8 ρ p with
  |none=>rw[q]at e;ext e
  |some d=>
   rw[q]at e;dsimp only at e;cases f:zU ρ c with
   |none=>rw[f]at e;ext e
   |some a=>rw[f]at e;ext e;show .cons (oB R h.1 q) (Bz R t f)
def rZ(ρ:bA):G PV->I (G D×bA)
 |[]=>R ([],ρ)
 |p::r=>match zn ρ p with
  |some (d,b)=>(match rZ b r with
   |some (ds,a)=>R (d::ds,a)
   |none=>S)
  |none=>S
theorem uo:∀{k:G V} {c:G PV} {ds:G D} {O:cg} {ρ ρ':bA},Rl K B Y O Z H ρ->Paired (λv pv=>aaE K Y O Z H ρ v pv/\mG pv) k c->rZ ρ c=lD (ds,ρ')->∃X,Ev O H X H/\Rl K B Y X Z H ρ'/\WO X K H k ds
 |_,_,_,O,_,_,C,.nil,e=>by ext e;show#[O,.refl,C,.nil]
 |_,_,_,O,ρ,ρ',C,.cons (l₁:=k) (l₂:=c) (b:=p) h t,e=>by
  unfold rZ at e;cases q:zn ρ p with
  |none=>rw[q]at e;ext e
  |some r=>
   let(d,a):=r;rw[q]at e;dsimp only at e;cases J:rZ a c with
   |none=>rw[J]at e;ext e
   |some m=>let(o,j):=m;rw[J]at e;ext e;let(A,i,y,w):=wS C h.1 q;let l:Paired (λv pv=>aaE K Y A Z H a v pv/\mG pv) k c:=Paired.Zt t λv pv #[n,f]=>#[n.keep f i,f];let(z,g,R2,u):=uo y l J;show#[z,i.trans g,R2,.cons (w.ev g) u]
abbrev FN:=G D->Res RV
def pG(K:UN)(n:Nat)(F:FN):Sp:=λb H Q E=>b.length=n/\∃(B:cg) (ds:G D),(∀a,B a->H a≠S)/\WO B K H b ds/\WR K E B H (Fin B K H Q) (F ds)
def bZ(c:FA):FE:=λρ=>(c ρ).bind λa=>(Res.V4 (rZ a.2 a.1)).bind λb=>if b.1.length<=1000 then .ok (.fz (.tuple b.1),b.2)else .bad
def dh(c:FA):FE:=λρ=>(c ρ).bind λa=>(Res.V4 (rZ a.2 a.1)).bind λb=>if b.1.length<=1000 then .ok (.ow b.1,b.2)else .bad
theorem Cy(h:n<=1000):n<=Vb:=VT h ()
def iu(c:AO K E C J):EO K E (OE C) (bZ J):=by
 intro B Y O Z H ρ Q R w;show c B Y O Z H ρ _ R (w.bind.imp λa f t y u l n h=>?_);let((ds,e),q,b):=f.V4;let(r,j,R2,d):=uo n h q;dsimp only at b;by_cases hn:ds.length<=1000
 .rw[av hn]at b;show#[by rw[d.length];show Cy hn,Fin.aeA d R2.od (lP R2 λo v p i m g=>b o v p (l.trans (j.trans i)) m g)]
 .rw[ax hn]at b;show b.elim
def kz(c:AO K E C J):EO K E (SG C) (dh J):=by
 intro B Y O Z H ρ Q R w;show c B Y O Z H ρ _ R (w.bind.imp λa f t y u l n h=>?_);let((ds,e),q,b):=f.V4;let(r,j,R2,d):=uo n h q;dsimp only at b;by_cases hn:ds.length<=1000
 .rw[av hn]at b;show#[by rw[d.length];show Cy hn,Fin.new d (lP R2 λo v p i m g=>b o v p (l.trans (j.trans i)) m g)]
 .rw[ax hn]at b;show b.elim
def Gk(K:UN)(r:G V->Hp->VK->Prop)(f:G D->I RV):Prop:=∀(O:cg) (H:Hp) (xs:G V) (ds:G D) (a:RV) (Q:VK),pV O H->Paired (DX O K H) xs ds->f ds=R a->Fin O K H Q a->r xs H Q
def jW(f:G D->I RV)(c:FA):FE:=λρ=>(c ρ).bind λa=>(Res.V4 (zU a.2 a.1)).bind λds=>(Res.V4 (f ds)).bind λb=>.ok (b.pv,a.2)
def pd(j:Gk K r f)(c:AO K E C J):EO K E (IK r C) (jW f J):=by intro B Y O Z H ρ Q R w;show c B Y O Z H ρ _ R (w.bind.imp λa e p y u m d i=>?_);let(ds,q,b):=e.V4;let(z,g,b):=b.V4;show j p u y ds z Q d.od (Bz d i q) g (lP d λo v t l n h=>b o v t (m.trans l) n h)
def T3:D->I Int
 |.int i=>R i
 |_=>S
def Pj(h:DX O K H x d)(e:T3 d=R i):x=.int i:=by ext d<;>ext e;ext h;rfl
abbrev FO:=bA->Res (I Int×bA)
def S3(K:UN)(E:XK)(t:TO)(f:FO):Prop:=
 ∀(B:cg) (Y:Hp) (O:cg) (Z:St) (H:Hp) (ρ:bA) (Q:I Int->Hp->Prop),Rl K B Y O Z H ρ->WR K E B Y (λr=>∀X H',Ev O H X H'->Rl K B Y X Z H' r.2->Q r.1 H') (f ρ)->t Z H Q
def wv:FO:=λρ=>.ok (S,ρ)
def ve(b:FE):FO:=λρ=>(b ρ).bind λa=>(Res.V4 (A8 a.2 a.1)).bind λd=>(Res.V4 (T3 d)).bind λi=>.ok (R i,a.2)
theorem uQ:S3 K E xq wv:=λB Y O Z H ρ Q R w=>w O H .refl R
def uL(c:EO K E o C):S3 K E (Dh o) (ve C):=by intro B Y O Z H ρ Q R w;show c B Y O Z H ρ _ R (w.bind.imp λa f l x m j e h=>?_);let(d,q,b):=f.V4;let(i,g,b):=b.V4;show#[i,Pj (oB e h q) g,b l m j e]
def TU(K:UN)(r:V->I Int->I Int->Hp->VK->Prop)(f:D->I Int->I Int->I RV):Prop:=∀(O:cg) (H:Hp) (x:V) (lo b:I Int) (d:D) (a:RV) (Q:VK),pV O H->DX O K H x d->f d lo b=R a->Fin O K H Q a->r x lo b H Q
def Pm(f:D->I Int->I Int->I RV)(e:FE)(c b:FO):FE:=λρ=>(e ρ).bind λa=>(c a.2).bind λl=>(b l.2).bind λh=>(Res.V4 (A8 h.2 (eF a.1))).bind λg=>(Res.V4 (f g l.1 h.1)).bind λd=>.ok (d.pv,h.2)
def Hs(t:TU K r f)(c:EO K E ta fa)(u:S3 K E tl fl)(y:S3 K E th fh):EO K E (TJ r ta tl th) (Pm f fa fl fh):=by intro B Y O Z H ρ Q R w;show c B Y O Z H ρ _ R (w.bind.imp λa j O1 x U C I q=>?_);let(N,A,R2,p):=jS I q;show u B Y N Z U a.2 _ R2 (j.bind.imp λl i M T g G=>?_);show y B Y M Z T l.2 _ G (i.bind.imp λh b L S e d=>?_);let(dx,m,b):=b.V4;let(rv,n,b):=b.V4;show t L S x l.1 h.1 dx rv Q d.od (oB d (p.keep (sR a.1) (g.trans e)) m) n (lP d λJ v P z F o=>b J v P (C.trans (A.trans (g.trans (e.trans z)))) F o)
end
def yL{l:G α}(h:(l.set i x)[i]?=R y):i<l.length:=by
 rw[Wk]at h;rw[av W]at h;split at h
 .assumption
 .ext h
section
variable{K:UN}{E:XK}{B O U:cg}{Z H H':Hp}{Y:St}{ρ ρ':bA}{v:V}
def Rl.mut{i:Nat}{ds g:bg D}{a:UX}{f:bg V}(R:Rl K B Z O Y H ρ)(c:ρ[i]?=lD (lD (.ow ds)))(J:Y[i]?=lD (lD (.ref a)))(L:O a)(h0:Z a=UO)(hd:WO O K H f g):
  Rl K B Z O Y (bJ H a (.lst f)) (ρ.set i (lD (.ow g))):=by
 let ev:Ev O H O (bJ H a (.lst f)):=Ev.mut L _;show#[λb o e=>by rw[aF (cC e h0)];show R.same b o e,R.bo,R.bd,λb m=>?_,by rw[V2];show R.len,λj x l=>?_,λj k xs G w X T A t=>?_]
 .by_cases e:b=a
  .rw[e,aO]at m;ext m
  .rw[aF e]at m;show R.od b m
 .rcases cP l with⟨rfl,ee⟩|⟨r,l⟩
  .ext ee;show#[_,J,a,f,W,L,h0,aO,hd.ev ev]
  .let(u,I,q):=R.slot j x l
   show#[u,I,?_];cases x with
   |fz d=>show DV.ev ev q
   |pl i=>show q
   |ow xs=>let(b,M,rfl,S,Q,P,N):=q;let F:b≠a:=λz=>r (R.one j i xs ds (.ref a) l c (by rw[I,z]) J);show#[b,M,W,S,Q,by rw[aF F];show P,N.ev ev]
 .let own:∀{j:Nat} {xs:bg D},(ρ.set i (lD (.ow g)))[j]?=lD (lD (.ow xs))->∃G,ρ[j]?=lD (lD (.ow G)):=λ{j xs} h=>by
   rcases cP h with⟨rfl,_⟩|⟨_,h⟩
   .show#[_,c]
   .show#[_,h]
  let(p,C):=own X;let(n,y):=own T;show R.one j k p n w C y A t
theorem vi(h:n<1000000):n<Vb:=Vo h ()
def Gs:I (I PV)->I (G D)
 |some (R (.ow ds))=>R ds
 |_=>S
def EA(h:Gs o=R ds):o=R (R (.ow ds)):=by
 unfold Gs at h;split at h
 .ext h;rfl
 .ext h
def Bf(i:Nat)(c:FE):FE:=λρ=>(Res.V4 (Gs ρ[i]?)).bind λ_=>(c ρ).bind λa=>(Res.V4 (zn a.2 a.1)).bind λb=>(Res.V4 (Gs b.2[i]?)).bind λds=>
 if ds.length<1000000 then .ok (.fz .none,b.2.set i (R (.ow (ds++[b.1]))))else .bad
def IQ(z:EO K E te fe):EO K E (T8 K "list" yN (yA i) (jb te pK)) (Bf i fe):=by
 intro B Z O Y H ρ Q R w;let(J,q,w):=w.V4;let(v,j,a,vs,rfl,T,S,A,P):=R.slot i _ (EA q);show#[_,j,.inl #[W,_,Y4.of A],?_];show z B Z O Y H ρ _ R (w.bind.imp λb e O1 y H1 F L r=>?_);let((d,o),p,e):=e.V4;let(M,C,R2,I):=wS L r p;let(ds,f,e):=e.V4;let f:=EA f;let(N,n,X,g,G,m,u,t,l):=R2.slot i _ f;subst G;rw[j]at n;ext n;dsimp only at e;by_cases h:ds.length<1000000
 .rw[av h]at e;show#[a,g,y,W,W,t,vi (by rw[l.length];show h),?_];show e M .XN _ (F.trans (C.trans (Ev.mut m _))) (R2.mut f j m u (l.append (.cons I .nil))) .XN
 .rw[ax h]at e;show e.elim
abbrev FG:=PV->bA->Res bA
abbrev Ry:=G D->bA->Res bA
def GO(K:UN)(E:XK)(g:TG)(f:FG):Prop:=
 ∀(B:cg) (Z:Hp) (O:cg) (Y:St) (H:Hp) (ρ:bA) (v:V) (pv:PV) (Q:St->Hp->Prop),Rl K B Z O Y H ρ->aaE K Z O Y H ρ v pv->WR K E B Z (λρ'=>∀U a H',Ev O H U H'->Rl K B Z U a H' ρ'->Q a H') (f pv ρ)->g v Y H Q
def Ta(K:UN)(E:XK)(g:Qb)(f:Ry):Prop:=
 ∀(B:cg) (Z:Hp) (O:cg) (Y:St) (H:Hp) (ρ:bA) (b:G V) (ds:G D) (Q:St->Hp->Prop),Rl K B Z O Y H ρ->WO O K H b ds->WR K E B Z (λρ'=>∀U a H',Ev O H U H'->Rl K B Z U a H' ρ'->Q a H') (f ds ρ)->g b Y H Q
def Rl.ai2(R:Rl K B Z O Y H ρ)(h:DV O K H v d):Rl K B Z O (Y.set i (lD v)) H (ρ.set i (lD (.fz d))):=by
 show#[R.same,R.bo,R.bd,R.od,by rw[V2,V2];show R.len,λj x f=>?_,λj k xs o w m l b a=>?_]
 .rcases cP f with⟨rfl,e⟩|⟨g,f⟩
  .ext e;let:=yL f;show#[v,by rw[Wk,av W,av (by rw[R.len];show this)],h]
  .let(u,t,r):=R.slot j x f;show#[u,by rw[Wk,ax (λz=>g z.symm)];show t,r]
 .rcases cP m with⟨rfl,n⟩|⟨q,m⟩
  .ext n
  .rcases cP l with⟨rfl,n⟩|⟨p,l⟩
   .ext n
   .rw[Wk,ax (λz=>q z.symm)]at b;rw[Wk,ax (λz=>p z.symm)]at a;show R.one j k xs o w m l b a
def Rl.akX(R:Rl K B Z O Y H ρ)(h:aaE K Z O Y H ρ v (.ow ds)):Rl K B Z O (Y.set i (lD v)) H (ρ.set i (lD (.ow ds))):=by
 let(a,N,rfl,I,G,F,C,p):=h;show#[R.same,R.bo,R.bd,R.od,by rw[V2,V2];show R.len,λj x l=>?_,λj k xs o w A g d b=>?_]
 .rcases cP l with⟨rfl,e⟩|⟨n,l⟩
  .ext e;let:=yL l;show#[.ref a,by rw[Wk,av W,av (by rw[R.len];show this)],a,N,W,I,G,F,C]
  .let(u,t,r):=R.slot j x l;show#[u,by rw[Wk,ax (λz=>n z.symm)];show t,r]
 .rcases cP A with⟨rfl,L⟩|⟨q,f⟩
  .rcases cP g with⟨rfl,J⟩|⟨m,g⟩
   .rfl
   .rw[Wk,ax (λz=>m z.symm)]at b
    rcases cP d with⟨_,e⟩|⟨z,_⟩
    .ext e;show a6 b (p k o g)
    .show a6 W z
  .let y:=f
   rw[Wk,ax (λz=>q z.symm)]at d;rcases cP g with⟨rfl,L⟩|⟨m,g⟩
   .rcases cP b with⟨_,e⟩|⟨z,_⟩
    .ext e;show a6 d (p j xs f)
    .show a6 W z
   .rw[Wk,ax (λz=>m z.symm)]at b;show R.one j k xs o w f g d b
def gN(i:Nat):FG:=λpv ρ=>match pv with
 |.ow ds=>.ok (ρ.set i (R (.ow ds)))
 |.fz d=>.ok (ρ.set i (R (.fz d)))
 |.pl j=>(Res.V4 (zn ρ (.pl j))).bind λb=>.ok (b.2.set i (R (.fz b.1)))
def cN:GO K E (wY i) (gN i):=by
 intro B Z O Y H ρ v pv Q R p w;cases pv with
 |ow ds=>show w O _ H .refl (R.akX p)
 |fz d=>show w O _ H .refl (R.ai2 p)
 |pl j=>let((d,a),q,w):=WR.V4 (show WR K E B Z _ ((Res.V4 (zn ρ (.pl j))).bind λb=>.ok (b.2.set i (lD (.fz b.1))))from w);let(g,e,R2,f):=wS R p q;show w g _ H e (R2.ai2 f)
def RT:Ry:=λds ρ=>match ds with
 |[]=>.ok ρ
 |_=>.bad
def KF(f:FG)(g:Ry):Ry:=λds ρ=>match ds with
 |[]=>.bad
 |d::r=>(f (.fz d) ρ).bind λa=>g r a
def IS:Ta K E Ox RT:=by
 intro B Z O Y H ρ b ds Q R a w;cases a with
 |nil=>show#[W,w O Y H .refl R]
 |cons _ _=>show w.elim
def yJ(n:GO K E t f)(c:Ta K E u g):Ta K E (Jp t u) (KF f g):=by
 intro B Z O Y H ρ J ds Q R p w;cases p with
 |nil=>show w.elim
 |cons m l=>rename_i v J d ds;show#[_,_,W,n B Z O Y H ρ _ (.fz d) _ R m (WR.imp (WR.bind w) λe j z b C h r=>?_)];show c B Z z b C e _ _ Q r (l.ev h) (j.imp λi q y a A o R2=>q y a A (h.trans o) R2)
def Uo:D->I (G D)
 |.tuple ds=>R ds
 |_=>S
def IP(h:DX O K H x d)(e:Uo d=R ds):∃a xs,x=.ref a/\aay O K H a xs/\WO O K H xs ds:=by
 ext d<;>ext e;cases h with
 |tup h b=>show#[_,_,W,h,b]
def gT(n:Nat)(f:Ry):FG:=λpv ρ=>(Res.V4 (A8 ρ pv)).bind λd=>(Res.V4 (Uo d)).bind λds=>if ds.length=n then f ds ρ else .bad
def Hv(h:Ta K E t f):GO K E (OL K n t) (gT n f):=by
 intro B Z O Y H ρ v pv Q R p w;let(d,g,w):=w.V4;let(ds,e,w):=w.V4;let(a,xs,rfl,i,b):=IP (oB R p g) e;by_cases hn:ds.length=n
 .rw[av hn]at w;show#[a,xs,W,i.1,b.length.trans hn,h B Z O Y H ρ xs ds Q R b w]
 .rw[ax hn]at w;show w.elim
inductive Fl where
 |nx (ρ:bA)
 |rt (rv:RV)
 |bk (ρ:bA)
 |ct (ρ:bA)
abbrev FS:=bA->Res Fl
def aeC(K:UN)(B:cg)(Z:Hp)(O:cg)(H:Hp)(D:Ends):Fl->Prop
 |.nx ρ'=>∀U a H',Ev O H U H'->Rl K B Z U a H' ρ'->D.nx a H'
 |.bk ρ'=>∀U a H',Ev O H U H'->Rl K B Z U a H' ρ'->D.bk a H'
 |.ct ρ'=>∀U a H',Ev O H U H'->Rl K B Z U a H' ρ'->D.ct a H'
 |.rt b=>Fin B K Z D.rt b
def SO(K:UN)(E:XK)(t:TS)(g:FS):Prop:=
 ∀(B:cg) (Z:Hp) (O:cg) (Y:St) (H:Hp) (ρ:bA) (D:Ends),Rl K B Z O Y H ρ->WR K E B Z (aeC K B Z O H D) (g ρ)->t D Y H
def aeC.ev{D:Ends}(e:Ev O H O1 H1)(h:aeC K B Z O H D fl):aeC K B Z O1 H1 D fl:=by
 cases fl with
 |nx ρ'=>show λU a H' b d=>h U a H' (e.trans b) d
 |bk ρ'=>show λU a H' b d=>h U a H' (e.trans b) d
 |ct ρ'=>show λU a H' b d=>h U a H' (e.trans b) d
 |rt f=>show h
def d5:FS:=λρ=>.ok (.nx ρ)
def bN(f g:FS):FS:=λρ=>(f ρ).bind λa=>match a with
 |.nx b=>g b
 |a=>.ok a
def rL(f:FE):FS:=λρ=>(f ρ).bind λa=>.ok (.nx a.2)
def gc(f:FE)(g:FG):FS:=λρ=>(f ρ).bind λa=>(g a.1 a.2).bind λb=>.ok (.nx b)
def lz(c:FT)(f g:FS):FS:=λρ=>(c ρ).bind λa=>if a.1=P then f a.2 else g a.2
def F5(ρ:bA):PV->I RV
 |.fz d=>R (.fz d)
 |.ow ds=>R (.ow ds)
 |.pl i=>match ρ[i]? with
  |some (R (.fz d))=>R (.fz d)
  |some (R (.ow ds))=>R (.ow ds)
  |_=>S
def dH(f:FE):FS:=λρ=>(f ρ).bind λa=>(Res.V4 (F5 a.2 a.1)).bind λb=>.ok (.rt b)
theorem La:SO K E JL d5:=λB Z O Y H ρ D R w=>w O Y H .refl R
def b7(h:SO K E t f)(c:SO K E u g):SO K E (Mo t u) (bN f g):=by
 intro B Z O Y H ρ D R w;show h B Z O Y H ρ {D with nx:=u D} R (WR.imp (WR.bind w) λe b=>?_);cases e with
 |nx a=>show λl d m i j=>c B Z l d m a D j (WR.imp b λe q=>q.ev i)
 |rt n=>show b
 |bk a=>show b
 |ct a=>show b
def D0(h:EO K E t f):SO K E (D1 t) (rL f):=by intro B Z O Y H ρ D R w;show h B Z O Y H ρ _ R (w.bind.imp λa b g x i d e j=>b g Y i d e)
def ot(h:EO K E t f)(l:GO K E g C):SO K E (Ff t g) (gc f C):=by intro B Z O Y H ρ D R w;show h B Z O Y H ρ _ R (w.bind.imp λa i q x u n o j=>?_);show l B Z q Y u a.2 x a.1 _ o j (i.bind.imp λd e p b r m R2=>e p b r (n.trans m) R2)
def RI(m:TTO K E c C)(n:SO K E t f)(k:SO K E u g):SO K E (Oy c t u) (lz C f g):=by
 intro B Z O Y H ρ D R w;show m B Z O Y H ρ _ R (w.bind.imp λa e j l h i=>?_);let(b,d):=a;cases b with
 |true=>show n B Z j Y l d D i (WR.imp e λo q=>q.ev h)
 |false=>show k B Z j Y l d D i (WR.imp e λo q=>q.ev h)
def OC{pv:PV}(R:Rl K B Z O Y H ρ)(p:aaE K Z O Y H ρ v pv)(e:F5 ρ pv=lD C)(w:Fin B K Z Q C):Q v H:=by
 let ow:∀{a:M} {A:G V} {ds:G D},O a->Z a=S->H a=lD (.lst A)->WO O K H A ds->Fin B K Z Q (.ow ds)->Q (.ref a) H:=λ{a A ds} m l g f w=>
  w a A H R.same l g (f.ev (Ev.sub λb z=>z.elim (R.bo b) λe=>by rw[e];show m))
 let fz:∀{d:D},DV O K H v d->Fin B K Z Q (.fz d)->Q v H:=λ{d} h w=>w v H R.same (h.ev (Ev.sub R.bo));cases pv with
 |fz d=>ext e;show fz p w
 |ow ds=>ext e;let(a,A,rfl,m,l,g,f,y):=p;show ow m l g f w
 |pl i=>
  let t:=p;unfold F5 at e;dsimp only at e;cases q:ρ[i]? with
  |none=>rw[q]at e;ext e
  |some o=>
   cases o with
   |none=>rw[q]at e;ext e
   |some x=>
    let(u,r,n):=R.slot i x q;rw[t]at r;ext r;rw[q]at e;cases x with
    |fz d=>ext e;show fz n w
    |ow ds=>ext e;let(a,A,rfl,m,l,g,f):=n;show ow m l g f w
    |pl j=>show n.elim
def i9(h:EO K E t f):SO K E (O9 t) (dH f):=by intro B Z O Y H ρ D R w;show h B Z O Y H ρ _ R (w.bind.imp λa b i x j g e d=>?_);let(l,q,b):=b.V4;show OC e d q b
def CD(K:UN)(J:It)(O:cg)(H:Hp)(ds:G D):Prop:=∀U H',Ev O H U H'->pV U H'->
 (∀i,i<ds.length->J.go i H'/\∀x a,J.yld i H' x a->WY H' a/\∃d,ds[i]?=R d/\DV U K a x d)/\J.stop ds.length H'
abbrev FI:=bA->Res (G D×bA)
def IO(K:UN)(E:XK)(b:TI)(d:FI):Prop:=
 ∀(B:cg) (Z:Hp) (O:cg) (Y:St) (H:Hp) (ρ:bA) (a:It->Hp->Prop),Rl K B Z O Y H ρ->WR K E B Z (λr=>∀U J H',Ev O H U H'->Rl K B Z U Y H' r.2->CD K J U H' r.1->a J H') (d ρ)->b Y H a
def su(gt:FG)(b:FS):G D->FS
 |[],ρ=>.ok (.nx ρ)
 |d::r,ρ=>(gt (.fz d) ρ).bind λa=>(b a).bind λe=>match e with
  |.nx f=>su gt b r f
  |.ct f=>su gt b r f
  |.bk f=>.ok (.nx f)
  |.rt g=>.ok (.rt g)
def rA(d:FI)(gt:FG)(b:FS):FS:=λρ=>(d ρ).bind λa=>su gt b a.1 a.2
def BX(c:IO K E wi fi)(k:GO K E g gt)(s:SO K E tb b):SO K E (LF wi g tb) (rA fi gt b):=by
 intro B Z O Y H ρ D R w;show c B Z O Y H ρ _ R (w.bind.imp λa N G J X S T Q=>?_);let(ds,F):=a;dsimp only at N Q T;show#[λi m f H'=>m=ds.length - i/\i<=ds.length/\∃O2 ρ2,Ev G X O2 H'/\Rl K B Z O2 f H' ρ2/\WR K E B Z (aeC K B Z O H D) (su gt b (ds.drop i) ρ2),#[_,W,VF _,G,F,.refl,T,N],?_];rintro i m n M ⟨rfl,c,O2,ρ2,e2,R2,w2⟩;let(go,o):=Q O2 M e2 R2.od;by_cases z:i<ds.length
 .let(g1,g2):=go i z
  show .inr #[g1,λf H'=>i+1<=ds.length/\∃O2 ρ2,Ev G X O2 H'/\Rl K B Z O2 f H' ρ2/\WR K E B Z (aeC K B Z O H D) (su gt b (ds.drop (i+1)) ρ2),λf H' #[h1,h2]=>#[ds.length - (i+1),by ext,W,h1,h2],λx L y=>?_];let(P,d,hd,dv):=g2 x L y;let ed:ds.drop i=d::ds.drop (i+1):=by let(_,q):=UP.mp hd;rw[Xg z,q]
  rw[ed]at w2;let e3:Ev O2 M O2 L:=Ev.grow P;show k B Z O2 n L ρ2 x (.fz d) _ (R2.grow P) dv (WR.imp (WR.bind w2) λC w3 O4 A H4 e4 R4=>?_);let l:=e2.trans (e3.trans e4);show s B Z O4 A H4 C _ R4 (WR.imp (WR.bind w3) λfl u=>?_);cases fl with
  |nx h=>show λt j I p r=>#[z,t,h,l.trans p,r,u]
  |ct h=>show λt j I p r=>#[z,t,h,l.trans p,r,u]
  |bk h=>show λt j I p r=>u t j I (S.trans (l.trans p)) r
  |rt rv=>show u
 .let e:i=ds.length:=by ext
  subst e;rw[YA (U1 _)]at w2;show .inl #[o,w2 O2 n M (S.trans e2) R2]
def fY:D->I (G D)
 |.tuple ds=>R ds
 |.list ds=>R ds
 |_=>S
def za(K:UN)(d:TE):TI:=λY H R=>d Y H λx b=>∃a,x=.ref a/\(((∃xs,Y4 K b a xs)/\R (Tl K a) b)\/((∃xs,Zw K b a xs)/\R (T0 K a) b))
def fH(w:PE X l C):PI X J l (za X.K C):=by
 intro g s Y H R I h;show cT (w g s Y H _ I h) λv f a=>?_;let(x,n,d,r,t):=a;let(a,e,q):=t;subst e;ext r;rcases q with⟨⟨xs,i⟩,q⟩|⟨⟨xs,i⟩,q⟩
 .let(m,y,p,u):=d.list i
  show XW p.isList ?_;show#[f.heap.objs.size,[f.heap.objs.size],_,_,n,W,d.kept λb o e=>bP _ e,Fb a _,#[_,cv _ W,W,W],λb j=>?_,q];let e:b=f.heap.objs.size:=by simpa using j
  subst e;show d.adu (U1 _) (d.Wn.fresh (U1 _))
 .let(m,y,p,u):=d.tuple i
  show abk (show f.heap.IsTuple a m.toArray from p) ?_;show#[f.heap.objs.size,[f.heap.objs.size],_,_,n,W,d.kept λb o e=>bP _ e,Cq a _,#[_,cv _ W,W,W],λb j=>?_,q];let e:b=f.heap.objs.size:=by simpa using j
  subst e;show d.adu (U1 _) (d.Wn.fresh (U1 _))
def EN(h:abX O K H a xs)(hd:WO O K H xs ds):CD K (Tl K a) O H ds:=by intro U H' e n;let f:=h.ev e;let b:=hd.ev e;show#[λi p=>?_,#[xs,f.1.sq,by rw[hd.length];show U1 _]];let(x,l,_):=b.get (U7 p);show#[#[xs,x,f.1.sq,l],?_];rintro y m ⟨rfl,o⟩;let(d,j,g):=b.ahh (o xs f.1.sq);show#[WY.refl _,d,j,g]
def IB(h:aay O K H a xs)(hd:WO O K H xs ds):CD K (T0 K a) O H ds:=by intro U H' e n;let f:=h.ev e;let b:=hd.ev e;show#[λi p=>?_,#[xs,f.1,by rw[hd.length];show U1 _]];let(x,l,_):=b.get (U7 p);show#[#[xs,x,f.1,l],?_];rintro y m ⟨rfl,o⟩;let(d,j,g):=b.ahh (o xs f.1);show#[WY.refl _,d,j,g]
def lw(c:FE):FI:=λρ=>(c ρ).bind λa=>(Res.V4 (zn a.2 a.1)).bind λb=>(Res.V4 (fY b.1)).bind λds=>.ok (ds,b.2)
def kI(h:EO K E C J):IO K E (za K C) (lw J):=by
 intro B Z O Y H ρ r R w;show h B Z O Y H ρ _ R (w.bind.imp λa b t x l i p n=>?_);let((d,m),q,b):=b.V4;let(j,g,R2,o):=wS p n q;let(ds,e,b):=b.V4;dsimp only at e;cases o with
 |tup h f=>ext e;show#[_,W,.inr #[#[_,h.1],b j _ l (i.trans g) R2 (IB h f)]]
 |lst h f=>ext e;show#[_,W,.inl #[#[_,h.1.sq],b j _ l (i.trans g) R2 (EN h f)]]
 |_=>ext e
def hW(lo:Int)(n:Nat):G D:=(Vc n).map λ(k:Nat)=>.int (lo+(k:Int))
def Kl:CD K (Tc lo n) O H (hW lo n):=by
 intro U H' e d;let a:(hW lo n).length=n:=by ext hW;rw[UR,VS]
 show#[λi f=>?_,by show n<=_;rw[a];show U1 _];rw[a]at f;show#[f,?_];rintro x b ⟨rfl,rfl⟩;show#[WY.refl _,.int (lo+i),by ext hW;rw[U4,List.getElem?_range f];rfl,.int _]
def mV(i:Int):Prop:= -(2^62)<=i/\i<2^62
noncomputable instance(i:Int):Decidable (mV i):=by ext mV;infer_instance
def lm:G D->I (G D)
 |[.int j]=>if mV j then R (hW 0 j.toNat)else S
 |_=>S
def r8(f:G D->I (G D))(b:FA):FI:=λρ=>(b ρ).bind λa=>(Res.V4 (zU a.2 a.1)).bind λds=>(Res.V4 (f ds)).bind λxs=>.ok (xs,a.2)
def ky(h:AO K E C J):IO K E (Os C) (r8 lm J):=by
 intro B Z O Y H ρ r R w;show h B Z O Y H ρ _ R (w.bind.imp λa d o t p n f i=>?_);let(ds,q,d):=d.V4;let(xs,b,d):=d.V4;let g:=Bz f i q;unfold lm at b;split at b
 .rename_i j
  split at b
  .rename_i e
   ext b;cases g with
   |cons m l=>ext l;ext m;show#[j,W,e.1,e.2,d o _ p n f Kl]
  .ext b
 .ext b
end
section
variable{K:UN}{E:XK}{B O Y:cg}{X H H':Hp}{Z:St}{ρ ρ':bA}{v:V}
def GR:I PV->I PV
 |some (.fz d)=>R (.fz d)
 |_=>S
def dY(ρ:bA):bA:=ρ.map GR
def BG{i:Nat}(h:(dY ρ)[i]?=R (R x)):∃d,x=.fz d/\ρ[i]?=R (R (.fz d)):=by
 unfold dY at h;rw[U4]at h;cases q:ρ[i]? with
 |none=>rw[q]at h;ext h
 |some o=>
  rw[q]at h;let a:=Vi h;unfold GR at a;split at a
  .ext a;show#[_,W,W]
  .ext a
def v5(ρ:bA):G Nat->I (G D×bA)
 |[]=>R ([],ρ)
 |j::r=>match zn ρ (.pl j)with
  |some (d,b)=>(match v5 b r with
   |some (c,a)=>R (d::c,a)
   |none=>S)
  |none=>S
def F9(R:Rl K B X O Z H ρ)(h:zn ρ (.pl i)=lD (d,ρ')):∃v,Z[i]?=lD (lD v):=by
 let a:toS ρ i ρ[i]?=lD (d,ρ'):=h;cases q:ρ[i]? with
 |none=>rw[q]at a;ext a
 |some o=>
  cases o with
  |none=>rw[q]at a;ext a
  |some x=>let(v,b,_):=R.slot i x q;show#[v,b]
theorem AM:∀{f:G Nat} {ds:G D} {O:cg} {ρ ρ':bA},Rl K B X O Z H ρ->v5 ρ f=lD (ds,ρ')->∃Y k,Ev O H Y H/\Rl K B X Y Z H ρ'/\WO Y K H k ds/\f.map (λj=>(Z[j]?).join)=k.map lD
 |[],_,O,_,_,y,e=>by ext e;show#[O,[],.refl,y,.nil,W]
 |j::r,_,O,ρ,ρ',y,e=>by
  unfold v5 at e;cases q:zn ρ (.pl j)with
  |none=>rw[q]at e;ext e
  |some p=>
   let(d,a):=p;rw[q]at e;dsimp only at e;cases z:v5 a r with
   |none=>rw[z]at e;ext e
   |some i=>let(c,h):=i;rw[z]at e;ext e;let(v,b):=F9 y q;let(w,m,t,o):=wS (pv:=.pl j) y b q;let(u,k,g,R2,n,l):=AM t z;show#[u,v::k,m.trans g,R2,.cons (o.ev g) n,by rw[Vf,Vf,l,b];rfl]
def eX(gt:FG)(c:FT)(f:FE):G D->bA->G D->Res (G D)
 |[],_,acc=>.ok acc
 |d::r,ρ,acc=>(gt (.fz d) ρ).bind λe=>(c e).bind λb=>if b.1=P then(f b.2).bind λa=>(Res.V4 (zn a.2 a.1)).bind λx=>
   if acc.length<1000000 then eX gt c f r (dY x.2) (acc++[x.1])else .bad
  else eX gt c f r (dY b.2) acc
def nW:Res α->Res α
 |.er _=>.bad
 |r=>r
def iC(n:Nat)(b:G Nat)(e:FI)(gt:FG)(f:FT)(g:FE):FE:=λρ=>(e ρ).bind λa=>(Res.V4 (v5 a.2 b)).bind λc=>
 (nW (eX gt f g a.1 (U8 n S++c.1.map λd=>R (.fz d)) [])).bind λxs=>.ok (.ow xs,c.2)
def DK{own:G Str}(h:own.length=n):own.map (λ_=>(S:I V))=U8 n S:=by
 subst h
 induction own with
 |nil=>rfl
 |cons x r a=>rw[Vf,a,Vd,Wc]
def DU(h:WR K E B X b (nW r)):∃a,r=.ok a/\b a:=by
 cases r with
 |ok a=>show#[a,W,h]
 |er x=>show h.elim
 |bad=>show h.elim
def RJ(K:UN)(J:It)(O:cg)(H:Hp)(ds:G D):Prop:=∀Y H',Ev O H Y H'->WY H H'->pV Y H'->
 (∀i,i<ds.length->J.go i H'/\∀x a,J.yld i H' x a->WY H' a/\∃d,ds[i]?=R d/\DV Y K a x d)/\J.stop ds.length H'
def Ue(K:UN)(E:XK)(b:TI)(d:FI):Prop:=
 ∀(B:cg) (X:Hp) (O:cg) (Z:St) (H:Hp) (ρ:bA) (a:It->Hp->Prop),Rl K B X O Z H ρ->WR K E B X (λr=>∀Y J H',Ev O H Y H'->Rl K B X Y Z H' r.2->RJ K J Y H' r.1->a J H') (d ρ)->b Z H a
theorem IO.s(h:IO K E wi fi):Ue K E wi fi:=λB X O Z H ρ d R w=>h B X O Z H ρ d R (w.imp λr q Y J H' e R a=>q Y J H' e R λf g b _ n=>a f g b n)
def JF(c:own.length=n)(hf:fv.map (·.2)=fj)
  (hi:Ue K E wi fi) (hg:GO K E0 g gt) (ht:TTO K E0 tc ft) (he:EO K E0 te fe):EO K E (wB own fv wi g tc te) (iC n fj fi gt ft fe):=by
 intro B X O Z H ρ Q R w;show hi B X O Z H ρ _ R (w.bind.imp λa w1 O1 J H1 e1 R1 it=>?_);let(ds,ρ1):=a;let((cs,ρ2),qc,w1):=w1.V4;dsimp only at qc it;let(I,vs,e2,R2,dvs,hvs):=AM R1 qc;let(xs,qx,w1):=DU (WR.bind w1);intro l F;let hB:∀{H':Hp},WY H1 H'->H' l≠UO->∀a,bV I l a->H' a≠UO:=λ{H'} s nd a h z=>h.elim (λq=>R2.od a (s.free z) q) λe=>nd (by rw[<-e];show z);show#[λi m L H'=>m=ds.length - i/\i<=ds.length/\∃(A:bg D) (G:bg V) (t:bA),WY H1 H'/\H' l=lD (.lst G)/\WO (bV I l) K H' G A/\L.length=t.length/\(∀(j:Nat) (x:PV),t[j]?=lD (lD x)->∃d u,x=PV.fz d/\L[j]?=lD (lD u)/\DV (bV I l) K H' u d)/\eX gt ft fe (ds.drop i) t A=.ok xs,
  #[_,W,VF _,[],[],_,bO F _,aO,.nil,?_,λj x M=>?_,qx],?_]
 .ext iq;rw[UZ,UZ,UR,UR,VR,UR,c,<-dvs.length];let:=et Y1 hvs;rw[UR,UR,<-hf,UR]at this;ext
 .let hm:fv.map (λp=>(Z[p.2]?).join)=vs.map lD:=by rw[<-hvs,<-hf,VG];rfl
  ext iq;rw[DK c,hm];by_cases hj:j<n
  .rw[U3 (by rw[VR];show hj),XB,av hj]at M;ext M
  .rw[Vr (by rw[VR];ext),VR,U4]at M⊢
   cases qd:cs[j - n]? with
   |none=>rw[qd]at M;ext M
   |some d=>rw[qd]at M;ext M;let(u,hu,du):=dvs.get qd;show#[d,u,W,by rw[hu];rfl,du.ev (Ev.add (bO F _) F)]
 .rintro i m L H' ⟨rfl,hi,A,G,t,s,hD,dys,hl,hsl,f⟩
  let nD:H' l≠UO:=by rw[hD];simp
  let no':=λa z h=>hB s nD a h z;let ev1:=e2.trans (Ev.add s F);let(go,stop):=it (bV I l) H' ev1 s no';by_cases Y6:i<ds.length
  .let(g1,g2):=go i Y6
   show .inr #[g1,λC N=>i+1<=ds.length/\∃(A:bg D) (G:bg V) (t:bA),WY H1 N/\N l=lD (.lst G)/\WO (bV I l) K N G A/\C.length=t.length/\(∀(j:Nat) (x:PV),t[j]?=lD (lD x)->∃d u,x=PV.fz d/\C[j]?=lD (lD u)/\DV (bV I l) K N u d)/\eX gt ft fe (ds.drop (i+1)) t A=.ok xs,
    λC N #[U,h2]=>#[ds.length - (i+1),by ext,W,U,h2],λx H3 y=>?_]
   let(s3,d,hd,dv):=g2 x H3 y;let ed:ds.drop i=d::ds.drop (i+1):=by let(_,q):=UP.mp hd;rw[Xg Y6,q]
   rw[ed]at f;let hD3:=s3 _ _ hD;let nD3:H3 l≠UO:=by rw[hD3];simp
   let sv:=s.trans s3;let RC:Rl K (bV I l) H3 (bV I l) L H3 t:=#[WY.refl _,λ_ h=>h,hB sv nD3,λa z h=>hB sv nD3 a h z,hl,λj x M=>by let(d,u,rfl,U,h2):=hsl j x M;show#[u,U,h2.ev (Ev.grow s3)],λj k xs G w hj=>by let(d,u,e,_):=hsl j _ hj;ext e];unfold eX at f;let back:∀{O5:cg} {C:St} {N:Hp} {Pz0:bA} {H6:Hp},Rl K (bV I l) H3 O5 C N Pz0->(∀b o,b≠l->N b=lD o->H6 b=lD o)->C.length=(dY Pz0).length/\∀(j:Nat) (x:PV),(dY Pz0)[j]?=lD (lD x)->∃d u,x=PV.fz d/\C[j]?=lD (lD u)/\DV (bV I l) K H6 u d:=λ{O5 C N Pz0 H6} T k=>by show#[by ext dY;rw[UR];show T.len,λj x M=>?_];let(d,rfl,hxx):=BG M;let(u,U,h2):=T.slot j _ hxx;show#[d,u,W,U,DV.ev (λb o h n=>#[k b o (λe=>n (.inr e)) h,n]) (DV.ev (Ev.sub T.bo) h2)]
   show hg _ _ _ L H3 t x (.fz d) _ RC dv ?_;cases qg:gt (.fz d) t with
   |er z=>rw[qg]at f;ext f
   |bad=>rw[qg]at f;ext f
   |ok ρ3=>
    rw[qg,ey]at f;intro O4 σ4 H4 e4 R4;show ht _ _ _ σ4 H4 ρ3 _ R4 ?_;cases qt:ft ρ3 with
    |er z=>rw[qt]at f;ext f
    |bad=>rw[qt]at f;ext f
    |ok b=>
     let(b,ρ4):=b;rw[qt,ey]at f;intro O5 N e5 T;cases b with
     |false=>rw[ax Vg]at f⊢;let(l5,k5):=back T λb o _ h=>h;show#[Y6,A,G,dY ρ4,sv.trans T.same,T.same _ _ hD3,?_,l5,k5,f];show dys.ev (Ev.grow (s3.trans T.same))
     |true=>
      rw[av W]at f⊢;show he _ _ _ σ4 N ρ4 _ T ?_;cases qe:fe ρ4 with
      |er z=>rw[qe]at f;ext f
      |bad=>rw[qe]at f;ext f
      |ok r=>
       rw[qe,ey]at f;intro O6 yv H6 e6 R6 p6;cases q7:zn r.2 r.1 with
       |none=>rw[q7]at f;ext f
       |some xr=>
        let(xd,ρ7):=xr;rw[q7]at f;let(O7,e7,R7,dv7):=wS R6 p6 q7;let hD7:=R7.same _ _ hD3;let S:(if A.length<1000000 then eX gt ft fe (ds.drop (i+1)) (dY ρ7) (A++[xd])else .bad)=.ok xs:=f;by_cases hl6:A.length<1000000
        .rw[av hl6]at S
         let up:∀b o,b≠l->H6 b=lD o->bJ H6 l (.lst (G++[yv])) b=lD o:=λb o hb h=>by rw[aF hb];show h
         let c8:Ev (bV I l) H6 (bV I l) (bJ H6 l (.lst (G++[yv]))):=λb o h n=>#[up b o (λe=>n (.inr e)) h,n];let akL:=dys.ev (Ev.grow (s3.trans R7.same));let(l5,k5):=back R7 up;show#[G,hD7,vi (by rw[dys.length];show hl6),Y6,A++[xd],G++[yv],dY ρ7,λb o h=>?_,aO,?_,l5,k5,S]
         .rw[aF (cC h F)];show R7.same _ _ (sv _ _ h)
         .show(akL.append (.cons (DV.ev (Ev.sub R7.bo) dv7) .nil)).ev c8
        .rw[ax hl6]at S;ext S
  .let e:i=ds.length:=by ext
   subst e;rw[YA (U1 _)]at f;let f:=f;ext f;show .inl #[stop,?_];show w1 (bV I l) (.ref l) H' (e1.trans ev1) (R2.add s F nD) #[l,G,W,.inr W,R2.agw F,hD,dys,λk es hk z=>?_];let(u,U,b,us,e2,g1,g2,g3,g4):=R2.slot k _ hk;rw[z]at U;ext U;ext e2;rw[F]at g3;ext g3
theorem gQ(c:own.length=n)(d:U.map (·.2)=fj)
  (f:IO K E o fi) (b:GO K E0 g gt) (a:TTO K E0 J ft) (e:EO K E0 C fe):EO K E (wB own U o g J C) (iC n fj fi gt ft fe):=JF c d f.s b a e
def db(F:FN)(n:Nat)(c:FA):FE:=λρ=>(c ρ).bind λa=>(Res.V4 (rZ a.2 a.1)).bind λb=>if b.1.length=n then(nW (F b.1)).bind λd=>.ok (d.pv,b.2)else .bad
def gP(c:AO K E J U):EO K E (nG (pG K n F) [] E0 J) (db F n U):=by
 intro B X O Z H ρ Q R w;show c B X O Z H ρ _ R (w.bind.imp λa f A L C o r i=>?_);let((ds,e),q,b):=f.V4;let(u,m,R2,d):=uo r i q;dsimp only at b;by_cases hn:ds.length=n
 .rw[av hn]at b;let(N,g,b):=DU (WR.bind b);rw[Vz];show#[d.length.trans hn,u,ds,λa z j=>R2.od a j z,d,?_];rw[g];show lP R2 λt v y l p h=>b t v y (o.trans (m.trans l)) p h
 .rw[ax hn]at b;show b.elim
end
def gG(N:Nat)(g:FS):FN:=λds=>(g (ds.map (λd=>R (.fz d))++U8 (N - ds.length) S)).bind λa=>match a with
 |.rt b=>.ok b
 |.nx _=>.ok (.fz .none)
 |_=>.bad
def J4(g:∀a,t a->H a≠S)(l:WO t K H C ds):Rl K t H t (L2.start N C) H (ds.map (λd=>R (.fz d))++U8 (N.length - ds.length) S):=by
 let n:=l.length;show#[WY.refl _,λ_ h=>h,g,λa z h=>g a h z,?_,λi x m=>?_,λi j xs r w u=>?_]
 .ext L2.start;rw[UZ,UZ,UR,UR,VR,VR,n]
 all_goals
  let b:∀{i:Nat} {x:PV},(ds.map (λd=>R (PV.fz d))++U8 (N.length - ds.length) S)[i]?=R (R x)->∃d,x=.fz d/\ds[i]?=R d:=λ{i x} h=>by
   by_cases u:i<ds.length
   .rw[U3 (by rw[UR];show u),U4]at h
    cases q:ds[i]? with
    |none=>rw[q]at h;ext h
    |some d=>rw[q]at h;ext h;show#[d,W,W]
   .rw[Vr (by rw[UR];ext),XB]at h;split at h<;>ext h
 .let(d,rfl,o):=b m;let(v,f,p):=l.get o;show#[v,?_,p];let u:=(UP.mp f).1;ext L2.start;rw[U3 (by rw[UR];show u),U4,f];rfl
 .let(d,e,_):=b u;ext e
def UF(F:Yp K x qual st f fd)(S:XU N C (aI st))(c:C.length=n)
  (p:∀(a:UQ) (A:Vx) (outer:G Env) (s:UY) (H:Hp) (E:XK),Xu k (A.deeper (Vv qual (aI st) s.heap.objs.size f a))->
   ∃t,PSs (gM dR y w K U base N qual (aI st) f a A outer s H E).nox (cI st) t/\SO K E t g):FnOk y w K U base dR (k+1) f fd C (pG K n (gG N.length g)):=by
 show F.ok S (λJ H Q E h=>h.1.trans c.symm) (λa A outer s H J Q E j h=>?_);let(t,d,i):=p a A outer s H E j;let(u,B,ds,l,o,h):=h;show#[t,d,i B H B _ H _ _ (J4 l o) (WR.imp (WR.bind h) λm q=>?_)];cases m with
 |rt L=>show q
 |nx z=>show λv b r e R=>q .XN r R.same .XN
 |bk z=>show q.elim
 |ct z=>show q.elim
end L3
namespace L3
open PySem PySem.Spec PyProof.Rows L2
def OpR.or(h:OpR X f r)(c:OpR X f r'):OpR X f (λx y H Q=>r x y H Q\/r' x y H Q):=by
 intro a s b H x y v u Q I e d q;rcases q with q|q
 .show h a s b H x y v u Q I e d q
 .show c a s b H x y v u Q I e d q
def P2(I:Inv X pins σ H s)(h:Zp X.K H l xs):xs.length<=Vb/\∃(a:G B) (n:Nat),Vals xs a/\xs.length=a.length/\s.heap.get? l=R {cls:=.type "list",data:=.seq a.toArray n}:=by
 rcases h with(h|⟨o,h⟩)|⟨a,n,h1,d,b⟩
 .show I.agK h
 .let(_,z,a,n,r,e):=I.Wn l _ h;show#[z,a,n,r,r.length,e]
 .show#[d,a,n,b,b.length,I.kIn _ _ h1]
def Oi(K:UN):R2:=λx y H Q=>∃l b xs zs,x=.ref l/\y=.ref b/\Zp K H l xs/\Zp K H b zs/\xs.length+zs.length<=Vb/\∀p,H p=S->Q (.ref p) (bJ H p (.lst (xs++zs)))
def Mz:OpR X (WT .Add) (Oi X.K):=by
 intro d s A H x y v u Q I i g h;let(l,b,xs,B,rfl,rfl,o,p,F,q):=h;ext i;ext g;let(z,f,n,r,G,e):=P2 I o;let(C,a,E,j,m,w):=P2 I p;show PySem.P.add_list e w ?_ (by rw[Va,Va];ext);let t:f.toArray++a.toArray=(f++a).toArray:=by simp
 rw[t];show#[.ref _,_,I.aik (r.append j) (by rw[UZ];ext),W,q _ I.fresh]
def NT(K:UN):R2:=λx y H Q=>∃l k xs,x=.ref l/\y=.int k/\Zp K H l xs/\ -(2^63)<=k/\k<2^63/\xs.length*k.toNat<=Vb/\
 ∀p,H p=S->Q (.ref p) (bJ H p (.lst (U8 k.toNat xs).flatten))
def Mj:OpR X (WT .Mult) (NT X.K):=by
 intro o s O H x y v u Q I E C h;let(l,k,xs,rfl,rfl,J,M,L,p,q):=h;ext E;let(t,rfl):=C;let(z,b,n,r,G,e):=P2 I J;let d:b.toArray.size*k.toNat<=Vb:=by rw[Va,<-G];show p
 let f:¬b.toArray.size*k.toNat>(2^63 - 1)/8:=by
  let:(Vb:Nat)<=(2^63 - 1)/8:=by decide
  ext
 let g:¬(!Builtin.List.listFitsIndex k)=US:=by rw[fitsIndex_both M L];show Vg
 let i:¬Builtin.List.listTooLong (b.toArray.size*k.toNat)=US:=by rw[Iy d];show Vg
 let j:aan (λA w=>A++w) #v[] (U8 (if b.toArray.isEmpty=US then 0 else k.toNat) b.toArray)=(U8 k.toNat b).flatten.toArray:=by
  let N:=λm=>by let:=ra b m [];rw[ach]at this;show this
  rw[N];cases b with
  |nil=>simp
  |cons a P=>rw[ax (by simp)]
 show aec () #[_,e,W] (λB=>ab7 B k t) noFill_list_mul F.fills_int_mul F.slot_int_rmul repeat_list F.slot_int_index.lookup
  (aaa F.slot_int_rmul (ab7 s k t) F.entry_int_rmul (F.args_int_rmul_2 _ _) (int___rmul___int_list k t l b.toArray n)
   #[e,W,#[_,e,W],aaa F.slot_list_mul #[_,e,W] F.entry_list_mul (F.args_list_mul_2 _ _) (AutoListH.list___mul___list_int_3 l b.toArray n k t g f i) #[e,?_]])
 rw[j];show#[.ref _,_,I.aik (r.rep k.toNat) (by rw[D2,adH];show p),W,q _ I.fresh]
section
variable{K:UN}
def fI(g:Int->Int->Int):D->D->I RV
 |.int i,.int j=>R (.fz (.int (g i j)))
 |_,_=>S
def fB(g:Int->Int->Bool):D->D->I RV
 |.int i,.int j=>R (.fz (.bool (g i j)))
 |_,_=>S
def ON(C:Int->Int->Bool)(g:Int->Int->Int):D->D->I RV
 |.int i,.int j=>if C i j=P then R (.fz (.int (g i j)))else S
 |_,_=>S
def yY(h:fI g J C=R o):∃i j,J=.int i/\C=.int j/\o=.fz (.int (g i j)):=by
 unfold fI at h;split at h
 .ext h;show#[_,_,W,W,W]
 .ext h
def N8:nO K (yU λi j=>.int (g i j)) (fI g):=by intro O H x y h d f Q n b a e q;let(i,j,rfl,rfl,rfl):=yY e;ext b;ext a;show#[i,j,W,W,q.at (.int _)]
def Eb:nO K (yU λi j=>.bl (g i j)) (fB g):=by
 intro O H x y h d f Q n b a e q;unfold fB at e;split at e
 .ext e;ext b;ext a;show#[_,_,W,W,q.at (.bl _)]
 .ext e
def t8(f:∀i j,C i j=P->o i j):nO K (rI o λi j=>.int (g i j)) (ON C g):=by
 intro O H x y m h l Q n b a e q;unfold ON at e;split at e
 .split at e
  .rename_i d;ext e;ext b;ext a;show#[_,_,W,W,f _ _ d,q.at (.int _)]
  .ext e
 .ext e
theorem Bj(h:DX O K H x (.list ds)):∃a xs,x=.ref a/\Zp K H a xs/\WO O K H xs ds:=h
theorem Ce(h:DX O K H x (.tuple ds)):∃a xs,x=.ref a/\aay O K H a xs/\WO O K H xs ds:=IP h W
def Hu(K:UN):R2:=λx y H Q=>yU (λi j=>.int (i+j)) x y H Q\/Oi K x y H Q\/N7 K x y H Q
theorem jz:OpR X (WT .Add) (Hu X.K):=OpR.or QN (OpR.or Mz LO)
def dM:D->D->I RV
 |.int i,.int j=>R (.fz (.int (i+j)))
 |.list xs,.list ys=>if xs.length+ys.length<=1000000 then R (.ow (xs++ys))else S
 |.tuple xs,.tuple ys=>if xs≠[]/\xs.length+ys.length<=1000000 then R (.fz (.tuple (xs++ys)))else S
 |_,_=>S
theorem Er(h:n<=1000000):n<=Vb:=VT h ()
def WO.ne(h:WO O K H vs ds):vs=[]↔ds=[]:=by ext h<;>simp
def ju:nO K (Hu K) dM:=by
 intro O H x y t p r Q n l j e q;unfold dM at e;split at e
 .ext e;ext l;ext j;show .inl #[_,_,W,W,q.at (.int _)]
 .split at e
  .rename_i g;ext e;let(a,xs,rfl,h,d):=Bj l;let(b,i,rfl,m,f):=Bj j;show .inr (.inl #[a,b,xs,i,W,W,h,m,Er (by rw[d.length,f.length];show g),Fin.new (d.append f) q])
  .ext e
 .split at e
  .rename_i g;ext e;let(a,xs,rfl,h,d):=Ce l;let(b,i,rfl,m,f):=Ce j;show .inr (.inr #[a,b,xs,i,W,W,h.1,m.1,λz=>g.1 (d.ne.mp z),Er (by rw[d.length,f.length];show g.2),λz=>?_,λ_=>Fin.aeA (d.append f) n q]);let o:=f.ne.mp z;subst o;rw[Vz]at q;show q.at (.tup h d)
  .ext e
 .ext e
def Hd(K:UN):R2:=λx y H Q=>rI af4 (λi j=>.int (i*j)) x y H Q\/NT K x y H Q
theorem Ng:OpR X (WT .Mult) (Hd X.K):=OpR.or Qd Mj
def iE(i:Int):Bool:=decide (-(2^64)<i/\i<2^64)
theorem ut(h:iE i=P): -(2^64)<i/\i<2^64:=a5 h
def BS:D->D->I RV
 |.int i,.int j=>if(iE i||iE j)=P then R (.fz (.int (i*j)))else S
 |.list xs,.int k=>if xs.length*k.toNat<=1000000/\ -(2^63)<=k/\k<2^63 then R (.ow (U8 k.toNat xs).flatten)else S
 |_,_=>S
def ML:nO K (Hd K) BS:=by
 intro O H x y l i j Q n f d e q;unfold BS at e;split at e
 .split at e
  .rename_i b
   ext e;ext f;ext d;show .inl #[_,_,W,W,?_,q.at (.int _)];rcases(Zc _ _).mp b with z|z
   .show .inl (ut z)
   .show .inr (ut z)
  .ext e
 .split at e
  .rename_i b;ext e;ext d;let(a,xs,rfl,h,g):=Bj f;show .inr #[a,_,xs,W,W,h,b.2.1,b.2.2,Er (by rw[g.length];show b.1),Fin.new (g.flat _) q]
  .ext e
 .ext e
def vR:=fI λi j=>i - j
theorem KL:nO K (yU λi j=>.int (i - j)) vR:=N8
def Py(_ j:Int):Bool:=decide (0<j)
def qC:=ON Py λi j=>i % j
theorem LP:nO K (rI (λ_ j=>0<j) λi j=>.int (i % j)) qC:=t8 λi j h=>a5 h
def QB(_ j:Int):Bool:=decide (0<j/\j<2^128)
def Gh:=ON QB λi j=>i/j
theorem KW:nO K (rI (λ_ j=>0<j/\j.natAbs.log2<9000) λi j=>.int (i/j)) Gh:=t8 λi j h=>by
 let a:=a5 h;show#[a.1,?_];let b:j.natAbs<2^128:=by let:=a.2;ext
 let d:=(Nat.log2_lt ()).mpr b;ext
def zc(i j:Int):Bool:=decide (0<=j/\j<=1000000/\i.natAbs<2^64)
def Ea(i j:Int)(h:zc i j=P):Kc i j:=by unfold zc at h;show(show 0<=j/\j<=1000000/\i.natAbs<2^64 from a5 h)
def Mv:=ON zc λi j=>i^j.toNat
theorem LA:nO K (rI Kc λi j=>.int (i^j.toNat)) Mv:=t8 Ea
def QR:=ON zc λi j=>i*2^j.toNat
theorem Dg:nO K (rI Kc λi j=>.int (i*2^j.toNat)) QR:=t8 Ea
def Tw(_ j:Int):Bool:=decide (0<=j)
def ND:=ON Tw λi j=>i/2^j.toNat
theorem E4:nO K (rI (λ_ j=>0<=j) λi j=>.int (i/2^j.toNat)) ND:=t8 λi j h=>a5 h
def CY:=fI λi j=>Builtin.bitAnd i j
theorem Ed:nO K (yU λi j=>.int (Builtin.bitAnd i j)) CY:=N8
def Qz:=fB λi j=>decide (i<j)
def TB:=fB λi j=>decide (i<=j)
def Lf:=fB λi j=>decide (j<i)
def S4:=fB λi j=>decide (j<=i)
theorem Cc:nO K (yU λi j=>.bl (decide (i<j))) Qz:=Eb
theorem Kz:nO K (yU λi j=>.bl (decide (i<=j))) TB:=Eb
theorem xN:nO K (yU λi j=>.bl (decide (j<i))) Lf:=Eb
theorem Jr:nO K (yU λi j=>.bl (decide (j<=i))) S4:=Eb
def lj(d:D):Bool:=d.canLay0&&decide (d.depth<=64)
def cY(d e:D):I RV:=if(lj d&&e.canLay0)=P then R (.fz (.bool (UU.eqv d e)))else S
def nj(d e:D):I RV:=if(lj d&&e.canLay0)=P then R (.fz (.bool (!UU.eqv d e)))else S
def i6:nO K (K0 K U0) cY:=by
 intro O H x y g f h Q n d b e q;unfold cY at e;split at e
 .rename_i a;ext e;unfold lj at a;simp only[Vh,decide_eq_true_eq]at a;show#[g,f,d.plain,b.plain,a.1.1,a.2,a.1.2,q.at (.bl _)]
 .ext e
def lM:nO K (K0 K P) nj:=by
 intro O H x y g f h Q n d b e q;unfold nj at e;split at e
 .rename_i a;ext e;unfold lj at a;simp only[Vh,decide_eq_true_eq]at a;show#[g,f,d.plain,b.plain,a.1.1,a.2,a.1.2,q.at (.bl _)]
 .ext e
def yg:D->D->I RV
 |.none,.none=>R (.fz (.bool P))
 |_,.none=>R (.fz (.bool U0))
 |_,_=>S
def pE:D->D->I RV
 |.none,.none=>R (.fz (.bool U0))
 |_,.none=>R (.fz (.bool P))
 |_,_=>S
def GI(h:DX O K H x d)(hd:d≠.none):x≠.XN:=by
 cases d with
 |none=>show a6 W hd
 |list ds=>let(a,xs,rfl,_):=Bj h;simp
 |tuple ds=>let(a,xs,rfl,_):=Ce h;simp
 |bool b=>ext h;simp
 |int b=>ext h;simp
 |str b=>ext h;simp
 |dict b=>ext h
def ME:nO K (λx y H Q=>y=.XN/\Q (.bl (decide (x=.XN))) H) yg:=by
 intro O H x y h f g Q n b a e q;unfold yg at e;split at e
 .ext e;ext b;ext a;show#[W,q.at (.bl _)]
 .rename_i d;ext e;ext a;show#[W,?_];rw[a4 (GI b d)];show q.at (.bl _)
 .ext e
def Du:nO K (λx y H Q=>y=.XN/\Q (.bl (!decide (x=.XN))) H) pE:=by
 intro O H x y h f g Q n b a e q;unfold pE at e;split at e
 .ext e;ext b;ext a;show#[W,q.at (.bl _)]
 .rename_i d;ext e;ext a;show#[W,?_];rw[a4 (GI b d)];show q.at (.bl _)
 .ext e
def L5(K:UN)(neg:Bool):R2:=λx y H Q=>∃d ds,L2.DV K H x d/\(L2.DV K H y (.list ds)\/L2.DV K H y (.tuple ds))/\d.canLay0=P/\UU.canLayAll0 ds=P/\d.depth<=64/\Q (.bl (if neg then !(ds.any λe=>UU.eqv e d)else ds.any λe=>UU.eqv e d)) H
def uj(p:X.A.units+65<cLine):OpR X (W2 .In) (L5 X.K U0):=by
 intro g s o H x y v u Q I l e h;let(d,ds,n,a,j,i,m,q):=h;let(r,f):=n.reads I l;let hm:min (UU.depthAll ds) d.depth<=64:=VT (ab6 _ _) m;rcases a with a|a
 .let(bs,b):=a.reads I e;show akk b f i j () #[.bl _,H,I,W,q]
 .let(bs,b):=a.reads I e;show akl b f i j () #[.bl _,H,I,W,q]
def Nq(p:X.A.units+65<cLine):OpR X (W2 .NotIn) (L5 X.K P):=by
 intro g s o H x y v u Q I l e h;let(d,ds,n,a,j,i,m,q):=h;let(r,f):=n.reads I l;let hm:min (UU.depthAll ds) d.depth<=64:=VT (ab6 _ _) m;rcases a with a|a
 .let(bs,b):=a.reads I e;show akm b f i j () #[.bl _,H,I,W,q]
 .let(bs,b):=a.reads I e;show akn b f i j () #[.bl _,H,I,W,q]
def Gp(d e:D):I RV:=match fY e with
 |some ds=>if(lj d&&UU.canLayAll0 ds)=P then R (.fz (.bool (ds.any λe=>UU.eqv e d)))else S
 |none=>S
def Cu(d e:D):I RV:=match fY e with
 |some ds=>if(lj d&&UU.canLayAll0 ds)=P then R (.fz (.bool (!ds.any λe=>UU.eqv e d)))else S
 |none=>S
def HZ(a:DX O K H y e)(h:fY e=R ds):L2.DV K H y (.list ds)\/L2.DV K H y (.tuple ds):=by
 unfold fY at h;split at h
 .ext h;show .inr a.plain
 .ext h;show .inl a.plain
 .ext h
def vo:nO K (L5 K U0) Gp:=by
 intro O H x y h g i Q n d b e q;unfold Gp at e;split at e
 .rename_i ds f
  split at e
  .rename_i a;ext e;unfold lj at a;simp only[Vh,decide_eq_true_eq]at a;show#[h,ds,d.plain,HZ b f,a.1.1,a.2,a.1.2,q.at (.bl _)]
  .ext e
 .ext e
def Ni:nO K (L5 K P) Cu:=by
 intro O H x y h g i Q n d b e q;unfold Cu at e;split at e
 .rename_i ds f
  split at e
  .rename_i a;ext e;unfold lj at a;simp only[Vh,decide_eq_true_eq]at a;show#[h,ds,d.plain,HZ b f,a.1.1,a.2,a.1.2,q.at (.bl _)]
  .ext e
 .ext e
def bE(d e:D):I RV:=match fY d,e with
 |some ds,.int i=>(lA ds i).map .fz
 |_,_=>S
def HG(h:WO O K H xs ds)(e:lA ds i=R d):∃v,lA xs i=R v/\DV O K H v d:=by
 unfold lA at e⊢;rw[h.length];cases q:KG ds.length i with
 |none=>rw[q]at e;ext e
 |some j=>rw[q]at e;show h.get e
def cS:nO K (Tb K) bE:=by
 intro O H x y t o r Q n l m e q;unfold bE at e;split at e
 .rename_i ds i b
  ext m;cases p:lA ds i with
  |none=>rw[p]at e;ext e
  |some d=>
   rw[p]at e;ext e;unfold fY at b;split at b
   .ext b;let(a,xs,rfl,h,g):=Ce l;let(v,f,j):=HG g p;show .inr (.inl #[a,xs,i,v,W,W,h.1,f,q.at j])
   .ext b;let(a,xs,rfl,h,g):=Bj l;let(v,f,j):=HG g p;show .inl #[a,xs,i,v,W,W,h.sq,f,q.at j]
   .ext b
 .ext e
def nV(xs:G D)(lo a:I Int):G D:=(xs.drop (HT.sIx xs.length 0 lo)).take (HT.sIx xs.length xs.length a - HT.sIx xs.length 0 lo)
def J8{lo a:I Int}(h:WO O K H xs ds):WO O K H (yW xs lo a) (nV ds lo a):=by unfold yW nV;rw[h.length];show(h.drop _).take _
def gn(n:Nat)(lo a:I Int):Bool:=decide (HT.sIx n 0 lo=0/\HT.sIx n n a=n)
def OH(K:UN):V->I Int->I Int->Hp->VK->Prop:=λx lo a H Q=>SE K x lo a H Q\/R8 K x lo a H Q
def yd:Rf X (OH X.K):=by
 intro a s b H x v e d lo l f Q I g j pl i h;rcases h with h|h
 .show L6 a s b H x v e d lo l f Q I g j pl i h
 .show Re a s b H x v e d lo l f Q I g j pl i h
def Rm:D->I Int->I Int->I RV
 |.list ds,lo,a=>R (.ow (nV ds lo a))
 |.tuple ds,lo,a=>if gn ds.length lo a=P then S else R (.fz (.tuple (nV ds lo a)))
 |_,_,_=>S
def pQ:TU K (OH K) Rm:=by
 intro O H x lo i j h Q n f e q;unfold Rm at e;split at e
 .ext e;let(a,xs,rfl,d,b):=Bj f;show .inl #[a,xs,W,d.sq,Fin.new (J8 b) q]
 .split at e
  .ext e
  .rename_i g;ext e;let(a,xs,rfl,d,b):=Ce f;show .inr #[a,xs,W,d.1,λz=>g ?_,Fin.aeA (J8 b) n q];ext gn;rw[<-b.length];show aP z
 .ext e
def vW:D->I RV
 |.int i=>R (.fz (.int (-i)))
 |_=>S
def pM:Uh K (rU λi=>.int (-i)) vW:=by
 intro O H x d b Q n a e q;unfold vW at e;split at e
 .ext e;ext a;show#[_,W,q.at (.int _)]
 .ext e
def dB:G D->I RV
 |[d]=>(match fY d with
  |some ds=>R (.fz (.int ds.length))
  |none=>S)
 |_=>S
def eV:Gk K (λxs H Q=>∃x n,xs=[x]/\Sd K x H n/\Q (.int n) H) dB:=by
 intro O H xs ds i Q n g e q;unfold dB at e;split at e
 .split at e
  .rename_i h d
   ext e;cases g with
   |cons b f=>
    ext f;unfold fY at d;split at d
    .ext d;let(a,xs,rfl,b,f):=Ce b;show#[_,xs.length,W,.inr #[xs,b.1,W],by rw[f.length];show q.at (.int _)]
    .ext d;let(a,xs,rfl,b,f):=Bj b;show#[_,xs.length,W,.inl #[xs,b.sq,W],by rw[f.length];show q.at (.int _)]
    .ext d
  .ext e
 .ext e
def t7:G D->I RV
 |[.tuple ds]=>R (.fz (.tuple ds))
 |[.list ds]=>R (.fz (.tuple ds))
 |_=>S
def oE:Gk K (λxs H Q=>∃p ys,xs=[.ref p]/\((Y4 K H p ys/\∀l,H l=S->Q (.ref l) (bJ H l (.tup ys)))\/(Zw K H p ys/\Q (.ref p) H))) t7:=by
 intro O H xs ds g Q n f e q;unfold t7 at e;split at e
 .ext e
  cases f with
  |cons b d=>ext d;let(a,xs,rfl,b,d):=Ce b;show#[a,xs,W,.inr #[b.1,q.at (.tup b d)]]
 .ext e
  cases f with
  |cons b d=>ext d;let(a,xs,rfl,b,d):=Bj b;show#[a,xs,W,.inl #[b.sq,Fin.aeA d n q]]
 .ext e
def yQ:G D->I RV
 |[d]=>(fY d).map .ow
 |_=>S
def MQ:Gk K (λxs H Q=>∃p ys,xs=[.ref p]/\(Y4 K H p ys\/Zw K H p ys)/\∀l,H l=S->Q (.ref l) (bJ H l (.lst ys))) yQ:=by
 intro O H xs ds j Q n g e q;unfold yQ at e;split at e
 .rename_i d
  cases g with
  |cons b f=>
   ext f;cases i:fY d with
   |none=>rw[i]at e;ext e
   |some h=>
    rw[i]at e;ext e;unfold fY at i;split at i
    .ext i;let(a,xs,rfl,b,f):=Ce b;show#[a,xs,W,.inr b.1,Fin.new f q]
    .ext i;let(a,xs,rfl,b,f):=Bj b;show#[a,xs,W,.inl b.sq,Fin.new f q]
    .ext i
 .ext e
def ED:G D->I RV
 |[.int i,.int j]=>R (.fz (.int (if j>i then j else i)))
 |_=>S
def Ml:Gk K (λxs H Q=>∃i j,xs=[.int i,.int j]/\Q (.int (if j>i then j else i)) H) ED:=by
 intro O H xs ds g Q n b e q;unfold ED at e;split at e
 .ext e
  cases b with
  |cons f a=>
   cases a with
   |cons a d=>ext d;ext f;ext a;show#[_,_,W,q.at (.int _)]
 .ext e
end
end L3
namespace PySem
open Sem (wp)
open AutoSeq1 (wpAny_loadPart')
open Builtin Builtin.Str
section
variable{Y:Vn}{w:VJ}{A:Vx}{E:UQ->UY->Prop}{s:UY}
def pJ(a:s.heap.IsTupleIter it t i)(h:s.heap.IsTuple t items)(g:items[i]?=R x)
  (l:∀c,c.IsTupleIter it t (i+1)->Heap.SameBut it s.heap c->Q x {s with heap:=c}):wpAny (model Y w) A (Builtin.SmallTypes.nextOf (.ref it)) Q E s:=by
 let(o,d,j,b):=id a;let(m,e,_,n,f):=h;ext Builtin.SmallTypes.nextOf;show Ld (WB a.typeIs F.slot_tuple_iterator_next
  (WX F.slot_tuple_iterator_next a.typeIs F.entry_tuple_iterator_next ?_ (F.args_tuple_iterator_next_1 _)))
 show wpAny _ _ (field (.ref it) 0>>=_) _ _ s;show Ld (VZ d b W ?_);show wpAny _ _ (if(UQ.ref t==UQ.none)=P then _ else _) _ _ s;rw[ax (show¬((UQ.ref t==UQ.none)=P)from Vg)];show Ld (VZ d b W ?_);show Ld (Wj e f ?_);simp only[Wl,g];show Ld (XO d b (by simp) (UT #[x,W,UT (l _ ?_ (Heap.SameBut.update ..))]));show#[_,da _ d (d3 (dP b _)),(Obj.cls_mapFields ..).trans j,by rw[dP b];simp[rawInt]]
def qO(h:A.handled=S)(a:s.heap.IsTupleIter it t i)(l:s.heap.IsTuple t items)(j:items[i]?=S)
  (m:∀c e,Heap.ExtBut it s.heap c->(∃o,c.get? e=R o/\o.cls=.type "StopIteration")->E (.ref e) {s with heap:=c}):wpAny (model Y w) A (Builtin.SmallTypes.nextOf (.ref it)) Q E s:=by
 let(o,d,q,g):=id a;let(n,b,_,p,f):=l;ext Builtin.SmallTypes.nextOf;show Ld (WB a.typeIs F.slot_tuple_iterator_next
  (WX F.slot_tuple_iterator_next a.typeIs F.entry_tuple_iterator_next ?_ (F.args_tuple_iterator_next_1 _)))
 show wpAny _ _ (field (.ref it) 0>>=_) _ _ s;show Ld (VZ d g W ?_);show wpAny _ _ (if(UQ.ref t==UQ.none)=P then _ else _) _ _ s;rw[ax (show¬((UQ.ref t==UQ.none)=P)from Vg)];show Ld (VZ d g W ?_);show Ld (Wj b f ?_);simp only[Wl,j];show Ld (aa2 (Ld (XO d g (by simp) ?_)));show Ld ?_;simp only[newExc,newTuple];show Ld (V3 ?_ (by size_fits));show Ld (aao (by first|rfl|(simp only[firstArgMember];rfl)) ?_);show V3 ?_ (by size_fits);simp only[raiseNew];show Ld (wpAny_handled ?_)
 first|rw[show A.in1.handled=S from h]|rw[h]
 show Ld (UT (wpAny_throw ?_));show m _ _ (((Heap.SameBut.update ..).extBut.push _).push _) #[_,cv _ W,W]
end
end PySem
namespace L3
open PySem PySem.Spec PyProof.Rows L2
def M8(I:Inv X pins σ H s)(i:Zw X.K H a xs)(c:Zw X.K H a ys):xs=ys:=by
 let(f,h,(o,j,_,n,l),_):=I.tuple i;let(b,g,(m,d,_,p,e),_):=I.tuple c;rw[j]at d;ext d;rw[l]at e;let:f=b:=by
  let q:f.toArray=b.toArray:=by injection e
  simpa using q
 subst this;show h.inj g
def wf{bs:G Bool}(r:Vals (bs.map V.bl) o){i:Nat}(h:o[i]?=R v):∃b,bs[i]?=R b/\v=.bool b:=by
 let d:=r.length;rw[UR]at d;let f:i<bs.length:=by rw[d];show(UP.mp h).1
 let(u,a,e):=r.get (by rw[U4,U7 f];rfl);rw[h]at a;ext a;show#[bs[i],U7 f,e]
def CB(bs:G Bool):((Vc bs.length).all λi=>(bs[i]?).getD P)=bs.all id:=by
 rw[aci,Wr,Wr];constructor
 .intro h b a;let(i,d,e):=aed.mp a;let:=h i (Wh.mpr d);rw[U7 d,e]at this;show this
 .intro h i d;let d:=Wh.mp d;rw[U7 d];show h _ (abY d)
def B3(bs:G Bool):((Vc bs.length).any λi=>(bs[i]?).getD U0)=bs.any id:=by
 rw[aci,Ye,Ye];constructor
 .rintro⟨i,d,h⟩;let d:=Wh.mp d;rw[U7 d]at h;show#[_,abY d,h]
 .rintro⟨b,a,h⟩;let(i,d,e):=aed.mp a;show#[i,Wh.mpr d,by rw[U7 d,e];show h]
section
variable{X:Cx}
def lF(t:X.calm=P):Yd X (.builtin "all") (λxs H Q=>∃(p:M) (bs:bg Bool),xs=[.ref p]/\Y4 X.K H p (bs.map V.bl)/\Q (.bl (bs.all id)) H):=by
 intro d s z H xs B Q I r h;let(l,bs,rfl,m,q):=h;let(u,rfl,j):=kj r;ext j;let(g,N,pl,F):=I.list m;let a:=N.length;rw[UR]at a;let y:l<s.heap.objs.size:=by let(_,_,e,_):=pl;show cn e
 show call_all_walk (XW pl.isList ?_);show#[s.heap.objs.size,[s.heap.objs.size,l],[s.heap.objs.size],g.toArray.size,_,_,λi=>(bs[i]?).getD P,W,afN.list (A:=X.A.in1) (I.ok.hd t) _ l (Vk y) g.toArray,
  #[#[_,cv _ W,W,W],pl.isList.push _],λi v E J L w f=>?_,λG C n=>?_]
 .let(b,e,rfl):=wf N (by simpa using w);simp only[e,ZV]at f;show Xy f
 .rw[Va,<-a,CB];show#[.bl _,H,I.kept λb o e=>n b o (λhm=>?_) (bP _ e),W,q];rw[U9.mp hm]at e;show Wi _ (cn e)
def zQ(t:X.calm=P):Yd X (.builtin "any") (λxs H Q=>∃(p:M) (bs:bg Bool),xs=[.ref p]/\Y4 X.K H p (bs.map V.bl)/\Q (.bl (bs.any id)) H):=by
 intro d s z H xs B Q I r h;let(l,bs,rfl,m,q):=h;let(u,rfl,j):=kj r;ext j;let(g,N,pl,F):=I.list m;let a:=N.length;rw[UR]at a;let y:l<s.heap.objs.size:=by let(_,_,e,_):=pl;show cn e
 show call_any_walk (XW pl.isList ?_);show#[s.heap.objs.size,[s.heap.objs.size,l],[s.heap.objs.size],g.toArray.size,_,_,λi=>(bs[i]?).getD U0,W,afN.list (A:=X.A.in1) (I.ok.hd t) _ l (Vk y) g.toArray,
  #[#[_,cv _ W,W,W],pl.isList.push _],λi v E J L w f=>?_,λG C n=>?_]
 .let(b,e,rfl):=wf N (by simpa using w);simp only[e,ZV]at f;show Xy f
 .rw[Va,<-a,B3];show#[.bl _,H,I.kept λb o e=>n b o (λhm=>?_) (bP _ e),W,q];rw[U9.mp hm]at e;show Wi _ (cn e)
end
section
variable{K:UN}
def ox:G D->I (G Bool)
 |[]=>R []
 |.bool b::r=>(ox r).map (b::·)
 |_=>S
theorem xA:∀{xs:G V} {ds:G D} {bs:G Bool},WO O K H xs ds->ox ds=R bs->xs=bs.map V.bl
 |_,_,_,.nil,e=>by ext e;rfl
 |_,_,bs,.cons (ds:=r) h t,e=>by
  cases h with
  |bl b=>
   let a:(ox r).map (b::·)=R bs:=e;cases q:ox r with
   |none=>rw[q]at a;ext a
   |some d=>rw[q]at a;ext a;rw[xA t q];rfl
  |_=>ext e
def vT:G D->I RV
 |[.list ds]=>(ox ds).map λbs=>.fz (.bool (bs.all id))
 |_=>S
def LQ:G D->I RV
 |[.list ds]=>(ox ds).map λbs=>.fz (.bool (bs.any id))
 |_=>S
def ur:Gk K (λxs H Q=>∃(p:M) (bs:G Bool),xs=[.ref p]/\Y4 K H p (bs.map V.bl)/\Q (.bl (bs.all id)) H) vT:=by
 intro O H xs ds j Q n f e q;unfold vT at e;split at e
 .rename_i g
  cases i:ox g with
  |none=>rw[i]at e;ext e
  |some bs=>
   rw[i]at e;ext e;cases f with
   |cons d b=>ext b;let(a,h,rfl,d,b):=Bj d;let:=xA b i;subst this;show#[a,bs,W,d.sq,q.at (.bl _)]
 .ext e
def Kp:Gk K (λxs H Q=>∃(p:M) (bs:G Bool),xs=[.ref p]/\Y4 K H p (bs.map V.bl)/\Q (.bl (bs.any id)) H) LQ:=by
 intro O H xs ds j Q n f e q;unfold LQ at e;split at e
 .rename_i g
  cases i:ox g with
  |none=>rw[i]at e;ext e
  |some bs=>
   rw[i]at e;ext e;cases f with
   |cons d b=>ext b;let(a,h,rfl,d,b):=Bj d;let:=xA b i;subst this;show#[a,bs,W,d.sq,q.at (.bl _)]
 .ext e
def qL:G D->I (G Int)
 |[]=>R []
 |.int b::r=>(qL r).map (b::·)
 |_=>S
theorem tj:∀{xs:G V} {ds:G D} {bs:G Int},WO O K H xs ds->qL ds=R bs->xs=bs.map V.int
 |_,_,_,.nil,e=>by ext e;rfl
 |_,_,bs,.cons (ds:=r) h t,e=>by
  cases h with
  |int b=>
   let a:(qL r).map (b::·)=R bs:=e;cases q:qL r with
   |none=>rw[q]at a;ext a
   |some d=>rw[q]at a;ext a;rw[tj t q];rfl
  |_=>ext e
def B1(x:Int):G Int->G Int
 |[]=>[x]
 |y::r=>if x<=y then x::y::r else y::B1 x r
def l9:G Int->G Int
 |[]=>[]
 |x::r=>B1 x (l9 r)
theorem qA(x:Int):∀l,(B1 x l).Perm (x::l)
 |[]=>aal _
 |y::r=>by
  ext B1;split
  .show aal _
  .show((qA x r).cons y).trans (anF x y r)
theorem fX:∀l,(l9 l).Perm l
 |[]=>aal _
 |x::r=>(qA x _).trans ((fX r).cons x)
theorem rF(x:Int):∀l:G Int,l.Pairwise (·<=·)->(B1 x l).Pairwise (·<=·)
 |[],_=>by simp[B1]
 |y::r,h=>by
  ext B1;let(d,f):=Yr.mp h;split
  .rename_i a
   show Yr.mpr #[λz b=>?_,h];rcases Vm.mp b with e|e
   .rw[e];show a
   .let:=d z e;ext
  .rename_i a
   show Yr.mpr #[λz b=>?_,rF x r f];rcases Vm.mp ((qA x r).mem_iff.mp b)with e|e
   .rw[e];ext
   .show d z e
theorem fF:∀l,(l9 l).Pairwise (·<=·)
 |[]=>Y2
 |x::r=>rF x _ (fF r)
theorem mx{l m:G Int}(d:l.Perm m)(e:l.Pairwise (·<=·))(hm:m.Pairwise (·<=·)):l=m:=d.eq_of_pairwise (λa b _ _ g f=>Int.le_antisymm g f) e hm
def xW:G D->I RV
 |[.list ds]=>(match qL ds with
  |some a=>if a.length<64 then R (.ow ((l9 a).map .int))else S
  |none=>S)
 |_=>S
def vq(a:G Int):WO O K H (a.map V.int) (a.map .int):=by
 induction a with
 |nil=>show .nil
 |cons n r b=>show .cons (.int n) b
def wA:Gk K (λxs H Q=>∃(p:M) (b:G Int),xs=[.ref p]/\Y4 K H p (b.map V.int)/\b.length<64/\∀(l:M) (d:G Int),H l=S->d.Perm b->d.Pairwise (·<=·)->Q (.ref l) (bJ H l (.lst (d.map V.int)))) xW:=by
 intro O H xs ds u Q n f e q;unfold xW at e;split at e
 .rename_i m
  cases t:qL m with
  |none=>rw[t]at e;ext e
  |some b=>
   rw[t]at e;dsimp only at e;split at e
   .rename_i g
    ext e;cases f with
    |cons i h=>ext h;let(a,r,rfl,i,h):=Bj i;let:=tj h t;subst this;show#[a,b,W,i.sq,g,λl d g f j=>?_];let o:=mx (f.trans (fX b).symm) j (fF b);subst o;show Fin.new (vq _) q l g
   .ext e
 .ext e
end
def Ug(K:UN)(H:Hp)(x:V)(t:String):Prop:=match x with
 |.XN=>t= "NoneType"
 |.bl _=>t= "bool"
 |.int _=>t= "int"
 |.str _=>t= "str"
 |.ref a=>(t= "list"/\∃xs,Y4 K H a xs)\/(t= "tuple"/\∃xs,Zw K H a xs)
 |_=>False
def NP(K:UN):G V->Hp->VK->Prop:=λxs H Q=>∃x n t b,xs=[x,.ty n]/\Ug K H x t/\aeX K (.type t) (.type n)=R b/\Q (.bl b) H
def jU{X:Cx}:Yd X (.builtin "isinstance") (NP X.K):=by
 intro g s p H xs B Q I r h;let(x,n,t,b,rfl,ty,e,q):=h;let(u,v,rfl,f,w):=EF r;obtain rfl:v=UQ.type n:=w;let d:∀j,EP X g p Q (.bool b) {s with toks:=j}:=λj=>#[.bl b,H,I.tok j,W,q];cases x with
 |XN=>cases(show t= "NoneType" from ty);cases(show u=UQ.none from f);show Yk PySem.W.kitx_none I.kIn True.intro e (λz=>nomatch z) d
 |bl y=>cases(show t= "bool" from ty);cases(show u=UQ.bool y from f);show Yk PySem.W.kitx_bool I.kIn True.intro e (λz=>nomatch z) d
 |int i=>cases(show t= "int" from ty);let(t,q):=(show∃t,u=UQ.int i t from f);ext q;show Yk PySem.W.kitx_int I.kIn True.intro e (λz=>nomatch z) d
 |str y=>cases(show t= "str" from ty);let(t,q):=(show∃t,u=UQ.str y t from f);ext q;show Yk PySem.W.kitx_str I.kIn True.intro e (λz=>nomatch z) d
 |ref a=>
  cases(show u=UQ.ref a from f);rcases ty with⟨rfl,xs,h⟩|⟨rfl,xs,h⟩
  .let(A,r,(o,k,m,l,_),_):=I.list h;show Yk PySem.W.kitx_list I.kIn #[_,m,l] e (λz=>nomatch z) d
  .let(A,r,(o,m,l,_),_):=I.tuple h;show Yk PySem.W.kitx_tuple I.kIn #[o,m,l] e (λz=>nomatch z) d
 |_=>show(show False from ty).elim
section
variable{K:UN}{E:XK}{B O X:cg}{U H T:Hp}{Q:L2.St}{N Y:bA}{v:V}
def Ga:D->I String
 |.none=>R "NoneType"
 |.bool _=>R "bool"
 |.int _=>R "int"
 |.str _=>R "str"
 |.list _=>R "list"
 |.tuple _=>R "tuple"
 |.dict _=>S
def KZ(n t:String):Bool:=n==t||(n== "int"&&t== "bool")
def LS{n t:String}(b:n= "int"\/n= "bool"\/n= "str"\/n= "list"\/n= "tuple"){d:D}(a:Ga d=R t):aeX K (.type t) (.type n)=R (KZ n t):=by ext d<;>(ext a;try (rcases b with rfl|rfl|rfl|rfl|rfl<;>rfl))
def RZ{x:V}{d:D}{t:String}(h:DX O K H x d)(e:Ga d=R t):Ug K H x t:=by
 cases d with
 |none=>ext e;ext h;rfl
 |bool b=>ext e;ext h;rfl
 |int b=>ext e;ext h;rfl
 |str b=>ext e;ext h;rfl
 |dict b=>ext e
 |list ds=>ext e;let(a,xs,rfl,f,_):=Bj h;show .inl #[W,xs,f.sq]
 |tuple ds=>ext e;let(a,xs,rfl,f,_):=Ce h;show .inr #[W,xs,f.1]
end
def F1{P:Vn}{w:VJ}{K:UN}{N l:Str->br UQ}{k:Nat}{U a:UX}{fd:We}{x:Str}{F:FN}{b:UY}{c:bg UQ}{d:bg Int}
  (p:K.In b.heap) (f:b.heap.Ns Vj N) (B:b.heap.Ns builtinsNs l) (g:∀x:Str,x≠ "__name__"->l x=Wb x) (i:b.heap.NoLimit) (A:b.gens= #v[])
  (T:b.heap.get? a=R {cls:=.type "list",data:=.seq c.toArray}) (V:IntsAre c d) (m:d.length<=Vb) (y:Xu k callerA)
  (J:∀base:Heap,K.In base->base.Ns Vj N->FnOk P w K N base dR k U fd [x] (pG K 1 F)) (j:∀(s:UY) (u:UQ),aaZ s fd #[[u],[]] [(x,u)])
  (G:F [.list (d.map .int)]=.ok (.fz (.bool US))):
  codeAny (model P w) callerA (.call (.ref U) #[[.ref a],[]]) (λr D=>r=.ok (.ret (.bool US))/\OldK b.heap D.heap/\D.os=b.os/\AllBare D.gens) b:=by
 show JW (sp:=λc H Q E=>pG K 1 F c H Q E\/(c.length=1/\False)) p f B g i A T V m y (λbase t q=>(J base t q).imp λc H Q E h=>?_) j (λH L C=>?_) λ_ _ _ h=>h
 .rcases h with h|h
  .show h
  .show h.2.elim
 .show .inl #[W,noO,[.list (d.map .int)],λa z=>z.elim,.cons (.lst #[?_,λz=>z.elim] (vq d)) .nil,?_]
  .rcases C with h|⟨o,VW,n,h1,h2,h3,Y,h5,X⟩
   .show .inl h
   .let e:=p a o h1;rw[T]at e;ext e;ext Y;show .inr #[c,0,h1,by rw[UR];show m,by simpa using X]
  .rw[G];show λv M s I=>by ext I;rfl
def SM{l:aeJ}{n k:Nat}{q:Vn}{i:bg Str}{N:(Str->br UQ)->Heap->Prop}{A:VJ->Heap->Prop}{d:DefRec}{K:Params->UN}{F:FN}{x:Str}
  (D:l.most=lD n) (m:n<=Vb) (r:d.params.defaults=[]) (C:Xu k callerA)
  (J:∀(w:VJ) (h:Heap),A w h->(K w.params).In h)
  (O:∀(w:VJ) (b:Str->br UQ) (c:UX) (h:Heap),(K w.params).In h->h.Ns Vj b->b d.name=lD (.ref c)->
   ∃fd:We,(∀(s:UY) (u:UQ),aaZ s fd #[[u],[]] [(x,u)])/\∀base:Heap,(K w.params).In base->base.Ns Vj b->FnOk l.prog w (K w.params) b base dR k c fd [x] (pG (K w.params) 1 F))
  (L:∀ns:bg Int,ns.length<=n->F [.list (ns.map .int)]=.ok (.fz (.bool US))):
  PySem.W.WalkO q i N A l.row.toRowW d [] (λf g=>ah8 f g):=by
 show Att.attach_call D r λw z y b Q c o P U M a g ns G Y R S H p v j e E=>?_;let B:=J w _ Y;let(fd,I,t):=O w b c _ B G.T.g p;show F1 B G.T.g G.T.b G.T.builtins G.T.nolimit E v j (VT e m) C t I (L ns e)
def Uv{P:Vn}{w:VJ}{K:UN}{j:Str->I B}{base:Heap}{x a:Str}{b:Xx}{f:M}{fd:We}{N c:G Str}{k n m:Nat}{g:FS}{e:FN}(F:Yp K x a b f fd)(S:XU N c (aI b))(l:c.length=n)(hm:N.length=m)(h:e=gG m g)
  (i:∀(d:B) (A:Vx) (outer:G Env) (s:UY) (H:Hp) (E:XK),Xu k (A.deeper (Vv a (aI b) s.heap.objs.size f d))->
   ∃t,PSs (gM dR P w K j base N a (aI b) f d A outer s H E).nox (cI b) t/\SO K E t g):FnOk P w K j base dR (k+1) f fd c (pG K n e):=by
 subst h hm;show UF F S l i
abbrev fU(P:Vn)(w:VJ)(K:UN)(b:Str->I B)(base:Heap)(k:Nat)(x:Str)(a:G Str)(n:Nat)(F:FN):Prop:=zm P w K b base k x a (pG K n F)
end L3
namespace L3
open PySem L2
abbrev nd(n:Nat):D:=.int (n:Int)
def cb(a:G Nat):G D:=a.map nd
def gY(a:G Nat):(cb a).length=a.length:=by ext cb;rw[UR]
def M0(xs a:G Nat):cb (xs++a)=cb xs++cb a:=by ext cb;rw[Vu]
def sO{i:Nat}(h:(cb ns)[i]?=R d):∃n,ns[i]?=R n/\d=nd n:=by
 unfold cb at h;rw[U4]at h;cases e:ns[i]? with
 |none=>rw[e]at h;ext h
 |some n=>rw[e]at h;show#[n,W,(Vi h).symm]
theorem bz(a:α):Res.V4 (R a)=.ok a:=W
theorem AU(a:α):nW (Res.ok a)=.ok a:=W
theorem Bi(i:Nat)(a:bA):ae i a=Dy a i a[i]? :=W
theorem G2(a:bA)(i:Nat)(d:D):Dy a i (R (R (.fz d)))=.ok (.fz d,a):=W
theorem GP(a:bA)(i:Nat)(ds:G D):Dy a i (R (R (.ow ds)))=.ok (.pl i,a):=W
theorem qW(ds:G D):Gs (R (R (.ow ds)))=R ds:=W
theorem HY(i:Nat)(d:D)(a:bA):gN i (.fz d) a=.ok (a.set i (R (.fz d))):=W
theorem Ec(i:Int):T3 (.int i)=R i:=W
theorem zp(b:Bool):TL (.bool b)=R b:=W
theorem jT(ds:G D):dB [.tuple ds]=R (.fz (nd ds.length)):=W
theorem fq(ds:G D):dB [.list ds]=R (.fz (nd ds.length)):=W
theorem n6(i j:Int):Qz (.int i) (.int j)=R (.fz (.bool (decide (i<j)))):=W
theorem Jw(i j:Int):TB (.int i) (.int j)=R (.fz (.bool (decide (i<=j)))):=W
theorem wG(i j:Int):Lf (.int i) (.int j)=R (.fz (.bool (decide (j<i)))):=W
theorem z6(i j:Int):S4 (.int i) (.int j)=R (.fz (.bool (decide (j<=i)))):=W
theorem gw(i j:Int):dM (.int i) (.int j)=R (.fz (.int (i+j))):=W
theorem vg(i j:Int):vR (.int i) (.int j)=R (.fz (.int (i - j))):=W
def tZ(h:0<j):qC (.int i) (.int j)=R (.fz (.int (i % j))):=by show(if Py i j=P then _ else _)=_;rw[av (show Py i j=P from aP h)]
def Hg(h:0<j/\j<2^128):Gh (.int i) (.int j)=R (.fz (.int (i/j))):=by show(if QB i j=P then _ else _)=_;rw[av (show QB i j=P from aP h)]
def Nr(h: -(2^64)<i/\i<2^64):BS (.int i) (.int j)=R (.fz (.int (i*j))):=by show(if(iE i||iE j)=P then _ else _)=_;rw[av (by rw[show iE i=P from aP h,YB])]
def Nb(h: -(2^64)<j/\j<2^64):BS (.int i) (.int j)=R (.fz (.int (i*j))):=by show(if(iE i||iE j)=P then _ else _)=_;rw[av (by rw[show iE j=P from aP h,aap])]
def M7(h:mV j):lm [.int j]=R (hW 0 j.toNat):=by show(if mV j then _ else _)=_;rw[av h]
def J5(n:Nat):hW 0 n=cb (Vc n):=by unfold hW cb;apply Zh;intro k _;rw[Int.zero_add]
def ku(h:n<=1000000):lm [nd n]=R (cb (Vc n)):=by rw[M7 (by ext mV;ext),J5,Wl]
def IJ(h:f C=.ok (.nx o)):bN f g C=g o:=by ext bN;rw[h];rfl
def Ha(h:f o=.ok (.rt C)):bN f g o=.ok (.rt C):=by ext bN;rw[h];rfl
def TX(h:c C=.ok (P,o)):lz c f g C=f o:=by ext lz;rw[h];rfl
def TC(h:c C=.ok (U0,o)):lz c f g C=g o:=by ext lz;rw[h];rfl
def B6(h:J C=.ok (ds,o)):rA J gt b C=su gt b ds o:=by ext rA;rw[h];rfl
def PM(h:j<=1000000/\i.natAbs<2^64):Mv (.int i) (nd j)=R (.fz (.int (i^j))):=by show(if zc i (j:Int)=P then R (RV.fz (.int (i^((j:Nat):Int).toNat)))else S)=_;rw[av (by ext zc;show aP #[by ext,by ext,h.2]),Wl]
theorem NG:Mv (.int 10) (.int 18)=R (.fz (.int (10^18))):=PM #[by decide,by decide]
def mj(gt:FG)(f:FT)(g:FE)(d:D)(c:bA):Res (I D×bA):=(gt (.fz d) c).bind λe=>(f e).bind λb=>if b.1=P then(g b.2).bind λa=>(Res.V4 (zn a.2 a.1)).bind λx=>.ok (R x.1,dY x.2)else .ok (S,dY b.2)
def uS(h:mj gt U fe d J=.ok (o,C))(g:acc.length<1000000):eX gt U fe (d::r) J acc=eX gt U fe r C (acc++o.toList):=by
 unfold mj at h;show(gt (.fz d) J).bind _=_;cases l:gt (.fz d) J with
 |er x=>rw[l]at h;ext h
 |bad=>rw[l]at h;ext h
 |ok f=>
  rw[l,ey]at h;rw[ey];cases j:U f with
  |er x=>rw[j]at h;ext h
  |bad=>rw[j]at h;ext h
  |ok b=>
   let(b,e):=b;rw[j,ey]at h;rw[ey];cases b with
   |false=>rw[ax Vg]at h⊢;ext h;rw[aee,Vz]
   |true=>
    rw[av W]at h⊢;cases i:fe e with
    |er x=>rw[i]at h;ext h
    |bad=>rw[i]at h;ext h
    |ok a=>
     rw[i,ey]at h;rw[ey];cases m:zn a.2 a.1 with
     |none=>rw[m]at h;ext h
     |some x=>rw[m]at h;ext h;show(if acc.length<1000000 then _ else _)=_;rw[av g];rfl
def Nz(c:Nat)(h:c<=1000):QR (.int 1) (nd c)=R (.fz (nd (2^c))):=by show(if zc 1 (c:Int)=P then R (RV.fz (.int (1*2^((c:Nat):Int).toNat)))else S)=_;rw[av (by ext zc;show aP #[by ext,by ext,by decide]),Int.one_mul,Wl];congr 3
def OX(a b:Nat):decide ((a:Int)=(b:Int))=decide (a=b):=by
 by_cases h:a=b
 .rw[aP h,aP (by rw[h])]
 .rw[a4 h,a4 ()]
theorem G9(a b:Nat):UU.eqv (nd a) (nd b)=decide (a=b):=OX a b
def iL(a b:Int):cY (.int a) (.int b)=R (.fz (.bool (decide (a=b)))):=by rfl
def xp(a b:Int):nj (.int a) (.int b)=R (.fz (.bool (!decide (a=b)))):=by rfl
theorem oQ:∀ns:G Nat,UU.canLayAll0 (cb ns)=P
 |[]=>rfl
 |n::r=>by show(UU.canLay0 (nd n)&&UU.canLayAll0 (cb r))=P;rw[oQ r];rfl
theorem tm:∀ns:G Nat,UU.depthAll (cb ns)=0
 |[]=>rfl
 |n::r=>by show max (UU.depth (nd n)) (UU.depthAll (cb r))=0;rw[tm r];rfl
theorem DJ:∀xs ys:G Nat,UU.eqvAll (cb xs) (cb ys)=decide (xs=ys)
 |[],[]=>rfl
 |[],_::_=>rfl
 |_::_,[]=>rfl
 |n::r,m::t=>by show(UU.eqv (nd n) (nd m)&&UU.eqvAll (cb r) (cb t))=_;rw[DJ r t,G9];rw[aci];simp
def Pr(a:G Nat):lj (.list (cb a))=P:=by show(UU.canLayAll0 (cb a)&&decide (UU.depthAll (cb a)+1<=64))=P;rw[oQ,tm];rfl
def xX(xs a:G Nat):cY (.list (cb xs)) (.list (cb a))=R (.fz (.bool (decide (xs=a)))):=by ext cY;rw[Pr,show UU.canLay0 (.list (cb a))=P from oQ a,WC,av W,show UU.eqv (.list (cb xs)) (.list (cb a))=_ from DJ xs a]
def MM(x:Nat)(xs:G Nat):((cb xs).any λe=>UU.eqv e (nd x))=decide (x∈xs):=by
 induction xs with
 |nil=>rfl
 |cons y r a=>
  show(UU.eqv (nd y) (nd x)||(cb r).any λe=>UU.eqv e (nd x))=_;rw[a,G9];by_cases h:y=x
  .rw[aP h,aP (show x∈y::r by rw[h];show U5),YB]
  .rw[a4 h,ZW]
   by_cases g:x∈r
   .rw[aP g,aP (U6 _ g)]
   .rw[a4 g,a4 (λz=>(Vm.mp z).elim (λe=>h e.symm) g)]
def xO(x:Nat)(xs:G Nat):Gp (nd x) (.tuple (cb xs))=R (.fz (.bool (decide (x∈xs)))):=by show(if(lj (nd x)&&UU.canLayAll0 (cb xs))=P then _ else _)=_;rw[oQ,show lj (nd x)=P from rfl,WC,av W,MM]
theorem He{i:Nat}(h:xs[i]?=R v):lA xs (i:Int)=R v:=CS h
def HD(h:ds[i]?=R d):bE (.tuple ds) (nd i)=R (.fz d):=by show(lA ds (i:Int)).map RV.fz=_;rw[He h];rfl
def Ex(h:ds[i]?=R d):bE (.list ds) (nd i)=R (.fz d):=by show(lA ds (i:Int)).map RV.fz=_;rw[He h];rfl
section
variable{Y ρ1 X U:bA}{Q fb E T:FE}{pa L pv:PV}{dx J d:D}{rv:RV}{N:bg PV}{ds:bg D}
def ag(h:Y[i]?=R (R (.fz d))):ae i Y=.ok (.fz d,Y):=by rw[Bi,h,G2]
def kS(h:Y[i]?=R (R (.ow ds))):ae i Y=.ok (.pl i,Y):=by rw[Bi,h,GP]
theorem aG:pC d Y=.ok (.fz d,Y):=W
def aN(c:Q Y=.ok (pa,ρ1))(g:fb ρ1=.ok (L,X))(b:A8 X (eF pa)=R dx)(a:A8 X L=R J)(e:f dx J=R rv):aY f Q fb Y=.ok (rv.pv,X):=by ext aY;rw[c,ey,g,ey,b,bz,ey,a,bz,ey,e,bz,ey]
def C9(c:Q Y=.ok (pa,ρ1))(a:A8 ρ1 pa=R dx)(b:f dx=R rv):FQ f Q Y=.ok (rv.pv,ρ1):=by ext FQ;rw[c,ey,a,bz,ey,b,bz,ey]
def bX(c:Q Y=.ok (pa,ρ1))(a:A8 ρ1 pa=R (.bool b)):a8 Q Y=.ok (b,ρ1):=by ext a8;rw[c,ey,a,bz,ey,zp,bz,ey]
def pA(c:f Y=.ok (a,ρ1))(e:a=P->g ρ1=.ok (b,ρ1)):xc f g Y=.ok (a&&b,ρ1):=by
 ext xc;rw[c,ey];cases a with
 |true=>rw[av W,e W,YW]
 |false=>rw[ax Vg,Yy]
def Jy(c:f Y=.ok (a,ρ1))(e:a=U0->g ρ1=.ok (b,ρ1)):Qk f g Y=.ok (a||b,ρ1):=by
 ext Qk;rw[c,ey];cases a with
 |true=>rw[av W,YB]
 |false=>rw[ax Vg,e W,ZW]
def xo(c:a8 Q Y=.ok (a,ρ1))(e:a=P->fb ρ1=.ok (.fz (.bool b),ρ1)):Hl Q fb Y=.ok (.fz (.bool (a&&b)),ρ1):=by
 ext Hl;rw[c,ey];cases a with
 |true=>rw[av W,e W,YW]
 |false=>rw[ax Vg,Yy]
theorem aM:aD Y=.ok ([],Y):=W
def aj(b:Q Y=.ok (pa,ρ1))(a:fr ρ1=.ok (N,X)):af Q fr Y=.ok (eF pa::N,X):=by ext af;rw[b,ey,a,ey]
def gI(b:fr Y=.ok (N,ρ1))(hd:zU ρ1 N=R ds)(a:f ds=R rv):jW f fr Y=.ok (rv.pv,ρ1):=by ext jW;rw[b,ey,hd,bz,ey,a,bz,ey]
def bS(c:fr Y=.ok (N,ρ1))(hd:rZ ρ1 N=R (ds,X))(b:ds.length=n)(a:F ds=.ok rv):db F n fr Y=.ok (rv.pv,X):=by ext db;rw[c,ey,hd,bz,ey];dsimp only;rw[av b,a,AU,ey]
def c9(b:fr Y=.ok (N,ρ1))(hd:rZ ρ1 N=R (ds,X))(a:ds.length<=1000):bZ fr Y=.ok (.fz (.tuple ds),X):=by ext bZ;rw[b,ey,hd,bz,ey];dsimp only;rw[av a]
def ro(b:fr Y=.ok (N,ρ1))(hd:rZ ρ1 N=R (ds,X))(a:ds.length<=1000):dh fr Y=.ok (.ow ds,X):=by ext dh;rw[b,ey,hd,bz,ey];dsimp only;rw[av a]
theorem p7:wv Y=.ok (S,Y):=W
def pi(b:Q Y=.ok (pa,ρ1))(a:A8 ρ1 pa=R (.int i)):ve Q Y=.ok (R i,ρ1):=by ext ve;rw[b,ey,a,bz,ey,Ec,bz,ey]
def Dq(c:Q Y=.ok (pa,ρ1))(b:C ρ1=.ok (lo,X))(e:fh X=.ok (o,U))(a:A8 U (eF pa)=R dx)(g:f dx lo o=R rv):Pm f Q C fh Y=.ok (rv.pv,U):=by ext Pm;rw[c,ey,b,ey,e,ey,a,bz,ey,g,bz,ey]
def xF(h0:Y[i]?=R (R (.ow o)))(c:T Y=.ok (pa,ρ1))(b:zn ρ1 pa=R (d,X))(f:X[i]?=R (R (.ow ds)))(e:ds.length<1000000)(a:X.set i (R (.ow (ds++[d])))=x):Bf i T Y=.ok (.fz .none,x):=by ext Bf;rw[h0,qW,bz,ey,c,ey,b,bz,ey];dsimp only;rw[f,qW,bz,ey,av e,a]
def gW(c:fi Y=.ok (ds,ρ1))(b:v5 ρ1 o=R (cs,X))(a:nW (eX gt C T ds (U8 n S++cs.map λd=>R (.fz d)) [])=.ok xs):iC n o fi gt C T Y=.ok (.ow xs,X):=by ext iC;rw[c,ey];dsimp only;rw[b,bz,ey];dsimp only;rw[a,ey]
theorem io:bE (.tuple (a::r)) (.int 0)=R (.fz a):=HD W
theorem jo:bE (.tuple (a::b::r)) (.int 1)=R (.fz b):=HD W
theorem u9:bE (.tuple (a::b::c::r)) (.int 2)=R (.fz c):=HD W
def QD(a:k<=1000)(b:xs.length<=1000):BS (.list xs) (nd k)=R (.ow (U8 k xs).flatten):=by show(if xs.length*((k:Nat):Int).toNat<=1000000/\ -(2^63)<=(k:Int)/\(k:Int)<2^63 then R (RV.ow (U8 ((k:Nat):Int).toNat xs).flatten)else S)=_;rw[Wl,av #[VT (aa3 b a) (),by ext,by ext]]
def mW(c:T Y=.ok (pa,ρ1))(a:zn ρ1 pa=R (d,X))(b:fY d=R o):lw T Y=.ok (o,X):=by ext lw;rw[c,ey,a,bz,ey];dsimp only;rw[b,bz,ey]
def Lx(b:fr Y=.ok (N,ρ1))(hd:zU ρ1 N=R ds)(a:f ds=R o):r8 f fr Y=.ok (o,ρ1):=by ext r8;rw[b,ey,hd,bz,ey,a,bz,ey]
def Cp(b:T Y=.ok (pv,ρ1))(a:g pv ρ1=.ok X)(c:X=U):gc T g Y=.ok (.nx U):=by ext gc;rw[b,ey];dsimp only;rw[a,ey,c]
def Ep(a:T Y=.ok (pv,ρ1)):rL T Y=.ok (.nx ρ1):=by ext rL;rw[a,ey]
def yP(b:T Y=.ok (pv,ρ1))(a:F5 ρ1 pv=R rv):dH T Y=.ok (.rt rv):=by ext dH;rw[b,ey];dsimp only;rw[a,bz,ey]
def MD(e:gt (.fz d) Y=.ok ρ1)(b:ft ρ1=.ok (P,X))(g:T X=.ok (pv,U))(a:zn U pv=R (x,C))(f:dY C=o):mj gt ft T d Y=.ok (R x,o):=by ext mj;rw[e,ey,b,ey,av W,g,ey,a,bz,ey,f]
def Sy(b:gt (.fz d) Y=.ok ρ1)(a:C ρ1=.ok (U0,X))(e:dY X=o):mj gt C T d Y=.ok (S,o):=by ext mj;rw[b,ey,a,ey,ax Vg,e]
end
end L3
namespace PySem
open Sem (wp)
open Builtin
open AutoSeq1 (wpAny_loadPart')
theorem qK:fillsNumberSlot (.type "tuple") "mul"=pure U0:=
 fillsNumberSlot_seq F.slot_tuple_mul.lookup (by left) F.slot_tuple_rmul.lookup (by left)
def yE:seqRepeat? (.type "tuple")=pure (R (.builtin "tuple.__mul__")):=by unfold seqRepeat?;rw[seqSlot_of (name:= "__mul__") F.slot_tuple_mul.lookup (by left),seqSlot_of (name:= "__rmul__") F.slot_tuple_rmul.lookup (by left)];rfl
theorem uu(a:Int)(t:Tok)(l:M)(items:Array B)(n:Nat)(dct:I M)(e:Array (I B)):
  Meets (Builtin.«int.__rmul__» #[[.int a t,.ref l],[]]) (λ_ R s=>s.heap.get? l=lD {cls:=.type "tuple",dict:=dct,data:=.seq items n,slots:=e}/\R (.ok (.ret UQ.notImplemented)) s):=
 .of_wp λb w A R s h=>by let(j,g,d,f,i):=s;let(m,h):=h;wp_walk;show#[_,W,h]
theorem Au(l:M)(items:Array B)(n:Nat)(dct:I M)(b:Array (I B))(u:Tok):
  Meets (Builtin.«tuple.__mul__» #[[.ref l,.int 1 u],[]]) (λ_ R s=>s.heap.get? l=lD {cls:=.type "tuple",dict:=dct,data:=.seq items n,slots:=b}/\R (.ok (.ret (UQ.ref l))) s):=
 .of_wp λa w A R s h=>by
  let(i,g,d,e,f):=s;let(j,h):=h
  wp_walk
  show#[_,W,h]
theorem AX(l:M)(items:Array UQ)(n:Nat)(dct:br M)(i:Array (br UQ))(x:Int)(u:Tok)(G:2<=x)(J:x<=1000)(a:items.isEmpty=U0)(D:items.size<=1000):
  Meets (Builtin.«tuple.__mul__» #[[.ref l,.int x u],[]]) (λ_ R s=>s.heap.get? l=lD {cls:=.type "tuple",dict:=dct,data:=.seq items n,slots:=i}/\R (.ok (.ret (UQ.ref s.heap.objs.size))) {s with heap:=s.heap.push {cls:=UQ.type "tuple",data:=Data.seq (aan (λk c=>k++c) #v[] (U8 x.toNat items))},toks:=s.toks}):=
 .of_wp λe w A R s h=>by
  let(E,g,d,B,C):=s;let(p,h):=h;let z:¬(decide (x< -(2^63))||decide (x≥2^63))=P:=by simp;ext
  let y:(x==1)=U0:=by simp;ext
  let v:decide (x<=0)=U0:=by simp;ext
  let I:(items.isEmpty||x==1)=U0:=by rw[a,y];rfl
  let H:(decide (x<=0)||items.isEmpty)=U0:=by rw[a,v];rfl
  let f:(items.size:Int)*x<=1000000:=by let:(items.size:Int)*x<=1000*1000:=Int.mul_le_mul () J () ();ext
  let t:¬(items.size:Int)*x>(2^63 - 1)/8:=by ext
  let r:¬Tuple.tupleTooMany ((items.size:Int)*x)=P:=by
   ext Tuple.tupleTooMany;simp;let:(Vb:Nat)=16777216:=by decide
   ext
  wp_walk
  rw[ax z]
  wp_walk using wpAny_loadPart' p
  rw[ax t];dsimp only;rw[ax r];let o:(aan (λk c=>k++c) #v[] (U8 x.toNat items)).size<=Vb:=by
   let q:∀(m:Nat) (b:Array UQ),(aan (λk c=>k++c) b (U8 m items)).size=b.size+m*items.size:=by
    intro m
    induction m with
    |zero=>intro b;simp
    |succ m j=>intro b;rw[Wc,Za,j,Array.size_append,ah7];ext
   rw[q];let F:x.toNat*items.size<=1000*1000:=aa3 () D;let:(Vb:Nat)=16777216:=by decide
   simp;ext
  wp_walk
  show#[_,W,h]
end PySem
namespace L3
open PySem PySem.Spec PyProof.Rows L2
def Ov(K:UN):R2:=λx y H Q=>∃(a:M) (k:Nat) (xs:G V),x=.ref a/\y=.int (k:Int)/\Zw K H a xs/\xs≠[]/\1<=k/\k<=1000/\xs.length<=1000/\
 (k=1->Q (.ref a) H)/\(2<=k->∀p,H p=S->Q (.ref p) (bJ H p (.tup (U8 k xs).flatten)))
def MJ:OpR X (WT .Mult) (Ov X.K):=by
 intro i s P H x y v u Q I B A h;let(a,k,xs,rfl,rfl,G,g,U,N,L,E,C):=h;ext B;let(t,rfl):=A;let(e,r,J,T):=I.tuple G;let((cls,dd,o,f),d,m,n,l):=id J;simp only at m l;subst m l;let j:=r.length;show aec () #[_,d,W] (λz=>ab7 z k t) qK F.fills_int_mul F.slot_int_rmul yE F.slot_int_index.lookup
  (aaa F.slot_int_rmul (ab7 s k t) F.entry_int_rmul (F.args_int_rmul_2 _ _) (uu k t a e.toArray n dd f) #[d,W,#[_,d,W],?_])
 by_cases M:k=1
 .subst M;show aaa F.slot_tuple_mul #[_,d,W] F.entry_tuple_mul (F.args_tuple_mul_2 _ _) (Au a e.toArray n dd f t) #[d,#[.ref a,H,I,W,E W]]
 .show aaa F.slot_tuple_mul #[_,d,W] F.entry_tuple_mul (F.args_tuple_mul_2 _ _) (AX a e.toArray n dd f k t () () ?_ (by rw[Va];ext)) #[d,?_]
  .cases e with
   |nil=>ext r;show a6 W g
   |cons y R=>rfl
  .let O:aan (λw p=>w++p) #v[] (U8 ((k:Nat):Int).toNat e.toArray)=(U8 k e).flatten.toArray:=by
    let:=ra e k [];rw[ach]at this;rw[Wl];show this
   rw[O];show#[.ref s.heap.objs.size,_,I.laid (λb S q=>bP _ q) (U1 _) ?_,W,C () _ (I.Wn.fresh (U1 _))];show#[?_,_,r.rep k,abF.new _ _];rw[D2];show VT (aa3 N L) ()
def On(K:UN):R2:=λx y H Q=>Hd K x y H Q\/Ov K x y H Q
theorem DA:OpR X (WT .Mult) (On X.K):=OpR.or Ng MJ
def jf:D->D->I RV
 |.tuple xs,.int k=>if xs≠[]/\1<=k/\k<=1000/\xs.length<=1000 then R (.fz (.tuple (U8 k.toNat xs).flatten))else S
 |d,e=>BS d e
def Ay{K:UN}:nO K (On K) jf:=by
 intro O H x y o j l Q n f d e q;unfold jf at e;split at e
 .rename_i ds k
  split at e
  .rename_i g
   ext e;ext d;let(a,xs,rfl,h,b):=Ce f;obtain⟨m,rfl⟩:∃m:Nat,k=(m:Int):=#[k.toNat,by ext];rw[Wl]at q;show .inr #[a,m,xs,W,W,h.1,λz=>g.1 (b.ne.mp z),by ext,by ext,by rw[b.length];show g.2.2.2,λe=>?_,λ_=>Fin.aeA (b.flat m) n q];subst e;let i:(U8 1 ds).flatten=ds:=by simp
   rw[i]at q;show q.at (.tup h b)
  .ext e
 .show .inl (ML O H x y o j l Q n f d e q)
theorem zS(i j:Int):jf (.int i) (.int j)=BS (.int i) (.int j):=W
theorem pN(h: -(2^64)<i/\i<2^64):jf (.int i) (.int j)=R (.fz (.int (i*j))):=(zS i j).trans (Nr h)
theorem GU(h: -(2^64)<j/\j<2^64):jf (.int i) (.int j)=R (.fz (.int (i*j))):=(zS i j).trans (Nb h)
end L3
namespace PySem
open Sem (wp)
open Builtin Builtin.Str
def itAt:Bool->Heap->M->M->Nat->Prop
 |true,h,it,a,i=>h.IsTupleIter it a i
 |false,h,it,a,i=>h.IsListIter it a i
def sqAt:Bool->Heap->M->Array B->Prop
 |true,h,a,xs=>h.IsTuple a xs
 |false,h,a,xs=>h.IsList a xs
def Ao:Bool->String
 |true=> "tuple_iterator"
 |false=> "list_iterator"
def itAt.ext(x:itAt b h it a i)(e:Heap.ExtBut c h h')(n:it≠c):itAt b h' it a i:=by
 cases b with
 |true=>show Heap.IsTupleIter.extBut x e n
 |false=>show Heap.IsListIter.extBut x e n
def itAt.to(x:itAt b h it a i)(e:∀o,h.get? it=R o->h'.get? it=R o):itAt b h' it a i:=by
 cases b with
 |true=>show Heap.IsTupleIter.at x e
 |false=>show Heap.IsListIter.at x e
def itAt.live(x:itAt b h it a i):∃o,h.get? it=R o/\∀v,o.data≠.cell v:=by
 cases b with
 |true=>let(o,e,_,d):=(show h.IsTupleIter it a i from x);show#[o,e,λv z=>by rw[d]at z;ext z]
 |false=>let(o,e,_,d):=(show h.IsListIter it a i from x);show#[o,e,λv z=>by rw[d]at z;ext z]
def sqAt.ext(x:sqAt b h a xs)(e:Heap.ExtBut c h h')(n:a≠c):sqAt b h' a xs:=by
 cases b with
 |true=>show Heap.IsTuple.extBut x e n
 |false=>show Heap.IsList.extBut x e n
def sqAt.psh(x:sqAt b h a xs)(o:Obj):sqAt b (h.push o) a xs:=by
 cases b with
 |true=>show Heap.IsTuple.push x o
 |false=>show Heap.IsList.push x o
def sqAt.lt(x:sqAt b h a xs):a<h.objs.size:=by
 cases b with
 |true=>let(o,e,_):=(show h.IsTuple a xs from x);show cn e
 |false=>let(o,e,_):=(show h.IsList a xs from x);show cn e
section
variable{prog:Vn}{w:VJ}{A:Vx}{E:UQ->UY->Prop}{s:UY}
def xV(e:itAt b s.heap it l i)(d:sqAt b s.heap l xs)(a:xs[i]?=R x)
  (q:∀c,itAt b c it l (i+1)->Heap.SameBut it s.heap c->Q x {s with heap:=c}):wpAny (model prog w) A (SmallTypes.nextOf (.ref it)) Q E s:=by
 cases b with
 |true=>show pJ e d a q
 |false=>show wpAny_nextOf_list_item e d a q
def CT(f:A.handled=S)(g:itAt b s.heap it l i)(d:sqAt b s.heap l xs)(a:xs[i]?=S)
  (q:∀c e,Heap.ExtBut it s.heap c->(∃o,c.get? e=R o/\o.cls=.type "StopIteration")->E (.ref e) {s with heap:=c}):wpAny (model prog w) A (SmallTypes.nextOf (.ref it)) Q E s:=by
 cases b with
 |true=>show qO f g d a q
 |false=>show wpAny_nextOf_list_end f g d a q
def DR(a:sqAt b s.heap l xs)
  (q:Q (.ref s.heap.objs.size) {s with heap:=s.heap.push {cls:=.type (Ao b),data:=.fields #v[.ref l,.int 0 0]}}):wpAny (model prog w) A (pyIter (.ref l)) Q E s:=by
 cases b with
 |true=>show abk a q
 |false=>show XW a q
def FK{Q:UQ->UY->Prop}(D:acr z TI TO i1 i2 l1 l2)(V:adI s.heap z TI TO .none)
  (hTI:IsPair s.heap TI (.ref i1) (.ref i2)) (hTO:IsPair s.heap TO a b) (h1:itAt b1 s.heap i1 l1 n) (h2:itAt b2 s.heap i2 l2 n) (hl1:sqAt b1 s.heap l1 xs) (Z:sqAt b2 s.heap l2 ys) (hx:xs[n]?=lD x) (hy:ys[n]?=lD y)
  (q:∀k,adI k z TI TO (rawInt s.heap.objs.size)->IsPair k TO x y->itAt b1 k i1 l1 (n+1)->itAt b2 k i2 l2 (n+1)->IsPair k s.heap.objs.size x y->k.objs.size=s.heap.objs.size+1->
   (∀c o,c≠z->c≠TO->c≠i1->c≠i2->s.heap.get? c=lD o->k.get? c=lD o)->Q (.ref s.heap.objs.size) {s with heap:=k}):
  wpAny (model prog w) A (Builtin.«zip.__next__» #[[.ref z],[]]) (λfin s'=>∃v,fin=.done (.ret v)/\Q v s') E s:=by
 show wpAny _ _ (field (.ref z) 2>>=_) _ _ _;show Ld (VZ V W W ?_);show wpAny _ _ (field (.ref z) 3>>=_) _ _ _;show Ld (VZ V W W ?_);show Ld (Wj hTI W ?_);show wpAny _ _ (SmallTypes.ownedTupleIsFree (.ref z)>>=_) _ _ _;show Ld ?_;ext SmallTypes.ownedTupleIsFree;show Ld (VZ V W W (UT ?_));simp only[if_true];show Ld (aa2 ?_);show Ld (VZ V W W ?_);show Ld (X0 V (by simp) λk₁ r f=>?_);let agd:=r;clear r;show Ld ?_;simp only[afy,afP,Zb,aaT];show Ld (Ld (abZ ?_));show wpAny _ _ (SmallTypes.nextOf (.ref i1)>>=_) _ _ _;show Ld (xV (h1.ext f.extBut D.i1z) (hl1.ext f.extBut D.l1z) hx λk₂ X h=>UT ?_);let I:=h.extBut _ _ D.TOi1 (f.extBut _ _ D.TOz hTO);show Ld (Wj I W ?_);show Ld (aby I λk₃ H g=>?_);let L:=H;clear H;show Ld (Ym (UT ?_));show Ld (Ld (abZ ?_));show wpAny _ _ (SmallTypes.nextOf (.ref i2)>>=_) _ _ _;show Ld (xV (((h2.ext f.extBut D.i2z).ext h.extBut D.i12.symm).ext g.extBut D.TOi2.symm) (((Z.ext f.extBut D.l2z).ext h.extBut D.l2i1).ext g.extBut D.l2TO) hy λk₄ U j=>UT ?_);let G:=j.extBut _ _ D.TOi2 L;show Ld (Wj G W ?_);show Ld (aby G λd F i=>?_);let m:IsPair d TO x y:=F;clear F;show Ld (Ym (UT (UT ?_)));show Ld (Wj m W ?_);show Ld (wpAny_newTuple ?_);let T:d.objs.size=s.heap.objs.size:=by rw[i.1,j.1,g.1,h.1,f.1]
 let B:=i.extBut _ _ D.TOz.symm (j.extBut _ _ D.i2z.symm (g.extBut _ _ D.TOz.symm (h.extBut _ _ D.i1z.symm agd)));let kp:∀c o,c≠z->c≠TO->c≠i1->c≠i2->s.heap.get? c=lD o->d.get? c=lD o:=λc o M Y c3 c4 e=>
  i.extBut _ _ Y (j.extBut _ _ c4 (g.extBut _ _ Y (h.extBut _ _ c3 (f.extBut _ _ M e))))
 let S:=((X.ext g.extBut D.TOi1.symm).ext j.extBut D.i12).ext i.extBut D.TOi1.symm;let R:=U.ext i.extBut D.TOi2.symm;let Y6:=cn B;show wpAny _ _ (SmallTypes.ownedTupleHandOut (.ref z) (.ref d.objs.size)>>=_) _ _ _;show Ld ?_;ext SmallTypes.ownedTupleHandOut;let P:adI (d.push {cls:=.type "tuple",data:=.seq #v[x,y]}) z TI TO .ellipsis:=bP _ B;show Ld (X0 P (by simp) λk₇ O u=>?_);let K:=O;show X0 K (by simp) λp N t=>?_;let l:=N;let up:∀c o,c≠z->d.get? c=lD o->p.get? c=lD o:=λc o M e=>t.extBut _ _ M (u.extBut _ _ M (bP _ e));let C:=t.extBut _ _ (Wd Y6) (u.extBut _ _ (Wd Y6) (cv _ W));let J:p.objs.size=d.objs.size+1:=by rw[t.1,u.1,dt]
 rw[T]at l C J;show UT #[_,W,?_];rw[T];show q p l (up _ _ D.TOz m) (S.to λo e=>up _ o D.i1z e) (R.to λo e=>up _ o D.i2z e) C J λc o M Y c3 c4 e=>up c o M (kp c o M Y c3 c4 e)
def JJ(S:A.handled=UO)(D:acr z TI TO i1 i2 l1 l2)(k:adI s.heap z TI TO .none)
  (L:IsPair s.heap TI (.ref i1) (.ref i2)) (K:IsPair s.heap TO a b) (T:itAt b1 s.heap i1 l1 n) (h2:itAt b2 s.heap i2 l2 n) (C:sqAt b1 s.heap l1 xs) (I:sqAt b2 s.heap l2 ys) (N:xs[n]?=UO\/ys[n]?=UO)
  (q:∀V e,(∀c o,c≠z->c≠TO->c≠i1->c≠i2->s.heap.get? c=lD o->V.get? c=lD o)->(∃o,V.get? e=lD o/\o.cls=.type "StopIteration")->E (.ref e) {s with heap:=V}):
  wpAny (model prog w) A (Builtin.«zip.__next__» #[[.ref z],[]]) Q E s:=by
 show wpAny _ _ (field (.ref z) 2>>=_) _ _ _;show Ld (VZ k W W ?_);show wpAny _ _ (field (.ref z) 3>>=_) _ _ _;show Ld (VZ k W W ?_);show Ld (Wj L W ?_);show wpAny _ _ (SmallTypes.ownedTupleIsFree (.ref z)>>=_) _ _ _;show Ld ?_;ext SmallTypes.ownedTupleIsFree;show Ld (VZ k W W (UT ?_));simp only[if_true];show Ld (aa2 ?_);show Ld (VZ k W W ?_);show Ld (X0 k (by simp) λR v d=>?_);let G:=v;show Ld ?_;simp only[afy,afP,Zb,aaT];show Ld (Ld (abZ ?_));show wpAny _ _ (SmallTypes.nextOf (.ref i1)>>=_) _ _ _;cases hx:xs[n]? with
 |none=>
  show Ld (CT S (T.ext d.extBut D.i1z) (C.ext d.extBut D.l1z) hx λB e f J=>?_);let(H,h,i):=J;let l:=f _ _ D.i1z.symm G;let ne:e≠z:=λt=>by subst t;rw[l]at h;ext h;simp at i
  show X0 l (by simp) λp _ g=>q p e (λc o F _ M _ t=>g.extBut _ _ F (f _ _ M (d.extBut _ _ F t))) #[H,g.extBut _ _ ne h,i]
 |some x=>
  let X:ys[n]?=UO:=by
   rcases N with t|t
   .rw[hx]at t;ext t
   .show t
  show Ld (xV (T.ext d.extBut D.i1z) (C.ext d.extBut D.l1z) hx λB U f=>UT ?_);let m:=f.extBut _ _ D.TOi1 (d.extBut _ _ D.TOz K);show Ld (Wj m W ?_);show Ld (aby m λp O g=>?_);show Ld (Ym (UT ?_));show Ld (Ld (abZ ?_));show wpAny _ _ (SmallTypes.nextOf (.ref i2)>>=_) _ _ _;show Ld (CT S (((h2.ext d.extBut D.i2z).ext f.extBut D.i12.symm).ext g.extBut D.TOi2.symm) (((I.ext d.extBut D.l2z).ext f.extBut D.l2i1).ext g.extBut D.l2TO) X λP e u J=>?_);let(H,h,i):=J;let j:=u _ _ D.i2z.symm (g.extBut _ _ D.TOz.symm (f.extBut _ _ D.i1z.symm G));let ne:e≠z:=λt=>by subst t;rw[j]at h;ext h;simp at i
  show X0 j (by simp) λy _ r=>q y e (λc o F Z M Y t=>r.extBut _ _ F (u _ _ Y (g.extBut _ _ Z (f.extBut _ _ M (d.extBut _ _ F t))))) #[H,r.extBut _ _ ne h,i]
end
section
variable{Y:Vn}{w:VJ}{A:Vx}{E:UQ->UY->Prop}{s:UY}
def Am(D:acr z TI TO J C l1 U)(L:adI s.heap z TI TO .none)
  (g:IsPair s.heap TI (.ref J) (.ref C)) (f:IsPair s.heap TO a b) (l:itAt b1 s.heap J l1 n) (N:itAt b2 s.heap C U n) (e:sqAt b1 s.heap l1 xs) (d:sqAt b2 s.heap U ys) (j:xs[n]?=R x) (i:ys[n]?=R y)
  (q:∀k,adI k z TI TO (rawInt s.heap.objs.size)->IsPair k TO x y->itAt b1 k J l1 (n+1)->itAt b2 k C U (n+1)->IsPair k s.heap.objs.size x y->k.objs.size=s.heap.objs.size+1->
   (∀c o,c≠z->c≠TO->c≠J->c≠C->s.heap.get? c=R o->k.get? c=R o)->Q (R (.ref s.heap.objs.size)) {s with heap:=k}):
  wpAny (model Y w) A (pyNext (.ref z)) Q E s:=by
 let h:s.TypeIs (.ref z) "zip":=#[_,L,W];ext pyNext;show Ld (amm (WB h F.slot_zip_next ?_));show WX F.slot_zip_next h F.entry_zip_next (FK D L g f l N e d j i λk B v u t r p m=>UT (q k B v u t r p m)) (F.args_zip_next_1 _)
def Aa(p:A.handled=S)(D:acr z TI TO J C l1 U)(v:adI s.heap z TI TO .none)
  (h:IsPair s.heap TI (.ref J) (.ref C)) (g:IsPair s.heap TO a b) (u:itAt b1 s.heap J l1 n) (x:itAt b2 s.heap C U n) (f:sqAt b1 s.heap l1 xs) (d:sqAt b2 s.heap U ys) (i:xs[n]?=S\/ys[n]?=S)
  (q:∀k,(∀c o,c≠z->c≠TO->c≠J->c≠C->s.heap.get? c=R o->k.get? c=R o)->Q S {s with heap:=k}):wpAny (model Y w) A (pyNext (.ref z)) Q E s:=by
 let j:s.TypeIs (.ref z) "zip":=#[_,v,W];ext pyNext;show Ld (amm (WB j F.slot_zip_next ?_));show WX F.slot_zip_next j F.entry_zip_next (JJ p D v h g u x f d i λk e m r=>?_) (F.args_zip_next_1 _);let(o,l,t):=r;show Ld (aaO #[o,l,t] isSubtype_stop (UT (q _ m)))
end
abbrev SR(h:Heap)(b:Bool)(a:M):Heap:=h.push {cls:=.type (Ao b),data:=.fields #v[.ref a,.int 0 0]}
abbrev Sv(h:Heap)(e d:Bool)(b a:M):Heap:=(SR h e b).push {cls:=.type (Ao d),data:=.fields #v[.ref a,.int 0 0]}
abbrev SS(h:Heap)(b e:Bool)(a d:M):Heap:=(Sv h b e a d).push {cls:=.type "tuple",data:=.seq #v[.ref h.objs.size,.ref (SR h b a).objs.size]}
abbrev Rq(h:Heap)(e d:Bool)(b a:M):Heap:=(SS h e d b a).push {cls:=.type "tuple",data:=.seq #v[.none,.none]}
abbrev T4(h:Heap)(e d:Bool)(b a:M):Heap:=(Rq h e d b a).push {cls:=.type "zip",data:=.fields #v[.none,.bool U0,.bool U0,.ref (Sv h e d b a).objs.size,.ref (SS h e d b a).objs.size]}
theorem t6(e f:Bool)(a b:M)(xs n:Array B):
  Meets (Builtin.«zip.__new__» #[[.type "zip",.ref a,.ref b],[]]) (λ_ R s=>sqAt e s.heap a xs/\sqAt f s.heap b n/\R (.ok (.ret (.ref (Rq s.heap e f a b).objs.size))) {s with heap:=T4 s.heap e f a b}):=
 .of_wp λp w A R s h=>by
  let(r,g,d,o,q):=s;let(j,i,h):=h;let t:=sub_zip;let m:sqAt e (UY.heap #[r,g,d,o,q]) a xs:=j;let l:sqAt f (UY.heap #[r.push {cls:=.type (Ao e),data:=.fields #v[.ref a,.int 0 0]},g,d,o,q]) b n:=sqAt.psh i _
  wp_walk using DR m,DR l
  show#[_,W,h]
section
variable{Y:Vn}{w:VJ}{A:Vx}{E:UQ->UY->Prop}{s:UY}
def Gx(e:h.get? it=R {cls:=.type (Ao b),data:=.fields #v[.ref l,.int 0 0]}):itAt b h it l 0:=by
 cases b with
 |true=>show#[_,e,W,W]
 |false=>show#[_,e,W,W]
def Fp(j:sqAt b1 s.heap l1 xs)(i:sqAt J s.heap C ys)
  (q:∀k,adI k (s.heap.objs.size+4) (s.heap.objs.size+2) (s.heap.objs.size+3) .none->IsPair k (s.heap.objs.size+2) (.ref s.heap.objs.size) (.ref (s.heap.objs.size+1))->
   IsPair k (s.heap.objs.size+3) .none .none->itAt b1 k s.heap.objs.size l1 0->itAt J k (s.heap.objs.size+1) C 0->(∀c o,s.heap.get? c=R o->k.get? c=R o)->Q (.ref (s.heap.objs.size+4)) {s with heap:=k}):
  wpAny (model Y w) A (call (.type "zip") [.ref l1,.ref C]) Q E s:=by
 show callType_new F.called_zip () (F.typeCall_zip_2 _ _) (F.newCall_zip_2 _ _) (λobj=>F.args_object_init_3 obj _ _) F.entry_zip_new (t6 b1 J l1 C xs ys) #[j,i,?_];let h:(SR s.heap b1 l1).objs.size=s.heap.objs.size+1:=dt ..;let g:(Sv s.heap b1 J l1 C).objs.size=s.heap.objs.size+2:=by rw[dt,h]
 let f:(SS s.heap b1 J l1 C).objs.size=s.heap.objs.size+3:=by rw[dt,g]
 let n:(Rq s.heap b1 J l1 C).objs.size=s.heap.objs.size+4:=by rw[dt,f]
 let u:∀c o,s.heap.get? c=R o->(SR s.heap b1 l1).get? c=R o:=λc o e=>bP _ e;let m:∀c o,(SR s.heap b1 l1).get? c=R o->(Sv s.heap b1 J l1 C).get? c=R o:=λc o e=>bP _ e;let d:∀c o,(Sv s.heap b1 J l1 C).get? c=R o->(SS s.heap b1 J l1 C).get? c=R o:=λc o e=>bP _ e;let b:∀c o,(SS s.heap b1 J l1 C).get? c=R o->(Rq s.heap b1 J l1 C).get? c=R o:=λc o e=>bP _ e;let a:∀c o,(Rq s.heap b1 J l1 C).get? c=R o->(T4 s.heap b1 J l1 C).get? c=R o:=λc o e=>bP _ e;let l:(T4 s.heap b1 J l1 C).get? (Rq s.heap b1 J l1 C).objs.size=R _:=cv _ W;let p:=a _ _ (cv _ W);let r:=a _ _ (b _ _ (cv _ W));let t:=a _ _ (b _ _ (d _ _ (cv _ W)));let v:=a _ _ (b _ _ (d _ _ (m _ _ (cv _ W))));rw[g,f,n]at l;rw[h,g]at r;rw[f]at p;rw[h]at t;rw[n];show#[#[_,l,W],q _ l r p (Gx v) (Gx t) λc o e=>a _ _ (b _ _ (d _ _ (m _ _ (u _ _ e))))]
end
end PySem
namespace L3
open PySem PySem.Spec PyProof.Rows L2
def Gm(b:Bool)(K:UN)(H:Hp)(a:M)(xs:G V):Prop:=match b with
 |true=>Zw K H a xs
 |false=>Y4 K H a xs
def TW(K:UN)(d b:Bool)(a c:M):It:=
 #[λi H=>∃xs ys x y,Gm d K H a xs/\Gm b K H c ys/\xs[i]?=R x/\ys[i]?=R y,
  λi H v e=>∃p x y,H p=S/\v=.ref p/\(∀xs,Gm d K H a xs->xs[i]?=R x)/\(∀ys,Gm b K H c ys->ys[i]?=R y)/\e=bJ H p (.tup [x,y]),
  λi H=>∃xs ys,Gm d K H a xs/\Gm b K H c ys/\(xs.length<=i\/ys.length<=i)]
def No(I:Inv X pins σ H s)(h:Y4 X.K H a xs)(c:Y4 X.K H a ys):xs=ys:=by
 let(e,g,(o,k,i,_,n,l),_):=I.list h;let(b,f,(m,r,d,_,p,j),_):=I.list c;rw[i]at d;ext d;let:e=b:=by
  let q:e.toArray=b.toArray:=by injection l.symm.trans j
  simpa using q
 subst this;show g.inj f
def qz(I:Inv X pins σ H s)(h:Gm b X.K H a xs):∃c,Vals xs c/\sqAt b s.heap a c.toArray:=by
 cases b with
 |true=>let(c,e,p,d):=I.tuple h;show#[c,e,p]
 |false=>let(c,e,p,d):=I.list h;show#[c,e,p.isList]
def De(I:Inv X pins σ H s)(d:Gm b X.K H a xs)(c:Gm b X.K H a ys):xs=ys:=by
 cases b with
 |true=>show M8 I d c
 |false=>show No I d c
def F0{ch:G M}(I:Inv X pins σ H s)(f:∀b∈ch,oZ X pins H b)
  (k:∀b u,b∉ch->s.heap.get? b=R u->C.get? b=R u):Inv X pins σ H {s with heap:=C,toks:=J}:=by
 let d:∀b u,H b=R u->b∉ch:=λb u e z=>by rw[(f b z).1]at e;ext e
 show I.step (λb i=>?_) (λb u _ _ a e _=>k b u a e) (λb u _ _ a e _=>#[u.slots,k b u a e]) (λ_ _ _ _ n=>n)
  (λb u a e=>#[u,k b u a e]) (λ_ _ e=>e) (λ_ _ _ e=>e) (λb y e=>#[#v[],by rw[e];simp]) (λm hm=>?_) (λb u e=>?_) I.bare
 .let(_,p,_,o,l,j):=f b i;show#[o,p,l,j]
 .let(g,t,w,h,r):=hm;show#[g,t,w,k _ g (λz=>(f _ z).2.1 W) h,r]
 .show(I.Wn b u e).aaf (λc v a q=>k c v ?_ q) (λ_ q=>q) λ_ _ q=>q
  rcases a with z|z
  .rw[z];show d b u e
  .show d c _ z
theorem IH{K:UN}{V}(b1 b2:Bool)(z TI TO B A T S:UX)(D:acr z TI TO B A T S):
  Turn Pz0 w K (.Tuple elts V tp) (TW K b1 b2 T S) [z,TI,TO,B,A] z (λi h=>adI h z TI TO .none/\IsPair h TI (.ref B) (.ref A)/\(∃a b,IsPair h TO a b)/\itAt b1 h B T i/\itAt b2 h A S i) where
 mem:=by simp
 obj:=λi h e b d=>by
  let(l,g,(a,c,m),r,p):=e;simp only[Vm,Ww,or_false]at d;rcases d with rfl|rfl|rfl|rfl|rfl
  .show#[_,l,λv q=>by cases(show Data.fields _=Data.cell v from q)]
  .show#[_,g,λv q=>by cases(show Data.seq _ _=Data.cell v from q)]
  .show#[_,m,λv q=>by cases(show Data.seq _ _=Data.cell v from q)]
  .show r.live
  .show p.live
 keep:=λi h h' e k=>by let(l,g,(a,c,m),r,p):=e;show#[k z (by simp) _ l,k TI (by simp) _ g,#[a,c,k TO (by simp) _ m],r.to λo q=>k B (by simp) o q,p.to λo q=>k A (by simp) o q]
 item:=by
  intro X hP Z hK hc i j s σ H E I M e hg;subst hP Z hK;let(l,g,(a,c,m),r,p):=e;let(xs,ys,x,y,J,G,hx,hy):=hg;let(VW,O,R):=qz I J;let(F,N,Q):=qz I G;let(u,hu,ru):=O.get hx;let(t,ht,rt):=N.get hy;show Am D l g m r p R Q (by simpa using hu) (by simpa using ht) λk z1 o1 g1 g2 pr sz L=>#[_,W,?_];show wpAny_letOwnedTupleGo_zip z1 λC z2 e2=>?_;let U:=cn l;let hIl:=cn g;let hOl:=cn m;let h1l:B<s.heap.objs.size:=by let(_,q,_):=r.live;show cn q
  let h2l:A<s.heap.objs.size:=by let(_,q,_):=p.live;show cn q
  let hn:=I.Wn.fresh (U1 _);let V:∀b o,b∉[z,TI,TO,B,A]->s.heap.get? b=lD o->C.get? b=lD o:=λb o d q=>by simp only[Vm,Ww,or_false,not_or]at d;show(e2.2 b d.1).trans (L b o d.1 d.2.2.1 d.2.2.2.1 d.2.2.2.2 q)
  let hT2:=(e2.2 _ (Wd U)).trans pr
  let I2:Inv X j σ (bJ H s.heap.objs.size (.tup [x,y])) {s with heap:=C}:=
   I.aea M V (U1 _) #[by show 2<=Vb;decide,[u,t],.cons ru (.cons rt .nil),#[_,hT2,#[W,_,W],W]]
  let f:∀b o,b≠z->k.get? b=lD o->C.get? b=lD o:=λb o n q=>(e2.2 b n).trans q;show#[.ref s.heap.objs.size,_,I2,W,#[_,x,y,hn,W,λzs hs=>by rw[De I hs J];show hx,λzs hs=>by rw[De I hs G];show hy,W],
   #[z2,f _ _ D.TIz (L _ _ D.TIz D.TITO D.TIi1 D.TIi2 g),#[_,_,f _ _ D.TOz o1],g1.to λo q=>f _ _ D.i1z q,g2.to λo q=>f _ _ D.i2z q],λb d=>?_]
  let hb2:b<s.heap.objs.size:=by simp only[Vm,Ww,or_false]at d;rcases d with rfl|rfl|rfl|rfl|rfl<;>assumption
  rw[aF (Vk hb2)];show(M b d).1
 done:=by
  intro X hP Z hK hc i j s σ H E I M e hg;subst hP Z hK;let(l,g,(a,c,m),r,p):=e;let(xs,ys,J,G,Y):=hg;let(VW,O,R):=qz I J;let(F,N,Q):=qz I G;let hl1:=O.length;let hl2:=N.length;let hd:VW.toArray[i]?=UO\/F.toArray[i]?=UO:=by
   rcases Y with q|q
   .show .inl (by simp;ext)
   .show .inr (by simp;ext)
  show Aa (I.ok.hd hc) D l g m r p R Q hd λk L=>#[W,?_];show F0 I M λb o d q=>by simp only[Vm,Ww,or_false,not_or]at d;show L b o d.1 d.2.2.1 d.2.2.2.1 d.2.2.2.2 q
 self:=λ_ _ _ _ _ e h=>ah9 e.1 h
def Fe(n b a:Nat)(d:b<n)(c:a<n):acr (n+4) (n+2) (n+3) n (n+1) b a:=by constructor<;>(show(_:Nat)≠_;ext)
def Ob(K:UN)(e:TA):TI:=λd H R=>e d H λg b=>∃a c b1 f,g=[.ref a,.ref c]/\(∃xs,Gm b1 K b a xs)/\(∃ys,Gm f K b c ys)/\R (TW K b1 f a c) b
def Kb:Wb "zip"=R (.type "zip"):=by left
def P8{k}(O:Gl X "zip")(hm:X.mg "zip"=UO)(D:PA X [l,m] ta)(x:Vt [l,m] X.env=(U0,eval l X.env)::Vt [m] X.env:=by rfl)(M:(backTo pos (Vt [m] X.env)).any (·.1)=U0:=by rfl):
  PI X (.Tuple elts k tp) (.Call (.Name "zip" p) [l,m] [] pos) (Ob X.K ta):=by
 intro d s w H R I h;show Call_ (lX I O hm Kb (WW (cT (D pos d s w H _ I h) λY f #[vs,v,i,E,F]=>?_) x M));let(a,c,T,S,e,(xs,B),(U,A),q):=F;subst e;let(u,t,rfl,C,rt):=EF E;ext C;ext rt;let(VW,rx,o):=qz i B;let(L,Z,n):=qz i A;let Q:∀b∈[f.heap.objs.size+4,f.heap.objs.size+2,f.heap.objs.size+3,f.heap.objs.size,f.heap.objs.size+1],oZ X d v b:=λb r=>by
  let g:f.heap.objs.size<=b:=by simp only[Vm,Ww,or_false]at r;let P:=r;ext
  show i.adu g (i.Wn.fresh g)
 show Fp o n λh1 j J G z y N=>?_;show ah9 j ?_;show#[f.heap.objs.size+4,_,_,_,v,W,i.kept N,IH T S _ _ _ _ _ a c (Fe _ _ _ o.lt n.lt),#[j,J,#[_,_,G],z,y],Q,q]
def R9:V8->Bool
 |.Starred _ _=>P
 |_=>U0
def w6(e:V8)(a:G V8)(env:Env)(h:R9 e=U0):Vt (e::a) env=(U0,eval e env)::Vt a env:=by ext e<;>first|rfl|ext h
def ou:G D->G D->G D
 |x::r,y::q=>.tuple [x,y]::ou r q
 |_,_=>[]
theorem z9:∀(xs a:G D),(ou xs a).length=min xs.length a.length
 |[],_=>by simp[ou]
 |_::_,[]=>by simp[ou]
 |_::r,_::q=>by simp only[ou,Vd,z9 r q];ext
theorem zJ:∀(xs a:G D) (i:Nat),(ou xs a)[i]?=(xs[i]?).bind λx=>(a[i]?).map λy=>.tuple [x,y]
 |[],_,_=>by simp[ou]
 |x::r,[],i=>by ext i<;>simp[ou]
 |x::r,y::q,0=>by simp[ou]
 |x::r,y::q,i+1=>by simp only[ou,aag];show zJ r q i
section
variable{K:UN}{E:XK}{B O Z:cg}{U H X:Hp}{T:L2.St}{Y ρ':bA}{v:V}
def adn(b:Bool)(O:cg)(K:UN)(H:Hp)(a:M)(xs:G V):Prop:=match b with
 |true=>aay O K H a xs
 |false=>abX O K H a xs
def adn.ev(h:adn b O K H a xs)(e:Ev O H Z X):adn b Z K X a xs:=by
 cases b with
 |true=>show aay.ev h e
 |false=>show abX.ev h e
def adn.at(h:adn b O K H a xs):Gm b K H a xs:=by
 cases b with
 |true=>show(show aay O K H a xs from h).1
 |false=>show(show abX O K H a xs from h).1.sq
def Q1(h:adn b1 O K H a xs)(hd:WO O K H xs ds)(g:adn b2 O K H c ys)(A:WO O K H ys es):CD K (TW K b1 b2 a c) O H (ou ds es):=by
 intro Z X e n;let f:=h.ev e;let d:=hd.ev e;let l:=g.ev e;let j:=A.ev e;rw[z9];show#[λi Q=>?_,#[xs,ys,f.at,l.at,?_]]
 .let u:i<ds.length:=by ext
  let r:i<es.length:=by ext
  let(x,z,N):=d.get (U7 u);let(y,w,C):=j.get (U7 r);show#[#[xs,ys,x,y,f.at,l.at,z,w],?_];rintro t F ⟨p,I,G,b,rfl,L,J,rfl⟩;let o:=L xs f.at;let m:=J ys l.at;rw[z]at o;rw[w]at m;ext o;ext m;show#[bO b _,.tuple [ds[i],es[i]],?_,.tup #[Zw.of aO,λq=>a6 q (n p b)] (.cons (N.ev (Ev.grow (bO b _))) (.cons (C.ev (Ev.grow (bO b _))) .nil))];rw[zJ,U7 u,U7 r];rfl
 .rw[hd.length,A.length];ext
def NS(h:DV O K H v d)(q:fY d=R ds):∃b a xs,v=.ref a/\adn b O K H a xs/\WO O K H xs ds:=by
 cases h with
 |tup h e=>ext q;show#[P,_,_,W,h,e]
 |lst h e=>ext q;show#[U0,_,_,W,h,e]
 |_=>ext q
def Jm(c:FA):FI:=λY=>(c Y).bind λa=>(Res.V4 (rZ a.2 a.1)).bind λb=>match b.1 with
 |[d,e]=>(Res.V4 (fY d)).bind λds=>(Res.V4 (fY e)).bind λf=>.ok (ou ds f,b.2)
 |_=>.bad
def QI(h:AO K E ta fa):IO K E (Ob K ta) (Jm fa):=by
 intro B U O T H Y M R w;show h B U O T H Y _ R (w.bind.imp λa b N Q I p F l=>?_);let((ds,g),q,b):=b.V4;let(G,o,R2,r):=uo F l q;dsimp only at b;cases r with
 |nil=>show b.elim
 |cons n d=>
  cases d with
  |nil=>show b.elim
  |cons d m=>
   cases m with
   |cons _ _=>show b.elim
   |nil=>let(L,j,b):=WR.V4 b;let(fs,i,b):=WR.V4 b;let(z,C,xs,rfl,f,u):=NS n j;let(y,A,J,rfl,e,t):=NS d i;show#[C,A,z,y,W,#[_,f.at],#[_,e.at],b G _ I (p.trans o) R2 (Q1 f u e t)]
def d6(d e:D):I RV:=match d,e with
 |.str z,.int i=>if z.length<=1000000 then(lA z.cps.toList i).map λc=>.fz (.str #[#v[c]])else S
 |_,_=>S
def yI:nO K (Tb K) d6:=by
 intro O H x y j f h Q n b a e q;unfold d6 at e;split at e
 .split at e
  .rename_i z i d
   cases g:lA z.cps.toList i with
   |none=>rw[g]at e;ext e
   |some c=>rw[g]at e;ext e;ext b;ext a;show .inr (.inr #[z,i,c,W,W,Er d,g,q.at (.str _)])
  .ext e
 .ext e
end
end L3
namespace L3
open PySem L2
def Uq(N C:bA->Prop)(T:RV->Prop):Res Fl->Prop
 |.ok (.nx a)=>N a
 |.ok (.ct a)=>C a
 |.ok (.rt v)=>T v
 |_=>False
structure Go(r:Res Fl)(N C:bA->Prop)(T:RV->Prop):Prop where
 out:Uq N C T r
section
variable{ρ ρ1 ρ2 ρ3:bA}{f g:FS}{fe:FE}{pv:PV}{d:D}{rv:RV}{ds:bg D}{N C:bA->Prop}{T:RV->Prop}
def Go.eq(e:r=r')(h:Go r' N C T):Go r N C T:=by rw[e];show h
def Go.imp(h:Go r N C T)(b:∀ρ,N ρ->N' ρ)(e:∀ρ,C ρ->C' ρ)(a:∀v,T v->T' v):Go r N' C' T':=by
 show#[?_];let h:=h.out;cases r with
 |bad=>show h
 |er x=>show h
 |ok i=>
  cases i with
  |nx r=>show b _ h
  |ct r=>show e _ h
  |rt v=>show a _ h
  |bk r=>show h
def Gq(h:Go (f ρ) (λr=>Go (g r) N C T) C T):Go (bN f g ρ) N C T:=by
 show#[?_];let h:=h.out;ext bN;cases q:f ρ with
 |bad=>rw[q]at h;show h.elim
 |er x=>rw[q]at h;show h.elim
 |ok a=>
  rw[q]at h;cases a with
  |nx r=>show(show Go (g r) N C T from h).out
  |ct r=>show h
  |rt v=>show h
  |bk r=>show h.elim
def CZ(h:c ρ=.ok (b,ρ1))(a:b=P->Go (f ρ1) N C T)(e:b=U0->Go (g ρ1) N C T):Go (lz c f g ρ) N C T:=by
 ext lz;rw[h,ey];cases b with
 |true=>show a W
 |false=>show e W
theorem Hb(b:fe ρ=.ok (pv,ρ1))(a:gt pv ρ1=.ok ρ2)(h:N ρ2):Go (gc fe gt ρ) N C T:=.eq (Cp b a W) #[h]
theorem sY(a:fe ρ=.ok (pv,ρ1))(h:N ρ1):Go (rL fe ρ) N C T:=.eq (Ep a) #[h]
theorem fw(b:fe ρ=.ok (pv,ρ1))(a:F5 ρ1 pv=R rv)(h:T rv):Go (dH fe ρ) N C T:=.eq (yP b a) #[h]
theorem sU(h:N ρ):Go (d5 ρ) N C T:=#[h]
theorem DY(I:Nat->bA->Prop):∀(ds:G D) (k:Nat) (ρ:bA),I k ρ->(∀i d ρ,ds[i]?=R d->I (k+i) ρ->∃ρ1,gt (.fz d) ρ=.ok ρ1/\Go (b ρ1) (I (k+i+1)) (I (k+i+1)) T)->Go (su gt b ds ρ) (I (k+ds.length)) C T
 |[],k,ρ,h0,_=>#[h0]
 |d::r,k,ρ,h0,u=>by
  let(ρ1,o,a):=u 0 d ρ W h0;let a:=a.out;let l:∀j,I (k+1) j->Go (su gt b r j) (I (k+(r.length+1))) C T:=λj h=>by
   let e:k+(r.length+1)=k+1+r.length:=by ext
   rw[e];show DY I r (k+1) j h λi t m w n=>?_;let e:k+1+i=k+(i+1):=by ext
   rw[e]at n⊢;show u (i+1) t m (by simpa using w) n
  show#[?_];show Uq _ _ _ ((gt (.fz d) ρ).bind _);rw[o,ey];cases q:b ρ1 with
  |bad=>rw[q]at a;show a.elim
  |er x=>rw[q]at a;show a.elim
  |ok p=>
   rw[q]at a;cases p with
   |nx r=>show(l _ a).out
   |ct r=>show(l _ a).out
   |rt v=>show a
   |bk r=>show a.elim
def JP(I:Nat->bA->Prop)(j:o ρ=.ok (ds,ρ1))(h0:I 0 ρ1)(e:∀i d ρ,ds[i]?=R d->I i ρ->∃ρ1,gt (.fz d) ρ=.ok ρ1/\Go (b ρ1) (I (i+1)) (I (i+1)) T)(a:∀c,I ds.length c->N c):Go (rA o gt b ρ) N C T:=by let:=DY (C:=C) I ds 0 ρ1 h0 (by simpa using e);rw[W4]at this;show .eq (B6 j) (this.imp a (λ_ h=>h) λ_ h=>h)
def qQ(a:ds.map (λd=>R (.fz d))++U8 (n - ds.length) S=ρ)(h:Go (g ρ) (λ_=>T (.fz .none)) (λ_=>False) T):∃rv,gG n g ds=.ok rv/\T rv:=by
 let h:=h.out;ext gG;rw[a];cases q:g ρ with
 |bad=>rw[q]at h;show h.elim
 |er x=>rw[q]at h;show h.elim
 |ok b=>
  rw[q]at h;cases b with
  |nx r=>show#[_,W,h]
  |ct r=>show h.elim
  |rt v=>show#[_,W,h]
  |bk r=>show h.elim
def ii(a:ds.map (λd=>R (.fz d))++U8 (n - ds.length) S=ρ)(h:Go (g ρ) (λ_=>RV.fz .none=v) (λ_=>False) (λr=>r=v)):gG n g ds=.ok v:=by let(rv,e,b):=qQ (T:=λr=>r=v) a h;rw[e,b]
theorem dj(b:fe ρ=.ok (pv,ρ1))(a:gt pv ρ1=.ok ρ2)(c:ρ2=ρ3)(h:Go (g ρ3) N C T):Go (bN (gc fe gt) g ρ) N C T:=.eq (IJ (Cp b a c)) h
theorem fJ(b:fe ρ=.ok (pv,ρ1))(a:F5 ρ1 pv=R rv)(h:T rv):Go (bN (dH fe) g ρ) N C T:=.eq (Ha (yP b a)) #[h]
theorem dS(h:Go (g ρ) N C T):Go (bN d5 g ρ) N C T:=.eq W h
def Gi:bN (bN f1 f2) g ρ=bN f1 (bN f2 g) ρ:=by
 ext bN;cases f1 ρ with
 |bad=>rfl
 |er x=>rfl
 |ok a=>ext a<;>rfl
theorem BK(h:Go (bN f1 (bN f2 g) ρ) N C T):Go (bN (bN f1 f2) g ρ) N C T:=.eq Gi h
def iZ(i:c ρ=.ok (b,ρ1))(a:b=P->Go (bN f1 g ρ1) N C T)(h:b=U0->Go (bN f2 g ρ1) N C T):Go (bN (lz c f1 f2) g ρ) N C T:=by
 let e:bN (lz c f1 f2) g ρ=if b=P then bN f1 g ρ1 else bN f2 g ρ1:=by unfold bN lz;rw[i,ey];ext b<;>rfl
 show .eq e ?_;cases b with
 |true=>show a W
 |false=>show h W
theorem uz(I:Nat->bA->Prop)(h:o ρ=.ok (ds,ρ1))(h0:I 0 ρ1)(e:∀i d ρ,ds[i]?=R d->I i ρ->∃ρ1,gt (.fz d) ρ=.ok ρ1/\Go (b ρ1) (I (i+1)) (I (i+1)) T)(a:∀c,I ds.length c->Go (g c) N C T):Go (bN (rA o gt b) g ρ) N C T:=
 Gq (JP I h h0 e a)
theorem wu(I:bA->Prop)(P:Nat->D->Prop):∀(ds:G D) (k:Nat) (ρ:bA) (a:G D),I ρ->a.length+ds.length<=1000000->(∀i d,ds[i]?=R d->∀ρ,I ρ->∃x c,mj gt J fe d ρ=.ok (R x,c)/\I c/\P (k+i) x)->
  ∃xs,eX gt J fe ds ρ a=.ok (a++xs)/\xs.length=ds.length/\∀i x,xs[i]?=R x->P (k+i) x
 |[],k,ρ,a,_,_,_=>#[[],by show Res.ok a=_;simp,W,λi x h=>by simp at h]
 |d::r,k,ρ,a,h0,w,v=>by
  let(x,c,o,n,m):=v 0 d W ρ h0;rw[Vd]at w;let(xs,t,q,p):=wu I P r (k+1) c (a++[x]) n (by rw[UZ];simp;ext) λi u z b l=>by
   let e:k+1+i=k+(i+1):=by ext
   rw[e];show v (i+1) u (by simpa using z) b l
  show#[x::xs,?_,by rw[Vd,q,Vd],λi y j=>?_]
  .rw[uS o ()];show eX gt J fe r c (a++[x])=_;rw[t,Vw];rfl
  .cases i with
   |zero=>cases(show R x=R y from j);show m
   |succ i=>
    let e:k+(i+1)=k+1+i:=by ext
    rw[e];show p i y (by simpa using j)
def AH(I:bA->Prop)(P:Nat->D->Prop)(h0:I ρ)(a:ds.length<=1000000)(j:∀i d,ds[i]?=R d->∀ρ,I ρ->∃x c,mj gt ft fe d ρ=.ok (R x,c)/\I c/\P i x):
  ∃xs,nW (eX gt ft fe ds ρ [])=.ok xs/\xs.length=ds.length/\∀i x,xs[i]?=R x->P i x:=by
 let(xs,h,e,b):=wu I P ds 0 ρ [] h0 (by simpa using a) (by simpa using j);show#[xs,by rw[h];rfl,e,by simpa using b]
theorem xi{α:Type}{f:α->D}{Q:Nat->α->Prop}:∀(xs:G D) (k:Nat),(∀i x,xs[i]?=R x->∃a,x=f a/\Q (k+i) a)->∃as:G α,xs=as.map f/\∀i a,as[i]?=R a->Q (k+i) a
 |[],_,_=>#[[],W,λi a h=>by simp at h]
 |x::r,k,h=>by
  let(a,e,q):=h 0 x W;let(as,n,l):=xi (f:=f) (Q:=Q) r (k+1) λi y m=>by
   let e:k+1+i=k+(i+1):=by ext
   rw[e];show h (i+1) y (by simpa using m)
  show#[a::as,by rw[e,n];rfl,λi b j=>?_];cases i with
  |zero=>cases(show R a=R b from j);show q
  |succ i=>
   let e:k+(i+1)=k+1+i:=by ext
   rw[e];show l i b (by simpa using j)
def S9(c:UU.strOk a=P)(e:UU.strOk b=P):cY (.str a) (.str b)=R (.fz (.bool (a==b))):=by ext cY;rw[show lj (.str a)=P by ext lj;rw[show UU.canLay0 (.str a)=P from c];rfl,show UU.canLay0 (.str b)=P from e,WC,av W];rfl
def NM(b:UU.strOk a=P):cY (.str a) (.str a)=R (.fz (.bool P)):=by rw[S9 b b,eu]
def Ds(c:UU.strOk a=P)(e:UU.strOk b=P)(h:(a==b)=U0):cY (.str a) (.str b)=R (.fz (.bool U0)):=by rw[S9 c e,h]
theorem xj{α:Type}{xs:G α}{i:Int}{v:α}(h0:0<=i)(h:xs[i.toNat]?=R v):lA xs i=R v:=Qf h0 h
def Mc(h0:0<=i)(h:ds[i.toNat]?=R d):bE (.list ds) (.int i)=R (.fz d):=by show(lA ds i).map RV.fz=_;rw[xj h0 h];rfl
def Mq{s:G Nat}(e:s.Pairwise (·<·))(h:∀k∈s,k<n):s.length<=n:=by
 let:∀(s:G Nat) (a:Nat),s.Pairwise (·<·)->(∀k∈s,a<=k/\k<n)->s.length<=n - a:=by
  intro s
  induction s with
  |nil=>intro a _ _;show VF _
  |cons x r i=>intro a e h;let(l,j):=Yr.mp e;let m:=h x U5;let:=i (x+1) j λk b=>#[l k b,(h k (U6 _ b)).2];rw[Vd];ext
 show this s 0 e λk b=>#[VF _,h k b]
def Ei(c:fr ρ=.ok (o,ρ1))(hd:rZ ρ1 o=R ([d,e],ρ2))(b:fY d=R J)(a:fY e=R fs):Jm fr ρ=.ok (ou J fs,ρ2):=by ext Jm;rw[c,ey,hd,bz,ey];dsimp only;rw[b,bz,ey,a,bz,ey]
end
end L3
namespace L2
open PySem PySem.Spec PyProof.Rows
section
variable{Y:Type}[DecidableEq Y]
def lu(b:G (Y×V))(k:Y):I V:=(b.find? λa=>decide (a.1=k)).map (·.2)
def j6(b:G (Y×V))(k:Y)(v:V):G (Y×V):=
 if(b.any λa=>decide (a.1=k))=P then b.map (λa=>if a.1=k then(a.1,v)else a)else b++[(k,v)]
def pZ(b:G (Y×V))(k:Y):G (Y×V):=b.filter λa=>decide (a.1≠k)
def tW{k:Y}(e:p.1=k):lu (p::r) k=R p.2:=by simp[lu,VY,e]
def uF{k:Y}(e:¬p.1=k):lu (p::r) k=lu r k:=by simp[lu,VY,e]
theorem zW(k:Y):∀a:G (Y×V),(a.any λb=>decide (b.1=k))=(lu a k).isSome
 |[]=>rfl
 |p::r=>by
  rw[YX];by_cases e:p.1=k
  .simp only[tW e,aP e,YB,aeb]
  .rw[uF e,a4 e,ZW];show zW k r
def md(a:G (Y×V))(k:Y)(v:V):(j6 a k v).length<=a.length+1:=by
 ext j6;split
 .rw[UR];ext
 .rw[UZ,Vd,WG];ext
def ZJ.ZR(r:ZJ o u):o.isSome=u.isSome:=by
 cases o with
 |none=>cases u with
  |none=>rfl
  |some _=>show(show False from r).elim
 |some _=>cases u with
  |none=>show(show False from r).elim
  |some _=>rfl
def KV.val{i:G (Y×V)}{c:G (Y×B)}(r:KV i c)(k:Y):ZJ (lu i k) (valueAt c k):=by
 unfold KV at r
 induction r with
 |nil=>show True.intro
 | @cons p q l g h t j=>
  let(d,f):=h;by_cases e:p.1=k
  .let a:q.1=k:=d.symm.trans e
   let b:valueAt (q::g) k=R q.2:=by simp[valueAt,VY,a]
   rw[tW e,b];show f
  .let a:¬q.1=k:=λz=>e (d.trans z)
   let b:valueAt (q::g) k=valueAt g k:=by simp[valueAt,VY,a]
   rw[uF e,b];show j
def KV.any(r:KV Vy vs)(k:Y):(Vy.any λb=>decide (b.1=k))=vs.any λb=>decide (b.1=k):=by
 unfold KV at r
 induction r with
 |nil=>rfl
 |cons h t a=>rw[YX,YX,a,h.1]
def KV.agT(r:KV Vy vs)(k:Y)(b:RelV y u):
  KV (Vy.map λc=>if c.1=k then(c.1,y)else c) (vs.map λc=>if c.1=k then(c.1,u)else c):=by
 unfold KV at r⊢
 induction r with
 |nil=>show .nil
 | @cons p q i g h t f=>
  rw[Vf,Vf];show .cons ?_ f;let(a,d):=h;by_cases e:p.1=k
  .rw[av e,av (a.symm.trans e)];show#[a,b]
  .rw[ax e,ax (λz=>e (a.trans z))];show#[a,d]
def KV.put(r:KV Vy vs)(k:Y)(a:RelV y u):KV (j6 Vy k y) (stored vs k u):=by
 unfold j6 stored;rw[r.any k];by_cases e:(vs.any λb=>decide (b.1=k))=P
 .rw[av e,av e];show r.agT k a
 .rw[ax e,ax e];show Paired.snoc r #[W,a]
def KV.drop(r:KV Vy vs)(k:Y):KV (pZ Vy k) (without vs k):=by
 unfold KV at r⊢;unfold pZ without
 induction r with
 |nil=>show .nil
 | @cons p q l j h t i=>
  let(d,f):=h;rw[aah,aah];by_cases e:p.1=k
  .let a:¬decide (p.1≠k)=P:=by simp[e]
   let b:¬decide (q.1≠k)=P:=by simp[d.symm.trans e]
   rw[ax a,ax b];show i
  .let g:¬q.1=k:=λz=>e (d.trans z)
   let a:decide (p.1≠k)=P:=by simp[e]
   let b:decide (q.1≠k)=P:=by simp[g]
   rw[av a,av b];show .cons #[d,f] i
def KV.keys{b:G (Y×B)}(r:KV Vy b):Vy.map (·.1)=b.map (·.1):=by
 unfold KV at r
 induction r with
 |nil=>rfl
 |cons h t a=>rw[Vf,Vf,a,h.1]
theorem KV.length(r:KV Vy vs):Vy.length=vs.length:=Paired.length r
theorem J6(a:G (Y×V))(k:Y):(pZ a k).length<=a.length:=aaH _ _
end
def wR(r:RelV (kV k) u):(dC a w).is k u=US:=by
 cases k with
 |inl i=>let(t,e):=(show∃t,u=UQ.int i t from r);subst e;show AW a w i t
 |inr x=>let(t,e):=(show∃t,u=UQ.str x t from r);subst e;show Ax a w x t
theorem wL:∀{b:G de} {us:G B},Vals (b.map kV) us->ItemsAre (dC a w) b us
 |[],_,r=>by rw[Yz]at r;ext r;show .nil
 |k::b,_,r=>by
  rw[Vf]at r;cases r with
  |cons h t=>show .cons (wR h) (wL t)
abbrev KT(H:Hp):G (G de×V)->G (G de×M×B)->Prop:=Paired λp q=>p.1=q.1/\H q.2.1=R (.tup (p.1.map kV))/\RelV p.2 q.2.2
def KT.val(r:KT H Vy xs)(k:G de):ZJ (lu Vy k) ((atKey xs k).map (·.2)):=by
 induction r with
 |nil=>show True.intro
 | @cons p q j g h t i=>
  let(d,_,f):=h;by_cases e:p.1=k
  .let a:=d.symm.trans e
   let b:atKey (q::g) k=R q.2:=by simp[atKey,VY,a]
   rw[tW e,b];show f
  .let a:¬q.1=k:=λz=>e (d.trans z)
   let b:atKey (q::g) k=atKey g k:=by simp[atKey,VY,a]
   rw[uF e,b];show i
def KT.agT(r:KT H Vy xs)(k:G de)(d:RelV y u):
  KT H (Vy.map λc=>if c.1=k then(c.1,y)else c) (xs.map (putAt k u)):=by
 induction r with
 |nil=>show .nil
 | @cons p q j i h t g=>
  rw[Vf,Vf];show .cons ?_ g;let(a,b,f):=h;ext putAt;by_cases e:p.1=k
  .rw[av e,av (a.symm.trans e)];show#[a,b,d]
  .rw[ax e,ax (λz=>e (a.trans z))];show#[a,b,f]
def KT.put(r:KT H Vy xs)(k:G de)(f:H b=R (.tup (k.map kV)))(a:RelV y u):
  KT H (j6 Vy k y) (storedH xs k b u):=by
 let e:(Vy.any λd=>decide (d.1=k))=(atKey xs k).isSome:=by rw[zW,(r.val k).ZR,ZG]
 unfold j6 storedH;rw[e];by_cases q:(atKey xs k).isSome=P
 .rw[av q,av q];show r.agT k a
 .rw[ax q,ax q];show Paired.snoc r #[W,f,a]
theorem KT.keeps(r:KT H Vy xs)(a:∀b ys,H b=R (.tup ys)->H' b=R (.tup ys)):KT H' Vy xs:=
 Paired.Zt r λ_ _ z=>#[z.1,a _ _ z.2.1,z.2.2]
section
variable{P:Vn}{w:VJ}{H:Hp}{h:Heap}{a:UX}
theorem NY(ok:HOk P w H h)(e:Rd H a u):ObjOk P w H h a u:=e.ok ok
theorem zz(ok:HOk P w H h)(e:Rd H a (.dK o)):o.length<=Vb/\(a==Xi)=U0/\∃b,KV o b/\h.DictOf (dC P w) a b:=
 show ObjOk P w H h a (.dK o)from NY ok e
theorem z8(ok:HOk P w H h)(e:H a=R (.dK o)):o.length<=Vb/\(a==Xi)=U0/\∃b,KV o b/\h.DictOf (dC P w) a b:=zz ok (.inl e)
def x5{c:G de}(ok:HOk P w H h)(e:H a=R (.tup (c.map kV))):(tupleKind (dC P w)).is h c a:=by let(_,g,r,o,f,(d,n,b),_):=(show ObjOk P w H h a (.tup (c.map kV))from ok a _ e);show#[o,g.toArray,n,f,d,b,by simpa using wL r]
def A1(ok:HOk P w H h)(e:Rd H a (.dT C)):C.length<=Vb/\(a==Xi)=U0/\
  ∃xs,KT H C xs/\h.DictOfH (tupleKind (dC P w)) a xs:=by
 let(z,y,xs,r,o,n,u,j,i,g,f,d):=(show ObjOk P w H h a (.dT C)from NY ok e);show#[z,y,xs,r,o,n,u,j,i,g,f,λx b=>?_,d];let all:∀{l:G (G de×V)} {m:G (G de×M×B)},KT H l m->∀x∈m,(tupleKind (dC P w)).is h x.1 x.2.1:=by
  intro l m q
  induction q with
  |nil=>intro x b;show nomatch b
  | @cons p q J E v t A=>
   intro x b;rcases Vm.mp b with e|b
   .subst e;show x5 ok (by rw[<-v.1];show v.2.1)
   .show A x b
 show all r x b
theorem Sj(ok:HOk P w H h)(e:H a=R (.dT o)):o.length<=Vb/\(a==Xi)=U0/\
  ∃xs,KT H o xs/\h.DictOfH (tupleKind (dC P w)) a xs:=A1 ok (.inl e)
end
def acQ(H:Hp)(a:M)(y:V)(r:I V):Prop:=
 (∃d k,Rd H a (.dK d)/\y=kV k/\r=lu d k)\/∃d k b,Rd H a (.dT d)/\y=.ref b/\H b=R (.tup (k.map kV))/\r=lu d k
def afm(H:Hp)(a:M)(y v:V)(H':Hp):Prop:=
 (∃d k,H a=R (.dK d)/\y=kV k/\d.length<Vb/\H'=bJ H a (.dK (j6 d k v)))\/
 ∃d k b,H a=R (.dT d)/\y=.ref b/\H b=R (.tup (k.map kV))/\d.length<Vb/\H'=bJ H a (.dT (j6 d k v))
theorem acQ.k{k:de}(e:H a=R (.dK Vy)):acQ H a (kV k) (lu Vy k):=.inl #[Vy,k,.inl e,W,W]
theorem afm.k{k:de}(e:H a=R (.dK Vy))(b:Vy.length<Vb):afm H a (kV k) v (bJ H a (.dK (j6 Vy k v))):=.inl #[Vy,k,e,W,b,W]
section
variable{X:Cx}{Z:bg (UX×Obj)}{Y:St}{H:Hp}{s:UY}{a:UX}{y v:V}{u r:UQ}{o:br V}{A:Vx}{E:UQ->UY->Prop}
def Inv.big(I:Inv X Z Y H s):Xi<s.heap.objs.size:=by let h:=(I.mod.glob.keeps I.bk).lt;show YH () h
def FZ{Q:UQ->UY->Prop}(q:A.units+1<cLine)(I:Inv X Z Y H s)(g:acQ H a y (R v))(n:RelV y u)(h:∀c w,Inv X Z Y H w->RelV v c->Q c w):
  wpAny (model X.prog X.w) A (getItem (.ref a) u) Q E s:=by
 rcases g with⟨L,k,e,m,l⟩|⟨L,k,b,e,m,C,l⟩
 .subst m;let(z,B,J,f,dd):=zz I.Wn e;let(c,i,d):=ZJ.some_of (v:=v) (o:=valueAt J k) (by rw[l];show f.val k);show wpAny_getItem_of (wR n) dd.mapOf i (h c _ (I.tok _) d)
 .subst m;cases(show u=UQ.ref b from n);let(z,B,xs,f,dd):=A1 I.Wn e;let(c,i,d):=ZJ.some_of (v:=v) (o:=(atKey xs k).map (·.2)) (by rw[l];show f.val k);let(p,t,j):=ac6.mp i;show agE (ab8 q) (x5 I.Wn C) dd t ?_;rw[j];show h c _ (I.tok _) d
def T9{Q:B->UY->Prop}(m:A.units+1<cLine)(I:Inv X Z Y H s)(g:acQ H a y o)(j:RelV y u)(h:∀c,Inv X Z Y H c->Q (.bool o.isSome) c):
  wpAny (model X.prog X.w) A (W2 .In u (.ref a)) Q E s:=by
 rcases g with⟨p,k,e,i,l⟩|⟨p,k,b,e,i,n,l⟩
 .subst i;let(z,f,t,d,dd):=zz I.Wn e;show wpAny_in_of (wR j) f dd.mapOf ?_;rw[<-(d.val k).ZR,<-l];show h _ (I.tok _)
 .subst i;cases(show u=UQ.ref b from j);let(z,f,xs,d,dd):=A1 I.Wn e;show amn (ab8 m) (x5 I.Wn n) f dd ?_;let q:=(d.val k).ZR;rw[ZG]at q;rw[<-q,<-l];show h _ (I.tok _)
theorem pX{c:Heap}{i:Nat}{d:HO}(I:Inv X Z Y H s)(f:Su (H a))(j:Heap.SameBut a s.heap c)(g:∃q,c.get? a=R q)(new:ObjOk X.prog X.w (bJ H a d) c a d):
  Inv X Z Y (bJ H a d) {s with heap:=c,toks:=i}:=
 I.write (x:=a) (e:=a) f (.inl W) (λb q h z=>(j.2 b h).trans z) g new
theorem Bc(z:J.length<=Vb)(hd:(a==Xi)=U0)(b:KV J C)(dd:U.DictOf (dC d w) a C):
  ObjOk d w H' U a (.dK J):=#[z,hd,C,b,dd]
def FM{H':Hp}{Q:Unit->UY->Prop}(K:A.units+1<cLine)(I:Inv X Z Y H s)(g:afm H a y v H')(C:RelV y u)(D:RelV v r)(h:∀x,Inv X Z Y H' x->Q ⟨⟩ x):
  wpAny (model X.prog X.w) A (setItem (.ref a) u r) Q E s:=by
 rcases g with⟨w,k,e,t,l,B⟩|⟨w,k,b,e,t,J,l,B⟩
 .subst t B
  let(z,p,U,d,dd):=z8 I.Wn e;let j:U.length<=Vb:=by rw[<-d.length];show z
  let n:(j6 w k v).length<=Vb:=by let:=md w k v;ext
  show wpAny_setItem_pairs (hsz:=j) (wR C) dd λF f m=>h _ ?_;let L:∃q,F.get? a=lD q:=let#[q,_,_,i,_]:=f;#[q,i]
  show pX I (by rw[e];show True.intro) m L (Bc n p (d.put k D) f)
 .subst t B
  cases(show u=UQ.ref b from C);let(z,p,xs,d,dd):=Sj I.Wn e;let j:xs.length<=Vb:=by rw[<-Paired.length d];show z
  let n:(j6 w k v).length<=Vb:=by let:=md w k v;ext
  show agF (hsz:=j) (ab8 K) (x5 I.Wn J) dd λF f m=>h _ ?_;let(q,R,S,i,P,O,N,_,M):=f;show pX I (by rw[e];show True.intro) m #[q,i] #[n,p,_,(d.put k J D).keeps λc T G=>?_,q,R,S,i,P,O,N,M];rw[aF (SJ G e (λz=>nomatch z))];show G
end
section
variable{X:Cx}{Z:bg (UX×Obj)}{U:St}{H:Hp}{s:UY}{a:UX}{Y:bg (de×V)}{k:de}{u:UQ}{A:Vx}{E:UQ->UY->Prop}
def Sq{v:V}{more:G B}{Q:B->UY->Prop}(I:Inv X Z U H s)(e:H a=R (.dK Y))(f:RelV (kV k) u)(l:lu Y k=R v)(hm:more=[]\/∃x,more=[x])
  (h:∀c C,Inv X Z U (bJ H a (.dK (pZ Y k))) C->RelV v c->Q c C):wpAny (model X.prog X.w) A (call (.builtin "dict.pop") (.ref a::u::more)) Q E s:=by
 let(z,r,w,b,dd):=z8 I.Wn e;let(c,j,g):=ZJ.some_of (v:=v) (o:=valueAt w k) (by rw[<-l];show b.val k);let n:(keyPart u).isSome=P:=by
  cases k with
  |inl i=>let(t,q):=(show∃t,u=UQ.int i t from f);subst q;rfl
  |inr x=>let(t,q):=(show∃t,u=UQ.str x t from f);subst q;rfl
 let L:argsOk "dict.pop" #[.ref a::u::more,[]]:=by
  rcases hm with q|⟨x,q⟩
  .subst q;show PySem.F.args_dict_pop_2 _ _
  .subst q;show PySem.F.args_dict_pop_3 _ _ _
 show call_meetsIn ac7 dd.typeIs PySem.F.entry_dict_pop L (meets_dict_pop_there (dC X.prog X.w) a (wR f) more hm n)
  #[w,c,dd,by rw[<-b.length];show z,j,λy d m=>h c _ ?_ g]
 let p:∃q,y.get? a=R q:=let#[q,_,_,J,_]:=d;#[q,J]
 show pX I (by rw[e];show True.intro) m p (Bc (VT (J6 Y k) z) r (b.drop k) d)
end
def Q4(i:V8):Prop:=∀a b,subscripted i U0 a b=operate [a,b] (getItem a b)
def DF{T j:String}
  (l:typeLookup (.type T) "__getitem__"=pure (R (.builtin j))) (m:Q4 slice)
  (h:wpAny (model prog w) A (eval value env) (λo k=>wpAny (model prog w) A (eval slice env) (λi c=>c.TypeIs o T/\wpAny (model prog w) A (getItem o i) Q E c) E k) E s):
  wpAny (model prog w) A (eval (.Subscript value slice pos) env) Q E s:=by
 show Subscript_ (wpAny_mono h (λo k f=>wpAny_mono f (λi c a=>?_) λ_ _ x=>x) λ_ _ x=>x);let(g,a):=a;ext subscriptTail;show Ld ?_;rw[getitemInPython_of_ne g.not_modules];show Ld (ZH g l ?_);let d:wpAny (model prog w) A (subscripted slice U0 o i) (λr b=>wpAny (model prog w) A (letTemporaryGo value o r>>=λ_=>pure r) Q E b) E c:=by rw[m o i];show wpAny_operating (wpAny_mono a (λr b e=>Ld (wpAny_letTemporaryGo (UT e))) λ_ _ x=>x)
 first
  |show UT (Ld d)
  |show Ld (UT (Ld d))
  |show Ld d
def zd(I:Inv X pins σ H s)(g:acQ H a y o):s.TypeIs (.ref a) "dict":=by
 rcases g with⟨d,k,e,_,_⟩|⟨d,k,b,e,_,_,_⟩
 .let(_,_,f,_,dd):=zz I.Wn e;show dd.typeIs
 .let(_,_,xs,_,dd):=A1 I.Wn e;show dd.typeIs
def N9(e ty:TE):TE:=λb H Q=>e b H λx f=>ty b f λy d=>∃a v,x=.ref a/\acQ d a y (R v)/\Q v d
def SK(ty e:TE):TE:=λb H Q=>ty b H λy f=>e b f λx d=>∃a o,x=.ref a/\acQ d a y o/\Q (.bl o.isSome) d
def N6(e ty d:TE):TS:=λD b H=>d b H λv h=>e b h λx g=>ty b g λy f=>∃a i,x=.ref a/\afm f a y v i/\D.nx b i
section
variable{X:Cx}{o i e Z:V8}{pos Y akA:Pos}{T U tv:TE}
def DS(r:X.A.units+1<cLine)(t:PE X o T)(k:PE X i U)(c:Q4 i):PE X (.Subscript o i pos) (N9 T U):=by intro b s f H Q I h;show DF acj.lookup c (cT (t b s f H _ I h) λu l #[x,E,A,n,q]=>cT (k b l f E _ A q) λK J a=>?_);let(y,C,j,m,a,v,w,g,p):=a;subst w;obtain rfl:=n;show#[zd j g,FZ r j g m λF G z d=>#[v,C,z,d,p]]
def P3(q:X.A.units+1<cLine)(c:PE X i U)(r:PE X o T):PC X .In i o (SK U T):=by intro b s d H Q I h;show cT (c b s d H _ I h) λG f #[y,C,z,j,n]=>cT (r b f d C _ z n) λu F a=>?_;let(x,A,w,l,a,p,t,g,m):=a;subst t;obtain rfl:=l;show T9 q w g j λE v=>#[.bl p.isSome,A,v,W,m]
def MK(w:X.A.units+1<cLine)(z:PE X o T)(k:PE X i U)(t:PE X Z tv)(c:WI Z (R (.Subscript o i Y)) pos.line X.env=pure U0):
  PS X (.Assign [.Subscript o i Y] Z pos) (N6 T U tv):=by
 intro b s d H D I h;show aeY (cT (t b s d H _ I h) λr j #[v,L,G,rv,q]=>cT (z b j d L _ G q) λu f #[x,K,F,m,p]=>cT (k b f d K _ F p) λO N a=>?_) c;let(y,Q,E,l,a,J,A,g,n):=a;subst A;obtain rfl:=m;show FM w E g l rv λM C=>#[d,J,C,n]
end
def qH(c more:G (de×V)):G (de×V):=more.foldl (λa b=>j6 a b.1 b.2) c
def KV.merge:∀{more:G (de×V)} {a:G (de×B)} {c:G (de×V)} {b:G (de×B)},KV more a->KV c b->KV (qH c more) (merged b a):=by
 intro more a c b r;unfold KV at r
 induction r generalizing c b with
 |nil=>intro q;show q
 | @cons p q i g h t f=>
  intro d;let e:KV (j6 c p.1 p.2) (stored b q.1 q.2):=by let:=d.put p.1 h.2;rw[<-h.1];show this
  show f e
theorem nI:∀(more c:G (de×V)),(qH c more).length<=c.length+more.length
 |[],c=>by show c.length<=c.length+0;ext
 |p::r,c=>by let b:=nI r (j6 c p.1 p.2);let a:=md c p.1 p.2;show(qH (j6 c p.1 p.2) r).length<=_;rw[Vd];ext
structure M1(X:Cx)(o:V8)(m:Str)(apos:Pos)(e:V8)(Yx:Pos):Prop where
 base:attributeBase o m X.env (eval o X.env)=eval o X.env
 few:((backTo Yx (Vt [e] X.env)).all (λx=> !x.1)&&(backToKw Yx (keywordEach [] X.env)).all (λx=>x.1.isSome)
  &&decide (([e]:G V8).length+([]:G aco).length+(if([]:G aco).isEmpty then 0 else 1)<30))=P
 line:(apos.endLine==Yx.line)=P
 trees:backTo Yx (Vt [e] X.env)=[(U0,eval e X.env)]
structure M2(X:Cx)(o:V8)(m:Str)(apos:Pos)(e f:V8)(Yx:Pos):Prop where
 base:attributeBase o m X.env (eval o X.env)=eval o X.env
 few:((backTo Yx (Vt [e,f] X.env)).all (λx=> !x.1)&&(backToKw Yx (keywordEach [] X.env)).all (λx=>x.1.isSome)
  &&decide (([e,f]:G V8).length+([]:G aco).length+(if([]:G aco).isEmpty then 0 else 1)<30))=P
 line:(apos.endLine==Yx.line)=P
 trees:backTo Yx (Vt [e,f] X.env)=[(U0,eval e X.env),(U0,eval f X.env)]
def Ur(H:Hp)(a:M):Prop:=(∃b,Rd H a (.dK b))\/∃b,Rd H a (.dT b)
def OG(I:Inv X pins σ H s)(d:Ur H a):
  s.TypeIs (.ref a) "dict"/\(∀b,UQ.ref a=.ref b->∃c,s.heap.get? b=R c/\c.dict=S)/\(a==Xi)=U0:=by
 rcases d with⟨i,e⟩|⟨i,e⟩
 .let(_,f,j,_,dd):=zz I.Wn e;show#[dd.typeIs,λb q=>?_,f];ext q;let(c,_,_,h,g,_):=dd;show#[c,h,g.2.1]
 .let(_,f,xs,_,dd):=A1 I.Wn e;show#[dd.typeIs,λb q=>?_,f];ext q;let(c,_,_,h,g,_):=dd;show#[c,h,g.2.1]
def Js(f ty:TE):TE:=λb H Q=>f b H λx e=>∃a,x=.ref a/\Ur e a/\ty b e λy d=>∃g k v,d a=R (.dK g)/\y=kV k/\lu g k=R v/\Q v (bJ d a (.dK (pZ g k)))
section
variable{X:Cx}{o e f:V8}{Z Y:Pos}{U ty T:TE}
def GK(A:PE X o U)(B:PE X e ty)(m:M1 X o "pop" Z e Y):PE X (.Call (.Attribute o "pop" Z) [e] [] Y) (Js U ty):=by intro b s i H Q I h;show wpAny_Call_method m.base m.few m.line ZP ac7 PySem.F.type_dict_pop (cT (A b s i H _ I h) λu q a=>?_);let(x,L,j,t,a,E,d,z):=a;subst E;obtain rfl:=t;let(p,n,_):=OG j d;show#[p,n,?_];rw[m.trees];show Calls.callWith_builtin W (Calls.evalArgs_plain (Calls.spliced_cons (cT (B b q i L _ j z) λP O a=>?_)));let(y,F,K,r,Vy,k,v,G,C,l,w):=a;show Calls.spliced_nil ?_;subst C;show Sq K G r l (.inl W) λM N J g=>#[v,_,J,g,w]
end
end L2
namespace HT
open PySem PySem.Spec PyProof.Rows PySem.Calls
def CA(n:Nat):Builtin.Slice.sliceAdjust S S (-1) (n:Int)=((n:Int) - 1,-1):=by
 ext Builtin.Slice.sliceAdjust;let a:(-1:Int)<0:=by decide
 simp only[a,if_true]
def B0(n:Nat):Builtin.Slice.slicePlaces ((n:Int) - 1) (-1) (-1)=n:=by
 ext Builtin.Slice.slicePlaces;let a:¬((-1:Int)>0):=by decide
 simp only[a,if_false];by_cases h:(n:Int) - 1> -1
 .rw[av h,show(- -1:Int)=1 by decide,ah6];ext
 .rw[ax h];ext
def HX(xs:Array B):((Vc xs.size).filterMap λ(m:Nat)=>xs[((xs.size:Int) - 1+(m:Int)*(-1)).toNat]?).toArray=xs.toList.reverse.toArray:=by
 let e:(Vc xs.size).filterMap (λ(m:Nat)=>xs[((xs.size:Int) - 1+(m:Int)*(-1)).toNat]?)=((Vc xs.size).map λk=>xs.size - 1 - k).filterMap (xs[·]?):=by
  rw[aeH];let a:∀l:G Nat,(∀m∈l,m<xs.size)->l.filterMap (λ(m:Nat)=>xs[((xs.size:Int) - 1+(m:Int)*(-1)).toNat]?)=l.filterMap ((xs[·]?)∘λk=>xs.size - 1 - k):=by
   intro l
   induction l with
   |nil=>intro _;rfl
   |cons m r b=>
    intro h;let hm:=h m (.head _);let f:((xs.size:Int) - 1+(m:Int)*(-1)).toNat=xs.size - 1 - m:=by ext
    rw[Yj,Yj,b λk d=>h k (.tail _ d),f];rfl
  show a _ λm hm=>Wh.mp hm
 rw[e,PySem.W.krv_range,List.filterMap_reverse,PySem.W.krv_all]
section
variable{Y:Vn}{w:VJ}{A:Vx}{E:UQ->UY->Prop}{s:UY}
def qD{e:M}{d:B}{n:Nat}{Q:Int×Int×Nat->UY->Prop}(c:s.heap.IsSliceOf e .none .none d)(f:aav d (R (-1)))
  (h:Q ((n:Int) - 1,-1,n) s):wpAny (model Y w) A (Builtin.Slice.sliceApplied (.ref e) (pure (n:Int))) Q E s:=by
 let(i,a,g,b):=id c;unfold Builtin.Slice.sliceApplied Builtin.Slice.sliceFields;show Ld (Ld (VZ a b (x:=.none) W (Ld (VZ a b (x:=.none) W (Ld (VZ a b (x:=d) W (UT ?_)))))));show Ld (iX f ?_);show wpAny _ _ (if((-1:Int)==0)=P then _ else _) _ _ s;rw[ax ()];show Ld (iX .none (Ld (iX .none (Ld (UT ?_)))));show wpAny _ _ (match Builtin.Slice.sliceAdjust S S (-1) (n:Int)with|(lo,j)=>pure (lo,(-1:Int),Builtin.Slice.slicePlaces lo j (-1))) _ _ s;rw[CA n];show wpAny _ _ (pure ((n:Int) - 1,(-1:Int),Builtin.Slice.slicePlaces ((n:Int) - 1) (-1) (-1))) _ _ s;rw[B0];show UT h
def getItem_tuple_rev{t d:M}{items:Array B}{i:B}{Q:B->UY->Prop}(b:IsTup s.heap t items)(k:s.heap.IsSliceOf d .none .none i)(j:aav i (R (-1)))
  (h:Q (.ref s.heap.objs.size) {s with heap:=s.heap.push {cls:=.type "tuple",data:=.seq items.toList.reverse.toArray}})
  (c:items.size<=Vb):wpAny (model Y w) A (getItem (.ref t) (.ref d)) Q E s:=by
 let a:sizeOk (.seq items.toList.reverse.toArray):=by show items.toList.reverse.toArray.size<=Vb;rw[Va,Xz,Vl];show c
 let(l,e,f,n):=id k;let g:s.TypeIs (.ref d) "slice":=#[l,e,f];ext getItem
 try specialize Wa ?_
 first|show Ld (UT ?_)|skip
 show Ld (acp b.typeIs () ?_);show Ld (WB (name:=Str.ofString "__getitem__") b.typeIs VV
  (WX VV b.typeIs entry_tuple_getitem ?_ (args_tuple_getitem _ _)))
 show wpAny _ _ (Builtin.Tuple.tupleItemsOf (.ref t)>>=_) _ _ s;show Ld (tupleItemsOf_ b ?_);show Ld (XZ g ?_);rw[av ()];show Ld (qD k j ?_);show wpAny _ _ (if(((items.size:Int) - 1)==0&&(-1:Int)==1&&items.size==items.size)=P then _ else _) _ _ s;rw[ax (by rw[show((-1:Int)==1)=U0 from by decide,acC,Yy];show Vg),HX]
 first
  |show Ld (m:=Builtin.Tuple.tupleExact _) (V3 (UT #[_,W,UT h]) a)
  |show Ld (m:=Builtin.Tuple.tupleExact _) (V3 (Ld (UT (UT #[_,W,UT h]))) a)
  |show Ld (Ld (m:=Builtin.Tuple.tupleExact _) (V3 (UT (UT #[_,W,UT h])) a))
  |show Ld (Ld (m:=Builtin.Tuple.tupleExact _) (V3 (UT #[_,W,UT h]) a))
end
end HT
namespace L2
open PySem PySem.Spec PyProof.Rows
def JE{xs:G V}{a:G B}(h:Vals xs a):Vals xs.reverse a.reverse:=by
 induction h with
 |nil=>show .nil
 |cons h t b=>rw[WE,WE];show b.append (.cons h .nil)
def RL(K:UN)(f:TE)(e:TO):TE:=λd H Q=>f d H λx g=>e d g λo b=>o=R (-1)/\∃a xs,x=.ref a/\Zw K b a xs/\∀p,b p=S->Q (.ref p) (bJ b p (.tup xs.reverse))
def QO{X:Cx}{e j:V8}{u l:Pos}{t:TE}{p:TO}(N:PE X e t)(M:PO X (lD j) p):PE X (.Subscript e (.Slice UO UO (lD j) u) l) (RL X.K t p):=by
 intro d s i H Q I h;show Subscript_ (cT (N d s i H _ I h) λv B a=>?_);let(x,Y,T,C,F):=a;show wpAny_Slice ?_;rw[aep];show UT ?_;show UT (cT (M d B i Y _ T F) λn f a=>?_);let(o,U,A,G,w,a,xs,O,L,E):=a;subst w O;ext C;let m:Inv X d i U {f with heap:=f.heap.push {cls:=.type "slice",data:=.fields #v[.none,.none,n]}}:=A.kept (t':=f.toks) λb J q=>bP _ q;let(R,r,z,y):=m.tuple L;let g:R.toArray.size=xs.length:=by rw[Va];show r.length.symm
 show wpAny (model X.prog X.w) X.A (subscriptTail e (.Slice UO UO (lD j) u) (.ref a) (.ref f.heap.objs.size)) (EP X d i Q) X.xe {f with heap:=f.heap.push {cls:=.type "slice",data:=.fields #v[.none,.none,n]}};show tail_any (ops:=[.ref a,.ref f.heap.objs.size]) z.typeIs VV.lookup ?_ (by with_unfolding_all rfl);show HT.getItem_tuple_rev z (Heap.IsSliceOf.new ..) G ?_ (by rw[g];show y);show#[.ref _,_,m.laid (t':=f.toks) (o:=.tup xs.reverse) (λb J q=>bP _ q) (U1 _) ?_,W,E _ (m.Wn.fresh (U1 _))];show#[by rw[Xz];show y,_,JE r,abF.new _ _]
end L2
namespace L3
open PySem PySem.Spec PyProof.Rows L2
def N3(K:UN):R2:=λx y H Q=>∃(a b:M) (d:G V),x=.ref a/\y=.ref b/\Zw K H a []/\Zw K H b d/\Q (.ref b) H
def LN{X:Cx}:OpR X (WT .Add) (N3 X.K):=by
 intro m s L H x y v u Q I A z h;let(a,b,M,rfl,rfl,T,G,q):=h;ext A;ext z;let(O,B,E,_):=I.tuple T;let(l,N,C,_):=I.tuple G;ext B;let((cls,dd,t,w),o,r,n,p):=id E;let((J,i,j,g),d,f,F,e):=id C;simp only at r p f e;subst r p f e;show aeW #[_,o,W] #[_,d,W] acN aeo Z9 ZO (ZE _ _)
  (tuple_addW0 a b _ l.toArray n F dd i w g W) #[o,d,#[.ref b,H,I,W,q]]
def Oh(K:UN):R2:=λx y H Q=>Hu K x y H Q\/N3 K x y H Q
theorem sN{X:Cx}:OpR X (WT .Add) (Oh X.K):=OpR.or jz LN
def z7:D->D->I RV
 |.tuple [],.tuple ys=>R (.fz (.tuple ys))
 |d,e=>dM d e
def pz{K:UN}:nO K (Oh K) z7:=by
 intro O H x y p m o Q n f d e q;unfold z7 at e;split at e
 .ext e;let(a,xs,rfl,j,i):=Ce f;let(b,h,rfl,g,l):=Ce d;ext i;show .inr #[a,b,h,W,W,j.1,g.1,q.at (.tup g l)]
 .show .inl (ju O H x y p m o Q n f d e q)
end L3
namespace L4
open PySem PySem.Spec PyProof.Rows L2 L3
def KK(h:Heap)(e:M)(c:B)(g:I M)(a:B)(hd:I M):Prop:=
 ∃b fs,h.get? e=R b/\b.cls=c/\b.dict=g/\b.data=.fields fs/\fs[0]?=R a/\
  match hd with
  |none=>fs[1]?=R .none
  |some T=>fs[1]?=R (.ref T)/\T≠e/\∃f d,h.get? T=R f/\f.data=.fields d/\d[3]?=R .none
structure Lft(l:G Env)(e:M)(hd:I M)(h h':Heap):Prop where
 keep:∀b o,h.get? b=R o->b≠e->hd≠R b->b∉A0 l->h'.get? b=R o
 slot:∀b o,h.get? b=R o->b≠e->hd≠R b->∃sl,h'.get? b=R {o with slots:=sl}
 here:∀b o,h.get? b=R o->∃o',h'.get? b=R o'
section
variable{M:adG}{A:Vx}{E:UQ->UY->Prop}{s:UY}
def kW
  (I:A.frames=R (env::outer)) (B:s.heap.FunFrames base (env::outer)) (H:env.frame=R L) (C:s.heap.get? e=R U) (p:U.data=.fields fs) (m:1<fs.size) (h0:fs[0]?=R a0)
  (k:∀D T,s.heap.objs.size<=T->KK D e U.cls U.dict a0 (R T)->Lft (env::outer) e UO s.heap D->Q ⟨⟩ {s with heap:=D}):
  wpAny M A (frameOf env>>=λfr=>entryPlaceOf L nx>>=λpl=>EntryCells.newEntry hv fr .none (rawInt L) .none pl>>=λb=>setField (.ref e) 1 b) (λ_ V=>wpAny M A (setFlight (.ref e) UO) Q E V) E s:=by
 let j:e∉(env::outer).filterMap (·.frame):=λz=>by let(_,o,q,n):=B.mem z;rw[C]at q;ext q;show n fs p
 show Ld (wpAny_frameOf_fun I B H λa S=>?_);show Ld (wpAny_entryPlaceOf λpl P=>?_);unfold EntryCells.newEntry newFields;show Ld (V3 ?_ (P.sizeOk5 _ _ _ _ _));let y:=(S.2.1 e j).trans C;generalize X:({cls:=.type "traceback",dict:=UO,data:=.fields ([hv,.ref L,.none,rawInt L,.none]++(if pl.isEmpty then U8 6 UQ.none else pl)).toArray}:Obj)=N;let g:N.data=.fields ([hv,.ref L,.none,rawInt L,.none]++(if pl.isEmpty then U8 6 UQ.none else pl)).toArray:=by rw[<-X]
 let J:=d3 g;let w:=bP N y;show XO w p m ?_;let l:=Wd (cn y);let r:=dP p (·.setIfInBounds 1 (UQ.ref a.objs.size));let i:=da (Obj.mapFields (·.setIfInBounds 1 (UQ.ref a.objs.size))) w (d3 r)
 let u:=
  (cw (a.push N) (Obj.mapFields (·.setIfInBounds 1 (UQ.ref a.objs.size))) l.symm).trans (cv a J)
 ext setFlight;show Ld (VZ i r (x:=.ref a.objs.size) (by simp[m]) ?_);rw[av (show(UQ.ref a.objs.size !=UQ.none)=US from by simp)];let t:3<([hv,.ref L,.none,rawInt L,.none]++(if pl.isEmpty then U8 6 UQ.none else pl)).toArray.size:=by simp only[Va,UZ,Vd,WG];ext
 show XO u g t ?_;let v:=cw ((a.push N).update e (Obj.mapFields (·.setIfInBounds 1 (UQ.ref a.objs.size)))) (Obj.mapFields (·.setIfInBounds 3 ((UO:br UX).elim UQ.none λf=>rawInt f))) l;let F:=da (Obj.mapFields (·.setIfInBounds 3 ((UO:br UX).elim UQ.none λf=>rawInt f))) u (d3 (dP g _));let aaf:∀b o,b≠e->a.get? b=R o->(((a.push N).update e (Obj.mapFields (·.setIfInBounds 1 (UQ.ref a.objs.size)))).update a.objs.size (Obj.mapFields (·.setIfInBounds 3 ((UO:br UX).elim UQ.none λf=>rawInt f)))).get? b=R o:=λb o ne q=>by rw[cw _ _ (Wd (cn q)),cw _ _ ne.symm];show bP N q
 show k _ a.objs.size (by rw[S.1];show U1 _) #[_,_,v.trans i,Obj.cls_mapFields _ _,?_,r,?_,?_,l,_,_,F,dP g _,?_] #[λb o q ne _ G=>aaf b o ne ((S.2.1 b G).trans q),λb o q ne _=>?_,λb o q=>?_]
 .cases U with
  |mk c d K h=>ext K<;>rfl
 .rw[abK ()];show h0
 .simp[m]
 .rw[aaI t];rfl
 .let(h,z):=S.2.2 b o q;show#[h,aaf b _ ne z]
 .by_cases ne:b=e
  .subst ne;show#[_,v.trans i]
  .let(h,z):=S.2.2 b o q;show#[_,aaf b _ ne z]
def FV
  (v:A.frames=R (env::outer)) (u:s.heap.FunFrames base (env::outer)) (h:env.frame=R L) (F:KK s.heap e c dx a0 hd)
  (k:∀x T,s.heap.objs.size<=T->KK x e c dx a0 (R T)->Lft (env::outer) e hd s.heap x->Q ⟨⟩ {s with heap:=x}):wpAny M A (leaving env (.ref e)) Q E s:=by
 let(N,fs,q,I,H,d,w,r):=F;subst I H;cases hd with
 |none=>let r:=r;unfold leaving noteFrame;simp only[h];show Ld (Ld (VZ q d r ?_));rw[ax ()];show kW v u h q d (V1.mp r).1 w k
 |some T=>
  let(r,C,O,B,g,dT,p):=r;unfold leaving noteFrame;simp only[h];show Ld (Ld (VZ q d r ?_));rw[av (show(UQ.ref T !=UQ.none)=P from by simp)];show Ld (VZ g dT p ?_);rw[ax (show¬((UQ.none==rawInt L)=P)from by simp[rawInt])];show Ld (XO g dT (V1.mp p).1 ?_);let a:∀b,b≠T->(s.heap.update T (Obj.mapFields (·.setIfInBounds 3 UQ.none))).get? b=s.heap.get? b:=λb ne=>cw _ _ ne.symm;let f:=da (Obj.mapFields (·.setIfInBounds 3 UQ.none)) g (d3 (dP dT _));let m:∀b o,s.heap.get? b=R o->(∀U,o.data≠.fields U)->b≠T:=λb o z n y=>by rw[y,g]at z;ext z;show n B dT
  show kW v (u.of_keeps λb o z n=>#[o,(a b (m b o z n)).trans z,W]) h ((a e C.symm).trans q) d (V1.mp r).1 w λx J t K i=>k x J (by rw[Heap.size_after_update]at t;show t) K #[λb o z l j G=>?_,λb o z l j=>?_,λb o z=>?_]
  .show i.keep b o ((a b λy=>j (by rw[y])).trans z) l (by simp) G
  .show i.slot b o ((a b λy=>j (by rw[y])).trans z) l (by simp)
  .by_cases y:b=T
   .subst y;show i.here b _ f
   .show i.here b o ((a b y).trans z)
end
theorem Lft.Wn{P:Vn}{w:VJ}{l:G Env}{e:M}{hd:I M}{H:Hp}{h k:Heap}(L:Lft l e hd h k)(j:HOk P w H h)(ne:H e=S)(g:∀T,hd=R T->H T=S)(i:∀b∈A0 l,H b=S):HOk P w H k:=λb u q=>by
 let free:∀c v,H c=R v->c≠e/\hd≠R c/\c∉A0 l:=λc v z=>#[(λy=>by rw[y,ne]at z;ext z),(λy=>by rw[g c y]at z;ext z),(λy=>by rw[i c y]at z;ext z)];show(j b u q).aaf (λc v m z=>?_) (λ_ z=>z) λ_ _ z=>z;rcases m with y|y
 .rw[y]at z⊢;let(f,d,a):=free b u q;show L.keep b v z f d a
 .let(f,d,a):=free c _ y;show L.keep c v z f d a
def nw(P:Vn)(w:VJ):yw:=λa H s E x b=>
 ∃e c d a0 T H',x=.ref e/\s.heap.get? e=S/\s.heap.get? T=S/\KK b.heap e c d a0 (R T)/\H' e=S/\H' T=S/\
  b.os=s.os/\AllBare b.gens/\Un (A0 a) [] H H' s.heap b.heap/\HOk P w H' b.heap/\E c d H'
def Oj{P:Vn}{w:VJ}{K:UN}{x:Str->br UQ}{base:Heap}{N:bg Str}{h:Str}{a:YU}{f:UX}{u:UQ}{A:Vx}{outer:bg Env}{d:UY}{C:Hp}{E:XK}
  {j:bg (UX×Obj)} {G:L2.St} {H:Hp} {s:UY} {e:UX} {c v:UQ} {k hd:br UX} (I:L2.Inv (gM (nw P w) P w K x base N h a f u A outer d C E) j G H s)
  (F:KK s.heap e c k v hd) (t:d.heap.get? e=UO) (R:∀T,hd=lD T->d.heap.get? T=UO) (ne:H e=UO) (O:∀T,hd=lD T->H T=UO) (q:E c k H):
  (gM (nw P w) P w K x base N h a f u A outer d C E).xe (.ref e) s:=by
 let Y:=I.ok.frames;let X:=I.stack;show FV (L:=d.heap.objs.size) Y X W F λh' T r Z L=>?_;let Q:=L.Wn I.Wn ne O I.ab5;let U:H T=UO:=I.Wn.fresh r;let m:∀b o,d.heap.get? b=lD o->b<d.heap.objs.size:=λb o z=>cn z;let g:∀b o,d.heap.get? b=lD o->b≠e/\hd≠lD b:=λb o z=>#[(λy=>by rw[y,t]at z;ext z),(λy=>by rw[R b y]at z;ext z)];let sz:=I.sz;show#[e,c,k,v,T,H,W,t,dN (VT sz r),Z,ne,U,I.os,I.bare,?_,Q,q];let B:=I.base;show#[λb o z n p _=>?_,λb o z n S _=>?_,λb o z n _=>?_,λb o z _=>?_,B.abI,B.abp,B.abH]
 .let i:=B.keep b o z n p (λy=>nomatch y)
  show L.keep b o i (g b o z).1 (g b o z).2 λy=>?_;rcases Vm.mp (I.abE b y)with y|y
  .let y:b=d.heap.objs.size:=y;show a6 (m b o z) (by rw[y];show Wi _)
  .show p y
 .let(sl,i):=B.slot b o z n S (λy=>nomatch y);let(l,J):=L.slot b _ i (g b o z).1 (g b o z).2;show#[l,J]
 .show B.free b o z n (λy=>nomatch y)
 .let(M,i):=B.there b o z (λy=>nomatch y);show L.here b M i
def u0{P:Vn}{w:VJ}{K:UN}{k:Str->br B}{base:Heap}{N:G Str}{d:Str}{a:YU}{f:M}{j:B}{A:Vx}{outer:G Env}{g:UY}{n:Hp}{E:XK}:
  gF (nw P w) (gM (nw P w) P w K k base N d a f j A outer g n E) E:=by
 rintro i p H s x r I ⟨e,c,L,u,T,v,rfl,le,J,F,ne,C,os,bare,un,Wn,q⟩;let m:=I.aff (ch:=[]) os un Wn bare (λb z=>nomatch z);let old:∀b,s.heap.get? b=S->g.heap.get? b=S:=λb z=>by
  cases y:g.heap.get? b with
  |none=>rfl
  |some o=>let(t,h):=I.base.there b o y (λy=>nomatch y);rw[z]at h;ext h
 show Oj m F (old e le) (λl z=>by ext z;show old T J) ne (λl z=>by ext z;show C) q
def Qy(x:ObjOk b w H h a o):∃c,h.get? a=R c:=by
 cases o with
 |lst xs=>let(_,_,_,_,e):=x;show#[_,e]
 |tup xs=>let(_,_,_,c,e,_):=x;show#[c,e]
 |dK g=>let(_,_,_,_,o,_,_,e,_):=x;show#[o,e]
 |dT g=>let(_,_,_,_,o,_,_,e,_):=x;show#[o,e]
 |set S n=>let(o,_,_,_,e,_):=x;show#[o,e]
 |ins C l fs=>let(_,_,_,e,_):=x;show#[_,e]
 |own y=>show x
 |xd fs=>let(_,(o,_,_,e,_),_):=x;show#[o,e]
 |rng lo j=>let(_,_,_,e):=x;show#[_,e]
 |frz c u=>show#[c,x.1]
 |tbl i=>show#[_,x]
 |met f y=>show#[_,x]
 |ext d=>show x.2.1
 |exw d=>show x.2.1
def zq(k:HOk d w H h)(n:h.get? a=S):H a=S:=by
 cases q:H a with
 |none=>rfl
 |some o=>let(b,z):=Qy (k a o q);rw[n]at z;ext z
section
variable{M:adG}{A:Vx}{E:UQ->UY->Prop}{s:UY}
def LV{base:Heap}{env:Env}{outer:bg Env}{L e:UX}{c B:UQ}{D hd:br UX}{Q:Unit->UY->Prop}
  (v:A.frames=R (env::outer)) (u:s.heap.FunFrames base (env::outer)) (h:env.frame=R L) (F:KK s.heap e c D B hd)
  (k:∀x T,s.heap.objs.size<=T->KK x e c D B (R T)->Lft (env::outer) e hd s.heap x->Q ⟨⟩ {s with heap:=x}):
  wpAny M A (noteFrame (.ref e) env) (λ_ s2=>wpAny M A (setFlight (.ref e) S) Q E s2) E s:=by
 let(O,fs,q,J,I,d,w,r):=F;subst J I;cases hd with
 |none=>let r:fs[1]?=R .none:=r;ext noteFrame;simp only[h];show Ld (VZ q d r ?_);rw[ax ()];show kW v u h q d (V1.mp r).1 w k
 |some T=>
  let(r,G,P,C,g,dT,p):=r;ext noteFrame;simp only[h];show Ld (VZ q d r ?_);rw[av (show(UQ.ref T !=UQ.none)=US from by simp)];show Ld (VZ g dT p ?_);rw[ax (show¬((UQ.none==rawInt L)=US)from by simp[rawInt])];show Ld (XO g dT (V1.mp p).1 ?_);let a:∀b,b≠T->(s.heap.update T (Obj.mapFields (·.setIfInBounds 3 UQ.none))).get? b=s.heap.get? b:=λb ne=>cw _ _ ne.symm;let f:=da (Obj.mapFields (·.setIfInBounds 3 UQ.none)) g (d3 (dP dT _));let m:∀b o,s.heap.get? b=R o->(∀U,o.data≠.fields U)->b≠T:=λb o z n y=>by rw[y,g]at z;ext z;show n C dT
  show kW v (u.of_keeps λb o z n=>#[o,(a b (m b o z n)).trans z,W]) h ((a e G.symm).trans q) d (V1.mp r).1 w λx K t N i=>k x K (by rw[Heap.size_after_update]at t;show t) N #[λb o z l j H=>?_,λb o z l j=>?_,λb o z=>?_]
  .show i.keep b o ((a b λy=>j (by rw[y])).trans z) l (by simp) H
  .show i.slot b o ((a b λy=>j (by rw[y])).trans z) l (by simp)
  .by_cases y:b=T
   .subst y;show i.here b _ f
   .show i.here b o ((a b y).trans z)
def OZ{e T:UX}{c l:B}{y:I UX}{Q:Unit->UY->Prop}(F:KK s.heap e c y l (R T))
  (k:∀x,KK x e c y l (R T)->(∀b,b≠T->x.get? b=s.heap.get? b)->(∃o,x.get? T=R o)->Q ⟨⟩ {s with heap:=x}):wpAny M A (setFlight (.ref e) S) Q E s:=by
 let(n,fs,q,t,p,d,u,r,j,w,v,i,dT,m):=F;ext setFlight;show Ld (VZ q d r ?_);rw[av (show(UQ.ref T !=UQ.none)=P from by simp)];let h:=(V1.mp m).1;show XO i dT h ?_;let g:∀b,b≠T->(s.heap.update T (Obj.mapFields (·.setIfInBounds 3 ((S:I UX).elim UQ.none λf=>rawInt f)))).get? b=s.heap.get? b:=λb ne=>cw _ _ ne.symm;let a:=da (Obj.mapFields (·.setIfInBounds 3 ((S:I UX).elim UQ.none λf=>rawInt f))) i (d3 (dP dT _));show k _ #[n,fs,(g e j.symm).trans q,t,p,d,u,r,j,_,_,a,dP dT _,?_] g #[_,a];rw[aaI h];rfl
end
section
variable{P:Vn}{w:VJ}{K:UN}{mg:Str->br UQ}{base:Heap}{N:bg Str}{qual:Str}{scope:YU}{f:UX}{cd:UQ}{A:Vx}{outer:bg Env}{s0:UY}{H0:Hp}{E:XK}{CX:yw}
  {σ:L2.St} {H:Hp} {s:UY} {h':Heap} {X:Cx}
def AQ(I:L2.Inv X [] σ H s)(S:UX->Prop)(G:X.ex=[])(t:∀p∈X.pn,¬S p.1)(keep:∀b o,s.heap.get? b=lD o->¬S b->b∉A0 X.stack->h'.get? b=lD o)
  (slot:∀b o,s.heap.get? b=lD o->¬S b->∃k,h'.get? b=lD {o with slots:=k}) (h:∀b o,s.heap.get? b=lD o->∃D,h'.get? b=lD D)
  (T:∀b,S b->X.s₀.heap.get? b=UO) (O:¬S X.env.locals) (R:∀x c,X.env.cells.lookup x=lD c->¬S c) (Q:∀b,S b->H b=UO):L2.Inv X [] σ H {s with heap:=h'}:=by
 let L:∀b o,X.s₀.heap.get? b=lD o->¬S b:=λb o z y=>by rw[T b y]at z;ext z
 let g:∀b,b∉X.ex:=λb z=>by rw[G]at z;ext z
 let B:=I.base;let a:∀x c,X.env.cells.lookup x=lD c->∀v,s.heap.IsCell c v->h'.IsCell c v:=λx c z v #[o,F,J]=>by let(k,q):=slot c o F (R x c z);show#[_,q,J]
 show#[I.ok,I.os,I.bare,#[λb o z n e _=>?_,λb o z n Y _=>?_,λb o z n x=>B.free b o z n x,λb o z x=>?_,B.abI,B.abp,B.abH],?_,λx c z=>?_,I.free,I.YE,λp C=>?_,λb u q=>?_,I.len]
 .let d:=B.keep b o z n e (g b)
  show keep b o d (L b o z) λy=>?_;rcases Vm.mp (I.abE b y)with y|y
  .rw[y]at z;show a6 (cn z) (Nat.not_lt_of_le I.ok.above)
  .show e y
 .let(k,d):=B.slot b o z n Y (g b);let(j,M):=slot b _ d (L b o z);show#[j,M]
 .let(D,d):=B.there b o z x;show h b D d
 .let(m,hn,U):=I.loc
  let(o,es,ep,F,J,r):=hn;let(k,q):=slot _ o F O;show#[m,#[_,es,ep,q,J,r],λi x v a1 a2 a3=>?_];let(u,rv,l):=U i x v a1 a2 a3;show#[u,rv,?_];rcases l with l|⟨kd,c,z,y⟩
  .show .inl l
  .show .inr #[kd,c,z,a x c z _ y]
 .let(v,y):=I.cell x c z;show#[v,a x c z v y]
 .let(z,n,ne,e,dd):=I.pin p C
  rw[Vz]at C;show#[keep p.1 p.2 z (t p C) (λy=>?_),n,ne,e,dd];rcases Vm.mp (I.abE _ y)with y|y
  .show ne y
  .show e y
 .let free:∀c v,H c=lD v->¬S c/\c∉A0 X.stack:=λc v z=>#[(λy=>by rw[Q c y]at z;ext z),(λy=>by rw[I.ab5 c y]at z;ext z)]
  show(I.Wn b u q).aaf (λc v Z z=>?_) (λ_ z=>z) λ_ _ z=>z;rcases Z with y|y
  .rw[y]at z⊢;show keep b v z (free b u q).1 (free b u q).2
  .show keep c v z (free c _ y).1 (free c _ y).2
end
section
variable{M:adG}{A:Vx}{E:UQ->UY->Prop}{h:Heap}{g:Array Zr}{d:aeG}{t:Nat}{os:adz}
def HE{C U e:UX}{j:Obj}{z w y v:Str}{D x:UX}{b1 l s a:bg UQ}{Z Y:Bool}{u r:bg Str}{q p:bg UQ}{a1 a2:Bool}{k c:br Bool}{o n:br UX}{O N L K J I H G F B:br UQ}{f b:String}{Q:Bool->UY->Prop}
  (X:h.get? C=lD (excClassObj z w C D b1 l Z u q a1 k o O N L K J f)) (m:h.get? U=lD (excClassObj y v U x s a Y r p a2 c n I H G F B b)) (R:h.get? e=lD j) (S:j.cls=.ref C)
  (T:a.contains (.type "BaseException")=US) (hm:(UQ.ref C::l).contains (.ref U)=US) (P:Q US #[h,g,d,t,os]):wpAny M A (excMatches (.ref e) (.ref U)) Q E #[h,g,d,t,os]:=by
 let i:(UQ.ref U::a).contains (.type "BaseException")=US:=by rw[Zu,T,aap]
 let ft:=tc_notTuple;ext excMatches
 repeat (first|(specialize W3 R ?_;rw[S])|specialize W3 m ?_|(specialize Yu m ?_;rw[i])|(specialize Yu X ?_;rw[hm])|wp_step)
 show P
end
abbrev Cx.marked(X:Cx)(e:M):Cx:={X with A:=X.A.mark (R (.ref e)),calm:=U0,xe:=λ_ _=>False}
section
variable{X:Cx}{Z:L2.St}{H:Hp}{s:UY}{Y:Heap}{e:UX}
theorem ub(I:L2.Inv X [] Z H s)(e:M):L2.Inv (Cx.marked X e) [] Z H s:=
 #[#[I.ok.mod,I.ok.kind,I.ok.glob,I.ok.blt,I.ok.above,I.ok.inj,I.ok.has,I.ok.cab,(λz=>nomatch z),I.ok.frames,I.ok.stk,I.ok.exf,I.ok.bs,I.ok.bsz,I.ok.ado,I.ok.ady,I.ok.aba,I.ok.frf],I.os,I.bare,I.base,I.loc,I.cell,I.free,I.YE,I.pin,I.Wn,I.len]
theorem Bk(ok:X.Ok)(I:L2.Inv (Cx.marked X e) [] Z H s):L2.Inv X [] Z H s:=
 #[ok,I.os,I.bare,I.base,I.loc,I.cell,I.free,I.YE,I.pin,I.Wn,I.len]
def F8(I:L2.Inv X [] Z H s){f:Obj}(g:∀p∈X.pn,p.1≠e)(q:s.heap.get? e=R f)(ne:H e=S)(m:X.s₀.heap.get? e=S)(j:e≠X.env.locals)(l:∀x c,X.env.cells.lookup x=R c->c≠e):L2.Inv X [] Z (bJ H e (.frz f (.own e))) s:=by
 let i:∀b o,X.s₀.heap.get? b=R o->b≠e:=λb o z y=>by rw[y,m]at z;ext z
 let a:∀b o,H b=R o->b≠e:=λb o z y=>by rw[y,ne]at z;ext z
 let B:=I.base;show#[I.ok,I.os,I.bare,#[B.keep,B.slot,λb o z n x=>?_,B.there,λb xs z=>?_,λb o u z=>?_,λb t z=>?_],I.loc,I.cell,?_,λx c z=>?_,λp h=>?_,λb u z=>?_,I.len]
 .rw[aF (i b o z)];show B.free b o z n x
 .let:=B.abI b xs z;rw[aF (a b _ this)];show this
 .let:=B.abp b o u z;rw[aF (a b _ this)];show this
 .let(d,y):=B.abH b t z;show#[d,by rw[aF (a b _ y)];show y]
 .rw[aF j.symm];show I.free
 .rw[aF (l x c z)];show I.YE x c z
 .let(z,n,r):=I.pin p h;rw[Vz]at h;show#[z,by rw[aF (g p h)];show n,r]
 .by_cases y:b=e
  .subst y;rw[aO]at z;ext z;show#[q,f,q]
  .rw[aF y]at z;show(I.Wn b u z).aaf (λ_ _ _ y=>y) (λc y=>by rw[aF (a c _ y)];show y) λc xs y=>by rw[aF (a c _ y)];show y
def FW{M:adG}{A:Vx}{E:UQ->UY->Prop}(I:L2.Inv X [] Z H s){n:Str}{i:Nat}{pos:Pos}{Q:Unit->UY->Prop}(D:X.N.Nodup)(l:X.N[i]?=R n)(f:X.env.kindOf n=R .local)
  (k:∀h,L2.Inv X [] (Z.set i UO) H h->Q ⟨⟩ h):wpAny M A (do bindName X.env n .none;unbindBehindTheSuite X.env n pos) Q E s:=by
 let(m,hn,hl):=id I.loc;let g:(X.env.scope.kind==.class||(X.env.scope.kind==.module&&X.env.locals !=X.env.globals))=U0:=by rw[I.ok.kind];rfl
 show wpAny_nameGoes_keeps f hn g λh2 v hm S=>k _ ?_;let B:=I.base;let cne:=I.cne;let old:∀b o,X.s₀.heap.get? b=R o->h2.get? b=s.heap.get? b:=λb o z=>S.2 b (Vk (Vo (cn z) I.ok.above));let d:i<Z.length:=by rw[I.len];show(UP.mp l).1
 show#[I.ok,I.os,I.bare,#[λb o z n T x=>(old b o z).trans (B.keep b o z n T x),λb o z n hf x=>?_,B.free,λb o z x=>?_,B.abI,B.abp,B.abH],#[_,hm,λj y t a1 a2 a3=>?_],λy c z=>?_,I.free,I.YE,λp U=>?_,λb u z=>?_,by rw[V2];show I.len]
 .let(J,y):=B.slot b o z n hf x;show#[J,(old b o z).trans y]
 .let(N,y):=B.there b o z x;show#[N,(old b o z).trans y]
 .by_cases hj:j=i
  .subst hj;rw[Wg d]at a2;ext a2
  .rw[VX (ef hj)]at a2
   let(C,L,q):=hl j y t a1 a2 a3;show#[C,L,?_];rcases q with⟨kd,z⟩|⟨kd,c,z,w⟩
   .show .inl #[kd,?_];let:y≠n:=λz=>hj (uX D a1 (z▸l));simp[this,z]
   .show .inr #[kd,c,z,w.sameBut S (cne y c z)]
 .let(w,a):=I.cell y c z;show#[w,a.sameBut S (cne y c z)]
 .let(z,n,ne,r):=I.pin p U;show#[(S.2 p.1 ne).trans z,n,ne,r]
 .let free:∀c u,H c=R u->c≠X.env.locals:=λc u z y=>by rw[y,I.free]at z;ext z
  show(I.Wn b u z).aaf (λc w hc y=>(S.2 c ?_).trans y) (λ_ y=>y) λ_ _ y=>y;rcases hc with a|a
  .rw[a];show free b u z
  .show free c _ a
end
def ze(K:UN)(C:M)(m:G B):Prop:=∃nm q N bs hd sn sub g col dd f e d b a id,K.lookup C=R (excClassObj nm q C N bs m hd sn sub g col dd f e d b a id)
structure Apart(X:Cx)(a:M):Prop where
 n0:X.s₀.heap.get? a=S
 nL:a≠X.env.locals
 nC:∀y c,X.env.cells.lookup y=R c->c≠a
 nP:∀p∈X.pn,p.1≠a
def GB(X:Cx)(f:XK):B->UY->Prop:=λx a=>∃b H1 e c d a0 T,x=.ref e/\L2.Inv X [] b H1 a/\KK a.heap e c d a0 (R T)/\Apart X e/\Apart X T/\H1 e=S/\H1 T=S/\f c d H1
def u6(I:L2.Inv X pins σ H s)(d:X.ex=[])(n:s.heap.get? a=S):Apart X a:=by
 let ne:∀b o,s.heap.get? b=R o->b≠a:=λb o z y=>by rw[y,n]at z;ext z
 show#[?_,?_,λy c z=>?_,λp g=>?_]
 .cases z:X.s₀.heap.get? a with
  |none=>rfl
  |some o=>let(f,y):=I.base.there a o z (by rw[d];simp);show a6 W (ne a f y)
 .let(m,(o,_,_,z,_),_):=I.loc;show(ne _ o z).symm
 .let(v,o,e,_):=I.cell y c z;show ne c o e
 .show ne _ _ (I.pin p (Wv _ g)).1
def CJ{X:Cx}(a:X.ex=[]):gF (nw X.prog X.w) (X.abc (GB X C)) C:=by rintro f g H s x l I ⟨e,c,o,h,T,j,rfl,le,n,F,ne,m,os,bare,un,Wn,q⟩;let d:=I.Zo;let i:=d.aff os un Wn bare (λb z=>nomatch z);show#[g,j,e,c,o,h,T,W,i.ac2 (λp z=>nomatch z),F,u6 d a le,u6 d a n,ne,m,q]
def Sx(k:XK)(i:Nat)(h g:TS):TS:=λD f H=>h D f H/\∀c l H1,k c l H1->∀(a:L2.St) (e:M) (b:Obj),a.length=f.length->H1 e=S->b.cls=c->b.dict=l->aeZ b=P->
 g {nx:=λd j=>D.nx (d.set i S) j,rt:=λ_ _=>False} (a.set i (R (.ref e))) (bJ H1 e (.frz b (.own e)))
abbrev Cx.pinned(X:Cx)(l:G (M×Obj)):Cx:={X with pn:=l}
theorem MN(I:L2.Inv X pins σ H s):L2.Inv (Cx.pinned X (X.pn++pins)) [] σ H s:=
 #[#[I.ok.mod,I.ok.kind,I.ok.glob,I.ok.blt,I.ok.above,I.ok.inj,I.ok.has,I.ok.cab,I.ok.hd,I.ok.frames,I.ok.stk,I.ok.exf,I.ok.bs,I.ok.bsz,I.ok.ado,I.ok.ady,I.ok.aba,I.ok.frf],I.os,I.bare,I.base,I.loc,I.cell,I.free,I.YE,(λp a=>I.pin p (by rw[Vz]at a;show a)),I.Wn,I.len]
theorem j8(ok:X.Ok)(I:L2.Inv (Cx.pinned X (X.pn++pins)) [] σ H s):L2.Inv X pins σ H s:=
 #[ok,I.os,I.bare,I.base,I.loc,I.cell,I.free,I.YE,(λp a=>I.pin p (by rw[Vz];show a)),I.Wn,I.len]
def Pi
  (hex:X.ex=[]) (hN:X.N.Nodup) (dW:X.stack=X.env::X.outer) (hfr:X.env.frame=R X.env.locals) (hg:Gl X x) (hm:X.mg x=R (.ref U)) (hU:ze X.K U mU) (hbU:mU.contains (.type "BaseException")=P)
  (hi:X.N[i]?=R n) (N:X.env.kindOf n=R .local) (hb:∀l,PSs ((Cx.pinned X l).abc (GB (Cx.pinned X l) E2)) body tb) (hs:∀l e,PSs (Cx.marked (Cx.pinned X l) e) (b0::aix) ts)
  (hE:∀c V H,E2 c V H->∃C m,c=.ref C/\ze X.K C m/\(UQ.ref C::m).contains (.ref U)=P) (hdb:(x==("__debug__":Str))=U0:=by decide):
  PS X (.Try body [.ExceptHandler (R (.Name x np)) (R n) (b0::aix) apD] [] [] pos) (Sx E2 i tb ts):=by
 intro pins s σ H D I #[h,hc];let IY:=MN I;let Q:=hex;show wpAny_Try_except (wpAny_mono (hb (X.pn++pins) [] s σ H D (IY.abc _) h) (λf s1 hf=>?_) (λv s1 hx=>?_))
 .let hf:=SP.Zo hf
  cases f with
  |next=>let(a,H1,d,A):=hf;show ZD #[a,H1,j8 I.ok d,A]
  |brk=>let(a,H1,d,A):=hf;show#[a,H1,j8 I.ok d,A]
  |cont=>let(a,H1,d,A):=hf;show#[a,H1,j8 I.ok d,A]
  |ret u=>let(v,a,H1,d,r,A):=hf;show#[v,a,H1,j8 I.ok d,r,A]
 .let(a,H1,e,c,V,a0,T,rfl,d,F,E,aT,ne,nT,q):=hx
  let(C,mC,hcC,(n1,A,N1,b1,d1,t1,u1,a1,l1,x1,i0,i1,i2,i3,i5,id1,kC),hup):=hE c V H1 q;let(n2,q2,N2,b2,d2,t2,u2,a2,l2,x2,j0,j1,j2,j3,j5,id2,kU):=hU;let fr:X.A.frames=R (X.env::X.outer):=by rw[<-dW];show I.ok.frames
  let ff:s1.heap.FunFrames X.base (X.env::X.outer):=by rw[<-dW];show d.stack
  show LV fr ff hfr F λh2 T2 z2 F2 Y=>?_
  let I2:=AQ d (λb=>b=e\/b=T) Q (λp hp y=>y.elim (E.nP p hp) (aT.nP p hp))
   (λb o z j nf=>Y.keep b o z (λy=>j (.inl y)) (λy=>j (.inr (Vi y).symm)) (by rw[<-dW];show nf))
   (λb o z j=>Y.slot b o z (λy=>j (.inl y)) (λy=>j (.inr (Vi y).symm))) Y.here
   (λb y=>y.elim (λy=>by rw[y];show E.n0) (λy=>by rw[y];show aT.n0)) (λy=>y.elim (λy=>E.nL y.symm) (λy=>aT.nL y.symm))
   (λy k z w=>w.elim (E.nC y k z) (aT.nC y k z)) (λb y=>y.elim (λy=>by rw[y];show ne) (λy=>by rw[y];show nT))
  let t:=u6 d Q (dN z2);let nT2:=d.Wn.fresh z2;show wpAny_handleBy_cons (codeAny_handlers_test (mJ (ub I2 e) hg hm ?_ hdb)) (by nofun);let F2':=F2;let(ob,fs,qe,cE,dE,dF,_):=F2';show HE (I2.kIn _ _ kC) (I2.kIn _ _ kU) qe (cE.trans hcC) hbU hup ?_;show codeAny_handlers_suite_as (OZ F2 λh3 F3 g hT3=>?_);let neT:e≠T2:=λy=>by let(_,_,_,_,_,_,_,_,w,_):=F2;show w y.symm
  let I3:=AQ I2 (λb=>b=T2) Q (λp hp y=>t.nP p hp y)
   (λb o z j _=>(g b j).trans z) (λb o z j=>#[o.slots,(g b j).trans z])
   (λb o z=>(Classical.em (b=T2)).elim (λy=>by rw[y];show hT3) (λy=>#[o,(g b y).trans z])) (λb y=>by rw[y];show t.n0) (λy=>t.nL y.symm) (λy k z w=>t.nC y k z w) (λb y=>by rw[y];show nT2)
  let I4:=F8 I3 E.nP ((g e neT).trans qe) ne E.n0 E.nL E.nC;show qj (X:=Cx.marked (Cx.pinned X (X.pn++pins)) e) (ub I4 e) hN hi (.inl N) (v:=.ref e) W (λs4 I5=>?_) (.inr N);let w:=hc c V H1 q a e ob (d.len.trans I.len.symm) ne cE dE (by ext aeZ;rw[dF]);show wpAny_mono (hs (X.pn++pins) e [] s4 _ _ _ I5 w) (λf s5 hf=>?_) (λy s5 z=>z.elim);cases f with
  |next=>let(J,H2,I6,L):=hf;show FW (Bk IY.ok I6) hN hi N λs6 I7=>#[_,_,j8 I.ok I7,L]
  |brk=>let(J,H2,I6,L):=hf;show L.elim
  |cont=>let(J,H2,I6,L):=hf;show L.elim
  |ret u=>let(v,J,H2,I6,r,L):=hf;show L.elim
end L4
namespace L4
open PySem PySem.Spec PySem.W PyProof.Rows L2 L3
section
variable{X:Vn}{w:VJ}{A:Vx}{E:UQ->UY->Prop}{h:Heap}{g:Array Zr}{d:aeG}{t:Nat}{U:adz}{a C:UX}{o:Obj}{K:UN}
  {T N:Str} {L:UX} {J Z:bg UQ} {z:Bool} {y:bg Str} {v:bg UQ} {u:Bool} {r:br Bool} {q:br UX} {i0 i1 i2 i3 i5:br UQ} {Y:String}
def B2{M:adG}{b:B}{Q:Unit->UY->Prop}(j:h.get? C=R (excClassObj T N C L J Z z y v u r q i0 i1 i2 i3 i5 Y))(i:Z.contains (.type "BaseException")=P)
  (e:h.get? a=R o) (f:o.cls=.ref C) (k:Q ⟨⟩ #[h,g,d,t,U]):wpAny M A (checkBuiltinCall "BaseException.__getattribute__" #[[.ref a,b],[]]) Q E #[h,g,d,t,U]:=by
 let n:builtinKind "BaseException.__getattribute__"=R .slot:=by left
 let m:splitId "BaseException.__getattribute__"=R ("BaseException","__getattribute__"):=by left
 let l:(UQ.ref C::Z).contains (.type "BaseException")=P:=by rw[Zu,i,aap]
 let p:=F.args_bexc_ga (.ref a) b;simp only[checkBuiltinCall,n,m];show Ld ?_;ext isInstance
 repeat (first|(specialize W3 e ?_;rw[f])|(specialize Yu j ?_;rw[l])|wp_step)
 show k
structure adX(K:UN)(C:M)(m:G B):Prop where
 cl:ze K C m
 be:m.contains (.type "BaseException")=P
 ga:findIn K (.ref C) "__getattribute__"=R (R (.builtin "BaseException.__getattribute__"))
 gt:findIn K (.ref C) "__getattr__"=R S
 cs:findIn K (.ref C) "__class__"=R (R (.builtin "object.__class__"))
 ob:mroIn K C (.type "object")=R P
end
end L4
namespace HT
open PySem PySem.Spec PyProof.Rows
section
variable{Y:Vn}{w:VJ}{A:Vx}{E:UQ->UY->Prop}{s:UY}
def getItem_tuple_all{t b:M}{items:Array B}{j i:B}{lo c:I Int}{Q:B->UY->Prop}(a:IsTup s.heap t items)(k:s.heap.IsSliceOf b j i .none)(pl:aav j lo)(n:aav i c)
  (l:sIx items.size 0 lo=0/\sIx items.size items.size c=items.size) (h:Q (.ref t) s):wpAny (model Y w) A (getItem (.ref t) (.ref b)) Q E s:=by
 let(o,d,e,p):=id k;let f:s.TypeIs (.ref b) "slice":=#[o,d,e];ext getItem
 try specialize Wa ?_
 first|show Ld (UT ?_)|skip
 show Ld (acp a.typeIs () ?_);show Ld (WB (name:=Str.ofString "__getitem__") a.typeIs VV
  (WX VV a.typeIs entry_tuple_getitem ?_ (args_tuple_getitem _ _)))
 show wpAny _ _ (Builtin.Tuple.tupleItemsOf (.ref t)>>=_) _ _ s;show Ld (tupleItemsOf_ a ?_);show Ld (XZ f ?_);rw[av ()];show Ld (ke k pl n ?_);let g:((((sIx items.size 0 lo:Nat):Int)==0&&(1:Int)==1&&(sIx items.size items.size c - sIx items.size 0 lo)==items.size)=P):=by rw[l.1,l.2];simp
 show wpAny _ _ (if(((sIx items.size 0 lo:Nat):Int)==0&&(1:Int)==1&&(sIx items.size items.size c - sIx items.size 0 lo)==items.size)=P then _ else _) _ _ s;rw[av g];show Ld (m:=Builtin.Tuple.tupleIsExact _) ?_;ext Builtin.Tuple.tupleIsExact;show Ld (XZ a.typeIs (UT ?_));rw[av ()];show Ld (aa2 ?_);show UT #[_,W,UT h]
end
end HT
namespace L3
open PySem PySem.Spec PyProof.Rows L2
def Sb(K:UN):V->I Int->I Int->Hp->VK->Prop:=λx lo b H Q=>∃(a:M) (xs:G V),x=.ref a/\Zw K H a xs/\(HT.sIx xs.length 0 lo=0/\HT.sIx xs.length xs.length b=xs.length)/\Q (.ref a) H
def HK{X:Cx}:Rf X (Sb X.K):=by
 intro d s n H x v p o lo w t Q I f l pl g h;let(a,xs,rfl,i,j,q):=h;ext f;let(m,r,e,u):=I.tuple i;let b:m.toArray.size=xs.length:=by rw[Va];show r.length.symm
 show#["tuple",_,VV.lookup,e.typeIs,?_];show HT.getItem_tuple_all e l pl g (by rw[b];show j) #[.ref a,H,I,W,q]
def OS(K:UN):V->I Int->I Int->Hp->VK->Prop:=λx lo a H Q=>OH K x lo a H Q\/Sb K x lo a H Q
def xa{X:Cx}:Rf X (OS X.K):=by
 intro a s b H x v e d lo j f Q I g i pl h q;rcases q with q|q
 .show yd a s b H x v e d lo j f Q I g i pl h q
 .show HK a s b H x v e d lo j f Q I g i pl h q
def TK:D->I Int->I Int->I RV
 |.list ds,lo,a=>R (.ow (nV ds lo a))
 |.tuple ds,lo,a=>R (.fz (.tuple (nV ds lo a)))
 |_,_,_=>S
def K4{ds:G D}{lo a:I Int}(h:HT.sIx ds.length 0 lo=0/\HT.sIx ds.length ds.length a=ds.length):nV ds lo a=ds:=by ext nV;rw[h.1,h.2,acD,adJ,W6]
def Rx{K:UN}:TU K (OS K) TK:=by
 intro O H x lo h j i Q n b e q;cases j with
 |list ds=>show .inl (pQ O H x lo h _ i Q n b e q)
 |tuple ds=>
  ext e;by_cases d:HT.sIx ds.length 0 lo=0/\HT.sIx ds.length ds.length h=ds.length
  .let(a,xs,rfl,g,f):=Ce b;rw[K4 d]at q;show .inr #[a,xs,W,g.1,by rw[f.length];show d,q.at (.tup g f)]
  .show .inl (pQ O H x lo h (.tuple ds) _ Q n b ?_ q)
   show(if gn ds.length lo h=P then S else R (RV.fz (.tuple (nV ds lo h))))=_;let z:gn ds.length lo h=U0:=by ext gn;show a4 d
   rw[z,ax Vg]
 |_=>ext e
section
variable{K:UN}{E:XK}
end
end L3
namespace L9
open PySem PySem.Spec PyProof.Rows
section
variable{M:adG}{A:Vx}{E:UQ->UY->Prop}{Y:Env}
variable{nm q:Str}{C N:UX}{bs Z:bg UQ}{hdct:Bool}{sn:bg Str}{sub:bg UQ}{ab:Bool}{col:br Bool}{dd:br UX}{k0 k1 k2 k3 k5:br UQ}{newId:String}
def jP(i:Z.contains (.type "BaseException")=P)(o:A.handled=S)
  (h:wpAny M A x (λv c=>∃e k,v=.ref e/\c.heap.get? C=R (excClassObj nm q C N bs Z hdct sn sub ab col dd k0 k1 k2 k3 k5 newId)/\c.heap.get? e=R k/\k.cls=.ref C/\(∃fs,k.data=.fields fs/\fs[1]?=R UQ.none)/\E (.ref e) c) E s):
  wpAny M A (raiseStmt Y (R x) S) Q E s:=by
 let f:(UQ.ref C::Z).contains (.type "BaseException")=P:=by rw[Zu,i,aap]
 ext raiseStmt;show Ld (wpAny_mono h (λv c a=>?_) λ_ _ x=>x);let(e,k,rfl,m,p,l,(fs,j,b),r):=a;let(y,w,n):=k;dsimp only at l j;subst l j;let(z,g,d,t,u):=c
 repeat (first|specialize W3 p ?_|specialize W3 m ?_|(specialize Yu m ?_;rw[f])|wp_step)
 rw[b]
 repeat wp_step
 show agk o r
end
section
variable{J:Vn}{w:VJ}{A:Vx}{E:UQ->UY->Prop}{h:Heap}{g:Array Zr}{d:aeG}{t:Nat}{os:adz}
variable{nm q:Str}{C N:UX}{bs S Z:bg UQ}{hdct:Bool}{sn:bg Str}{sub:bg UQ}{ab:Bool}{col:br Bool}{dd:br UX}{k0 k1 k2 k3 k5:br UQ}{B P L Y R X:String}{U:bg UQ}
def sD(y:YY P L X U)(j:Z.contains (.type P)=US)(F:YY B Y R Z)(T:ahq h Z S)
  (i:h.get? C=lD (excClassObj nm q C N bs S hdct sn sub ab col dd k0 k1 k2 k3 k5 L)) (s:h.Ns N mN) (D:mN "__init__"=lD (.ref fI)) (p:h.get? fI=lD oI) (n:oI.cls=.type "function")
  (G:∀k e,Heap.MadeExcOf h k e (.ref C) rest->wpAny (model J w) A (call (.ref fI) (.ref e::rest)) (λr c=>r=.none/\Q (.done (.ret (.ref e))) c) E #[k,g,d,t,os]) (hrest:rest.length<=Vb):
  wpAny (model J w) A (Builtin.«type.__call__» #[.ref C::rest,[]]) Q E #[h,g,d,t,os]:=by
 repeat (first|specialize W3 i ?_|specialize wpAny_madeBy_exc i ?_|wp_step)
 show codeAny_call_builtin_code (adi.quiet_builtin _ y.quiet) (wpAny_check_new_subU y j T i ?_);show codeAny_exc_new_subU y j F T i ?_ hrest
 let a:=bP {cls:=.ref C,data:=.fields #v[.ref h.objs.size,.none,.none,.none,.bool U0,.none]}
  (bP {cls:=.type "tuple",data:=.seq rest.toArray} i)
 let v:=bP {cls:=.ref C,data:=.fields #v[.ref h.objs.size,.none,.none,.none,.bool U0,.none]}
  (bP {cls:=.type "tuple",data:=.seq rest.toArray} p)
 let f:((h.push {cls:=.type "tuple",data:=.seq rest.toArray}).push {cls:=.ref C,data:=.fields #v[.ref h.objs.size,.none,.none,.none,.bool U0,.none]}).Ns N mN:=
  let#[o,es,ep,e,r]:=s;#[o,es,ep,bP _ (bP _ e),r]
 let l:((h.push {cls:=.type "tuple",data:=.seq rest.toArray}).push
   {cls:=.ref C,data:=.fields #v[.ref h.objs.size,.none,.none,.none,.bool U0,.none]}).get? (h.objs.size+1)=lD
   {cls:=.ref C,data:=.fields #v[.ref h.objs.size,.none,.none,.none,.bool U0,.none]}:=by heap_get
 let u:(UQ.ref C::S).contains (.ref C)=US:=by simp
 let m:=T.keeps (h':=(h.push {cls:=.type "tuple",data:=.seq rest.toArray}).push {cls:=.ref C,data:=.fields #v[.ref h.objs.size,.none,.none,.none,.bool U0,.none]})
  λb o e=>bP _ (bP _ e)
 ext isInstance
 repeat (first|specialize W3 l ?_|(specialize Yu a ?_;rw[u])|wp_step)
 show wpAny_typeLookup_tail a f m F.mroIs F.init.lookup ?_;rw[D];show Wa (Ld ?_);ext bindSpecial;show Ld (XZ #[_,v,n] ?_);rw[av ()];show UT (Ld (wpAny_mono (G _ (h.objs.size+1) #[λb o H=>bP _ (bP _ H),dN (aa1 _),h.objs.size,l,dN (U1 _),?_]) (λr c z=>?_) λ_ _ x=>x))
 .show bP _ (Heap.get?_push_at W W)
 .let(rfl,I):=z
  wp_walk
  show I
def Cv(l:YY P L X U)(i:Z.contains (.type P)=US)(F:YY B Y R Z)(T:ahq h Z S)
  (a:h.get? C=lD (excClassObj nm q C N bs S hdct sn sub ab col dd k0 k1 k2 k3 k5 L)) (p:h.Ns N mN) (s:mN "__init__"=lD (.ref fI)) (f:h.get? fI=lD oI) (b:oI.cls=.type "function")
  (j:∀c e,Heap.MadeExcOf h c e (.ref C) rest->wpAny (model J w) (A.under (.builtin "type.__call__" #[.ref C::rest,[]])) (call (.ref fI) (.ref e::rest)) (λr k=>r=.none/\Q (.ref e) k) E #[c,g,d,t,os]) (hrest:rest.length<=Vb):
  wpAny (model J w) A (call (.ref C) rest) Q E #[h,g,d,t,os]:=by
 let o:=tc_lookup;let n:=tc_bind (.ref C);let m:(#[h,g,d,t,os]:UY).TypeIs (.ref C) "type":=#[_,a,W];show Z8 (adk ?_)
 repeat (any_goals (first|assumption|specialize W3 a ?_|wp_step))
 show#[W,?_];show codeAny_call_builtin_at (adi.quiet_builtin _ (by left)) entry_typeCall (wpAny_check_type_call_sub a (sD (hrest:=hrest) l i F T a p s f b λc e hm=>?_));show j c e hm
end
section
variable{prog:Vn}{w:VJ}{A:Vx}{E:UQ->UY->Prop}{s:UY}{env:Env}
variable{nm q:Str}{C N:UX}{bs Y Z:bg UQ}{hdct:Bool}{sn:bg Str}{sub:bg UQ}{ab:Bool}{col:br Bool}{dd:br UX}{k0 k1 k2 k3 k5:br UQ}{B Bn newId X R U:String}{S:bg UQ}
def zN(Fn:YY Bn newId U S)(u:Z.contains (.type Bn)=US)(F:YY B X R Z)
  (m:Y.contains (.type "BaseException")=US) (p:A.handled=UO) (y:(backTo Yx (Vt args env)).any (·.1)=U0) (hi:mN "__init__"=lD (.ref fI)) (t:oI.cls=.type "function")
  (h:wpAny (model prog w) A (eval (.Name x np) env) (λf k=>f=.ref C/\wpAny (model prog w) A (evalArgs (.ref C) US (backTo Yx (Vt args env)) [])
   (λa c=>a.kw=[]/\a.pos.length<=Vb/\c.heap.get? C=lD (excClassObj nm q C N bs Y hdct sn sub ab col dd k0 k1 k2 k3 k5 newId)/\c.heap.Ns N mN/\c.heap.get? fI=lD oI/\ahq c.heap Z Y/\
    ∀h' e,Heap.MadeExcOf c.heap h' e (.ref C) a.pos->wpAny (model prog w) (A.under (.builtin "type.__call__" #[.ref C::a.pos,[]])) (call (.ref fI) (.ref e::a.pos)) (λr V=>r=.none/\∃D,V.heap.get? C=lD (excClassObj nm q C N bs Y hdct sn sub ab col dd k0 k1 k2 k3 k5 newId)/\V.heap.get? e=lD D/\D.cls=.ref C/\(∃fs,D.data=.fields fs/\fs[1]?=lD UQ.none)/\E (.ref e) V) E {c with heap:=h'}) E k) E s):
  wpAny (model prog w) A (exec (.Raise (lD (.Call (.Name x np) args [] Yx)) UO pos) env) Q E s:=by
 rw[arm_exec_Raise]
 first
  |show Ld (XF (jP m p (Ld (wpAny_mono (acs (wpAny_mono h (λf k i=>?_) λ_ _ x=>x)) (λv l b=>Ld (XF (UT b))) λ_ _ x=>x))))
  |(simp only[evalOpt,ahr];show Ld (XF (jP (C:=C) (nm:=nm) (q:=q) (N:=N) (bs:=bs) (hdct:=hdct) (sn:=sn) (sub:=sub) (ab:=ab) (col:=col) (dd:=dd) (k0:=k0) (k1:=k1) (k2:=k2) (k3:=k3) (k5:=k5) (newId:=newId) m p (Ld (wpAny_mono (acs (wpAny_mono h (λf k i=>?_) λ_ _ x=>x)) (λv l b=>Ld (XF (UT b))) λ_ _ x=>x)))))
  |(show Ld (XF (jP m p ?_));show Ld (wpAny_mono (acs (wpAny_mono h (λf k i=>?_) λ_ _ x=>x)) (λv l b=>Ld (XF (UT b))) λ_ _ x=>x))
 let(rfl,i):=i;ext callWith;show Ld (Wa (wpAny_mono i (λa c j=>Ld (XF ?_)) λ_ _ x=>x));let(G,P):=a;let(o,n,z,hn,I,T,j):=j;obtain rfl:=o;let(hp,g,d,tk,os):=c;simp only[y];show Ld (wpAny_keeperOf_exc z ?_);show Ld (Cv (hrest:=n) Fn u F T z hn hi I t λh' e hm=>wpAny_mono (j h' e hm) (λr V #[H,D,O,Mz0,L,K,J]=>#[H,Ld (Wa (wpAny_point (UT ?_)))]) λ_ _ x=>x);show#[e,D,W,O,Mz0,L,K,J]
end
end L9
namespace L9
open PySem PySem.W PyProof.Rows Builtin Builtin.ObjectAttr
abbrev KH:G B:=[.type "ValueError",.type "Exception",.type "BaseException",.type "object"]
section
variable{prog:Vn}{w:VJ}{A:Vx}{K:Frag}{B C x:UX}{s:UY}{R:aaY->UY->Prop}{Z:ClassData}{name:Str}{Y:Tok}{v:UQ}{fs:Array UQ}
def Nj(X:K.In s.heap)(z:clsIn K C=lD Z)(hm:Z.mro=.ref C:: .ref B::KH)(hd:Z.hasDict=US)(D:findIn K (.ref C) name=lD UO)(i:s.heap.get? x=lD #[.ref C,UO,.fields fs,#v[]])
  (H:∀c k,c.get? x=lD #[.ref C,lD s.heap.objs.size,.fields fs,#v[]]->c.Ns1 s.heap.objs.size (λy=>if y=name then lD v else UO)->(∀b o,b≠x->s.heap.get? b=lD o->c.get? b=lD o)->R (.ok (.ret .none)) {s with heap:=c,toks:=k}):
  codeAny (model prog w) A (.call (.builtin "object.__setattr__") #[[.ref x,.str name Y,v],[]]) R s:=by
 let I:InstAt s.heap x #[.ref C,UO,.fields fs,#v[]] C UO:=#[i,W,W,True.intro];let m:=PySem.F.store_object;let sub:Looks (model prog w) s.heap (isInstance (.ref x) (.type "object")) US:=I.type.andThen (looks_mroIn X (by ext mroIn;rw[z,Option.bind_some,hm,ax (by simp)];simp));show XA m.slot.plain m.entry (@check_slot (model prog w) _ _ s "object.__setattr__" "object" "__setattr__" (.ref x) [.str name Y,v] [] _ m.kind m.split sub (m.args (.ref x) (.str name Y) v) ?_);let l:Looks (model prog w) s.heap (mroOf (.ref C)) Z.mro:=(looks_clsIn X z).andThen .now;rw[osa_eq,refuse_eq];show Ld (Ld (I.type.here (Ld (l.here ?_))));rw[hm,ako,ako,PySem.F.store_ValueError.passes];show UT (Ld (I.type.here (Ld ((looks_findIn X D).here (Ld (UT ?_))))));ext storeInOwnDict;show Ld (UT (Ld ?_));unfold ownDictForStores instanceDict;show Ld (akh i (Ld ((looks_clsIn X z).here ?_)));rw[hd,ax ()];show wpAny _ _ (if(!US|| !typeHasDict (.ref C))=US then pure UO else(do
        let d<-alloc {cls:=UQ.type "dict",data:=Data.dict #v[]}
        update x λo=>{cls:=o.cls,dict:=lD d,data:=o.data,slots:=o.slots}
        dictMade (.ref C) x d)) _ _ _
 rw[ax (by simp[typeHasDict])];let(h,g,d,t,os):=s;dsimp only at X i H I sub l⊢;let f:(h.push {cls:=.type "dict",data:=.dict #v[]}).get? x=lD #[.ref C,UO,.fields fs,#v[]]:=bP _ i;let a:=Vk (cn i);show Ld (wpAny_alloc' ?_);show Ld (wpAny_update' f ?_);show UT ?_
 let q:((h.push {cls:=.type "dict",data:=.dict #v[]}).update x λo=>{cls:=o.cls,dict:=lD h.objs.size,data:=o.data,slots:=o.slots}).get? h.objs.size
   =lD {cls:=.type "dict",data:=.dict #v[]}:=
  (Heap.get?_update_ne _ _ _ _ a.symm).trans (Heap.get?_push_at W W)
 let p:((h.push {cls:=.type "dict",data:=.dict #v[]}).update x λo=>{cls:=o.cls,dict:=lD h.objs.size,data:=o.data,slots:=o.slots}).Ns h.objs.size (λ_=>UO):=
  #[_,#v[],_,q,W,λe M=>a6 M (by simp),λ_=>W]
 unfold storeInDict newKeyGuard;show Ld (UT (Ld (wpAny_nsSet1 (Heap.Ns1.of_empty p) λc j G=>?_)));let(oD,O,Q,n,r,u):=j.count (Within.cons name v Within.nil);show Ld (ah3 n (by rw[r];show ah4 (VT u (by rw[Vd,WG,WK];ext))) ?_);show UT (H c _ ?_ ?_ λb ob E J=>?_)
 .show(G.2 x a).trans (da _ f W)
 .let(L,P,S,e1,e2,U,N,T):=j;show#[L,P,S,e1,e2,U,N,λy=>by rw[T y]]
 .show(G.2 b (Vk (cn J))).trans ((Heap.get?_update_ne _ _ _ _ E).trans (bP _ J))
theorem Lm(X:K.In s.heap)(f:clsIn K C=lD Z)(hm:Z.mro=.ref C:: .ref B::KH)(hd:Z.hasDict=P)(a:findIn K (.ref C) "__setattr__"=lD (lD (.builtin "object.__setattr__")))(h:findIn K (.ref C) name=lD S)(d:s.heap.get? x=lD #[.ref C,S,.fields fs,#v[]])
  (e:∀c g,c.get? x=lD #[.ref C,lD s.heap.objs.size,.fields fs,#v[]]->c.Ns1 s.heap.objs.size (λy=>if y=name then lD v else S)->(∀b o,b≠x->s.heap.get? b=lD o->c.get? b=lD o)->Q ⟨⟩ {s with heap:=c,toks:=g}):
  wpAny (model prog w) A (setAttr (.ref x) name v) Q E s:=
 set_plain X (#[d,W,W,True.intro]:InstAt s.heap x #[.ref C,S,.fields fs,#v[]] C S) a (Nj X f hm hd h d e)
end
section
variable{L:Vn}{w:VJ}{A:Vx}{E:UQ->UY->Prop}{h:Heap}{g:Array Zr}{d:aeG}{t:Nat}{y:adz}
variable{u q:Str}{C N:UX}{bs v Z:bg UQ}{J:Bool}{r:bg Str}{sub:bg UQ}{p:Bool}{col:br Bool}{dd:br UX}{k0 k1 k2 k3 k5:br UQ}{B U X Y:String}
def FR(F:YY B X Y Z)(T:ahq h Z v)
  (n:h.get? C=R (excClassObj u q C N bs v J r sub p col dd k0 k1 k2 k3 k5 U)) (j:h.get? e=R #[.ref C,S,.fields fs,#v[]]) (h0:fs[0]?=R (.ref t0))
  (l:∀s k,s.get? e=R #[.ref C,S,.fields k,#v[]]->k[0]?=R (.ref h.objs.size)->(∀i,i≠0->k[i]?=fs[i]?)->(∀b o,b≠e->h.get? b=R o->s.get? b=R o)->Q .none #[s,g,d,t,y]) (c:rest.length<=Vb):
  wpAny (model L w) A (call (.builtin Y) (.ref e::rest)) Q E #[h,g,d,t,y]:=by
 show Z8 (XA F.init.plain F.initEntry (wpAny_check_init_subU F T n j W ?_));unfold Builtin.«BaseException.__init__»;dsimp only;rw[ax (by simp)];unfold newTuple Builtin.BaseException.bexcPut;let f:=(V1.mp h0).1;let a:(h.push {cls:=.type "tuple",data:=.seq rest.toArray}).get? e=R #[.ref C,S,.fields fs,#v[]]:=bP _ j;show Ld (V3 (Ld (Ld (VZ a W h0 (Ld (XO a W f ?_))))) (by show rest.toArray.size<=Vb;rw[Va];show c));show Ym (UT (l _ (fs.setIfInBounds 0 (.ref h.objs.size)) ?_ (by simp[f]) (λi hi=>by rw[abK (ef hi)]) λb o m z=>?_))
 .show da (Obj.mapFields (·.setIfInBounds 0 (.ref h.objs.size))) a W
 .show(cw _ _ (ef m)).trans (bP _ z)
end
end L9
namespace L9
open PySem PySem.Spec PyProof.Rows L2
def Tr(v:V):Prop:=v=.XN\/∃i:Int,v=.int i/\i.natAbs.log2<1920
def M6{i:Int}(h:i.natAbs.log2<1920):(Str.ofString (toString i)).length<=5000:=by let e:=int_text_length_le () h;rw[PySem.ofString_length];ext
def Qj(I:Inv X pins σ H s)(r:RelV v u)(f:Tr v)
  (h:∀(y:Str) (t:Tok) (a:UY),y.length<=5000->Inv X pins σ H a->Q (.str y t) a):wpAny (model X.prog X.w) A (formatField u Str.empty) Q E s:=by
 rcases f with rfl|⟨i,rfl,b⟩
 .obtain rfl:=r;show wpAny_formatField_none (h _ _ _ () (I.tok _))
 .let(t,rfl):=r;show formatField_int_small b (h _ _ _ (M6 b) (I.tok _))
def PJ(X:Cx)(c:G V8)(n:Nat)(t:L2.St->Hp->(Hp->Prop)->Prop):Prop:=
 ∀(a:G (M×Obj)) (s:UY) (d:L2.St) (H:Hp) (b:Str) (Q:Hp->Prop),Inv X a d H s->b.length+n<=1000000->t d H Q->
  wpAny (model X.prog X.w) X.A (joinParts b (evalEach c X.env)) (λv g=>∃(y:Str) (f:Tok) (e:Hp),v=.str y f/\Inv X a d e g/\Q e) X.xe s
section
variable{X:Cx}{e:V8}{U:bg V8}{n:Nat}{T:TE}{t:L2.St->Hp->(Hp->Prop)->Prop}{Y:Pos}
def QJ:PJ X [] 0 (λ_ H Q=>Q H):=by intro a s d H b Q I f h;show joinParts_nil #[_,_,H,W,I.tok _,h] (by rw[WK];ext)
def Oz(g:x.length<=5000)(f:PJ X U n t):PJ X (.Constant (.str x) k Y::U) (n+5000) t:=by intro a s d H b Q I i h;show joinParts_consE (joinParts_cons (Calls.Constant_str ?_));let e:=amo b x;show#[by rw[WK];ext,f a _ d H (b++x) Q (I.tok _) () h]
def Pz(g:PE X e T)(d:PJ X U n t):PJ X (.FormattedValue e (-1) S Y::U) (n+5000) (λσ H Q=>T σ H λv H1=>Tr v/\t σ H1 Q):=by intro a s σ H b Q I w h;show joinParts_consE (joinParts_cons (FormattedValue_plain (cT (g a s σ H _ I h) λu m a=>?_)));let(v,H1,i,r,f,q):=a;show Qj i r f λy l o p j=>?_;let e:=amo b y;show#[by rw[WK];ext,d a _ σ H1 (b++y) Q j () q]
def Mx(h:PJ X (f::o::U) n t)(c:n<=900000):PE X (.JoinedStr (f::o::U) Y) (λσ H Q=>t σ H λH1=>∀y:Str,Q (.str y) H1):=by intro a s σ H Q I b;show JoinedStr_many (cT (h a s σ H Str.empty _ I (by show 0+n<=1000000;ext) b) λv j #[y,i,H1,d,g,q]=>?_);subst d;show#[.str y,H1,g,#[_,W],q y]
end
def Mi(C e:M):Heap->Prop:=λh=>∃fs t0,h.get? e=R #[.ref C,S,.fields fs,#v[]]/\fs[0]?=R (.ref t0)/\fs[1]?=R .none
def RH(C e p:M):Heap->Prop:=λh=>∃fs a0,h.get? e=R #[.ref C,R p,.fields fs,#v[]]/\fs[0]?=R a0/\fs[1]?=R .none
structure XC(K:UN)(C B fI:M):Prop where
 obj:∃nm q N bs sn sub ab col dd k0 k1 k2 k3 k5,K.lookup C=R (excClassObj nm q C N bs (.ref B::KH) P sn sub ab col dd k0 k1 k2 k3 k5 "ValueError.__new__")/\ab9 K N=P/\Vp K N "__init__"=R (R (.ref fI))
 base:aaU K B KH "ValueError.__new__"=P
 sa:VP K (.ref C) "__setattr__"=R (R (.builtin "object.__setattr__"))
def yZ{K:UN}(q:aaU K f KH n=P):aaw K KH (.ref f::KH)=P:=by
 unfold aaU at q;split at q
 .rename_i dd e d b
  split at q
  .simp only[Vh,beq_iff_eq,ae0]at q;let(((((_,_),_),_),Wn),a):=q;ext aaw;dsimp only;rw[b];dsimp only;rw[Wn,a,show aaw K KH KH=P from by ext aaw;rw[eu,YB],eu,WC,WC,aap]
  .ext q
 .ext q
section
variable{X:Cx}{B C fI:UX}{pos S U:Pos}{Y:V8}{Z:bg V8}{t:TA}{b:Str}
def JX(h:H a=R o):bJ H a o=H:=by
 funext c;by_cases z:c=a
 .rw[z,aO,h]
 .rw[aF z]
def OQ(C:M)(t:TA):TE:=λd H Q=>t d H λf a=>∃e y,f=[.ref e,.str y]/\a e=R (.ext (Mi C e))/\Q .XN a
def Kh{pl:Sem Bool}(V:Gl X b)(hm:X.mg b=lD (.ref B))(D:abT X.K B (.type "type")=US)(hf:abU X.K (.ref B) (.type "type") "__init__"=lD (.val (.builtin "ValueError.__init__")))
  (k:Ys X.K (.ref B) "__getattribute__"=lD (lD (.builtin "type.__getattribute__"))) (E:XC X.K C B fI) (ha:PA X (Y::Z) t)
  (dW:Vt (Y::Z) X.env=(U0,eval Y X.env)::Vt Z X.env:=by rfl) (l:(backTo pos (Vt Z X.env)).any (·.1)=U0:=by rfl) (m:(b==("__debug__":Str))=U0:=by decide)
  (c:eval (.Call (.Attribute (.Name b S) "__init__" U) (Y::Z) [] pos) X.env=(do
   let ov<-eval (.Name b S) X.env
   standAt U.atName
   let(f,first)<-holding [ov] (getMethod ov "__init__" pl)
   callWith pos f first (backTo pos (Vt (Y::Z) X.env)) (backToKw pos (keywordEach [] X.env))):=by rfl):
  PE X (.Call (.Attribute (.Name b S) "__init__" U) (Y::Z) [] pos) (OQ C t):=by
 intro a s J H Q I h;show aak (pl:=pl) (mJ I V hm ?_ m) c;show PySem.W.method_cls I.kIn k (PySem.W.cls_value I.kIn D hf () ?_);let F:=ha pos a {s with toks:=s.toks+1} J H _ (I.tok _) h;rw[dW]at F⊢;show Calls.callWith_builtin (by show(U0||(backTo pos (Vt Z X.env)).any (·.1))=U0;rw[l]<;>rfl) (Calls.evalArgs_plain (cT F λus A #[vs,G,i,r,e,y,ev,n,q]=>?_));subst ev;let(P,u2,rfl,r1,r2):=EF r;obtain rfl:P=.ref e:=r1;let(tk,rfl):=r2;let((fs,t0,g1,g2,g3),_,gk):=(show ObjOk X.prog X.w G A.heap e (.ext (Mi C e))from i.Wn e _ n);let(nm,q',N,bs,sn,sub,ab,col,dd,k0,k1,k2,k3,k5,lk,Wn,hin):=E.obj;let T:=adK i.kIn (yZ E.base);let(h2,g,d,j,os):=A;show FR X1 T (i.kIn _ _ lk) g1 g2 (λh' p v e2 e3 e4=>?_) (by show 1<=Vb;decide);show#[.XN,G,?_,W,q];let w:=i.write (x:=e) (e:=e) (o:=.ext (Mi C e)) (h':=h') (t':=j) (by rw[n];show True.intro) (.inl W) (λb u hb z=>e4 b u hb z) #[_,v] #[#[p,_,v,e2,by rw[e3 1 ()];show g3],#[_,v],λh1 h2 #[f1,R1,O,Mz0,L] hk=>#[f1,R1,hk _ O,Mz0,L]];rw[JX n]at w;show w
def Sk(C:M)(f:Str)(h g:TE):TS:=λD a H=>g a H λv i=>h a i λx d=>∃e,x=.ref e/\d e=R (.ext (Mi C e))/\∀p,d p=UO->p≠e->D.nx a (bJ (bJ d e (.ext (RH C e p))) p (.xd [(f,v)]))
def MG(P:XC X.K C B fI)(hn:VP X.K (.ref C) f=lD UO)(ha:PE X o ta)(c:PE X value tv)(V:WI value (lD (.Attribute o f pos')) pos.line X.env=pure U0):PS X (.Assign [.Attribute o f pos'] value pos) (Sk C f ta tv):=by
 intro j s F H D I h;show acA (cT (c j s F H _ I h) λu s1 #[v,H1,I1,rv,q]=>cT (ha j s1 F H1 _ I1 q) λov m a=>?_) V;let(x,R1,r,rx,e,ex,i,q2):=a;subst ex;obtain rfl:=rx;let((fs,t0,Q,g2,g3),_,gk):=(show ObjOk X.prog X.w R1 m.heap e (.ext (Mi C e))from r.Wn e _ i);let(nm,q',N,bs,sn,sub,ab,col,dd,k0,k1,k2,k3,k5,lk,Wn,hin):=P.obj;obtain⟨E,hc,J,L⟩:∃E,afz X.K C=lD E/\E.mro=.ref C:: .ref B::KH/\E.hasDict=US:=by ext afz;rw[lk];show#[_,W,W,W]
 show Lm r.kIn hc J L P.sa hn Q λh' tk' M e2 A=>?_;let pe:=Wd (cn Q);let p:=r.Wn.fresh (U1 _);show#[F,_,?_,q2 m.heap.objs.size p pe];let l:∀b o,m.heap.get? b=lD o->b≠m.heap.objs.size:=λb o z=>Vk (cn z);show r.un #[λb o z n _ _=>A b o (λy=>by rw[y,i]at n;ext n) z,λb o z n _ _=>#[o.slots,A b o (λy=>by rw[y,i]at n;ext n) z],λb o z n _=>?_,λb o z _=>?_,λb xs z=>?_,λb o u z=>?_,λb ps z=>#[#v[],?_]] ?_
 .rw[aF (l b o z),aF (λy=>by rw[y,i]at n;ext n)];show n
 .by_cases y:b=e
  .subst y;show#[_,M]
  .show#[o,A b o y z]
 .rw[aF (λy=>by rw[y,p]at z;ext z),aF (λy=>by rw[y,i]at z;ext z)];show z
 .rw[aF (λy=>by rw[y,p]at z;ext z),aF (λy=>by rw[y,i]at z;ext z)];show z
 .rw[aF (λy=>by rw[y,p]at z;ext z),aF (λy=>by rw[y,i]at z;ext z),z];simp
 .intro a o z
  by_cases O:a=m.heap.objs.size
  .subst O
   rw[aO]at z;ext z;show#[_,e2,λg=>?_];show ZJ (match g==f with|true=>lD v|false=>XM g []) (if g=f then lD u else UO);cases d:g==f with
   |true=>rw[av (beq_iff_eq.mp d)];show rv
   |false=>rw[ax (λw=>by rw[beq_iff_eq.mpr w]at d;ext d)];show True.intro
  .rw[aF O]at z
   by_cases G:a=e
   .subst G;rw[aO]at z;ext z;show#[#[fs,_,M,g2,g3],#[_,M],λh1 h2 #[f1,t1,z1,z2,T] hk=>#[f1,t1,hk _ z1,z2,T]]
   .rw[aF G]at z
    let own:∀b,R1 b=lD (.own a)->b≠e/\b≠m.heap.objs.size:=λb y=>#[(λk=>by rw[k,i]at y;ext y),(λk=>by rw[k,p]at y;ext y)];show(r.Wn a o z).aaf (λb w d y=>A b w (λk=>?_) y) (λb y=>by rw[aF (own b y).2,aF (own b y).1];show y) λb xs y=>by rw[aF (λk=>by rw[k,p]at y;ext y),aF (λk=>by rw[k,i]at y;ext y)];show y
    rcases d with d|d
    .show G (d.symm.trans k)
    .show(own b d).1 k
end
end L9
namespace L9
open PySem PySem.Spec PyProof.Rows L2 L4
def Rj(H:Hp)(e:M):Hp:=λa=>if a=e then S else H a
theorem tP:Rj H e e=S:=av W
theorem kA(h:a≠e):Rj H e a=H a:=ax h
def BH{K:UN}(X:K.In h)(G:h.Ns N C)(e:Vp K N n=R (R v)):C n=R v:=by
 let(o,m,p,d,i,_,f):=G;unfold Vp at e;split at e
 .rename_i j l b a
  let:=(X _ _ a).symm.trans d;ext this;ext i;split at e
  .rename_i q g;ext e;rw[<-f];unfold nsFind findBy;rw[<-aem,g];rfl
  .split at e<;>ext e
 .ext e
def OI{K:UN}(i:Ya K (.ref f)=P)(l:K.lookup f=R o):o.cls=.type "function":=by unfold Ya aeV at i;dsimp only at i;rw[l]at i;show Vi (beq_iff_eq.mp i)
section
variable{X:Cx}{Z:bg (UX×Obj)}{Y:L2.St}{H:Hp}{s:UY}{U:Heap}{e:UX}{o:HO}
def KU(I:L2.Inv X Z Y H s)(k:∀b u,s.heap.get? b=R u->U.get? b=R u)(n:s.heap.get? e=S)(new:ObjOk X.prog X.w (bJ H e o) U e o):L2.Inv X Z Y (bJ H e o) {s with heap:=U,toks:=t'}:=by
 let d:=zq I.Wn n;let ne:∀b u,s.heap.get? b=R u->b≠e:=λb u z y=>by rw[y,n]at z;ext z
 show I.un #[λb u z _ _ _=>k b u z,λb u z _ _ _=>#[u.slots,k b u z],λb u z q _=>by rw[aF (ne b u z)];show q,λb u z _=>#[u,k b u z],λb xs z=>?_,λb u v z=>?_,λb f z=>#[#v[],?_]] ?_
 .rw[aF (λy=>by rw[y,d]at z;ext z)];show z
 .rw[aF (λy=>by rw[y,d]at z;ext z)];show z
 .rw[aF (λy=>by rw[y,d]at z;ext z),z];simp
 .intro a u z
  by_cases y:a=e
  .subst y;rw[aO]at z;ext z;show new
  .rw[aF y]at z;show(I.Wn a u z).aaf (λb w _ q=>k b w q) (λb q=>by rw[aF (λw=>by rw[w,d]at q;ext q)];show q) λb xs q=>by rw[aF (λw=>by rw[w,d]at q;ext q)];show q
def LX(I:L2.Inv X Z Y H s)(d:H e=R (.ext C)):L2.Inv X Z Y (Rj H e) s:=by
 let:=I.un (t':=s.toks) (H':=Rj H e) #[λb u z _ _ _=>z,λb u z _ _ _=>#[u.slots,z],λb u z q _=>?_,λb u z _=>#[u,z],λb xs z=>?_,λb u v z=>?_,λb f z=>#[#v[],?_]] ?_
 .show this
 .by_cases y:b=e
  .rw[y];show tP
  .rw[kA y];show q
 .rw[kA (λy=>by rw[y,d]at z;ext z)];show z
 .rw[kA (λy=>by rw[y,d]at z;ext z)];show z
 .rw[kA (λy=>by rw[y,d]at z;ext z),z];simp
 .intro a u z
  let y:a≠e:=λy=>by rw[y,tP]at z;ext z
  rw[kA y]at z;show(I.Wn a u z).aaf (λb w _ q=>q) (λb q=>by rw[kA (λw=>by rw[w,d]at q;ext q)];show q) λb xs q=>by rw[kA (λw=>by rw[w,d]at q;ext q)];show q
end
def Di(C:M)(sp:Sp)(E:XK)(f:TA):TS:=λ_ d H=>f d H λg b=>g.length<=Vb/\∀e,b e=S->sp (.ref e::(g++[])) (bJ b e (.ext (Mi C e))) (λv a=>v=.XN/\∃p,a e=R (.ext (RH C e p))/\E (.ref C) (R p) (Rj a e)) E0
def Fs{K:UN}
  (Z:XC K C Bz0 fI) (S:K.lookup fI=lD oI) (c:Ya K (.ref fI)=US) (FI:FnOk Pz0 w K mg base dR k fI fdI ps sp) (bI:Binds K fdI ps [])
  (hr:Xu (k+1) (gM (nw Pz0 w) Pz0 w K mg base N qual scope f cd A outer s0 H0 E).A)
  (hg:Gl (gM (nw Pz0 w) Pz0 w K mg base N qual scope f cd A outer s0 H0 E) x) (hm:mg x=lD (.ref C)) (ha:PA (gM (nw Pz0 w) Pz0 w K mg base N qual scope f cd A outer s0 H0 E) (e0::es) ta)
  (G:(x==("__debug__":Str))=U0:=by decide)
  (X:Vt (e0::es) (gM (nw Pz0 w) Pz0 w K mg base N qual scope f cd A outer s0 H0 E).env=(U0,eval e0 (gM (nw Pz0 w) Pz0 w K mg base N qual scope f cd A outer s0 H0 E).env)::Vt es (gM (nw Pz0 w) Pz0 w K mg base N qual scope f cd A outer s0 H0 E).env:=by rfl)
  (n:(backTo Yx (Vt es (gM (nw Pz0 w) Pz0 w K mg base N qual scope f cd A outer s0 H0 E).env)).any (·.1)=U0:=by rfl):
  PS (gM (nw Pz0 w) Pz0 w K mg base N qual scope f cd A outer s0 H0 E) (.Raise (lD (.Call (.Name x np) (e0::es) [] Yx)) UO pos) (Di C sp E ta):=by
 intro j s σ H D I h;let(nm,qn,Nn,bs,sn,sub,ab,col,dd,k0,k1,k2,k3,k5,R,Wn,F):=Z.obj;let a:=I.ok.mod.kin;let oC:=a _ _ R;let Q:=Heap.Ns.of_isNs (PySem.W.isNs_of_in a Wn);let ni:=BH a Q F;let oF:=a _ _ S;let T:=adK a (yZ Z.base);show zN (nm:=nm) (q:=qn) (N:=Nn) (bs:=bs) (hdct:=US) (sn:=sn) (sub:=sub) (ab:=ab) (col:=col) (dd:=dd) (k0:=k0) (k1:=k1) (k2:=k2) (k3:=k3) (k5:=k5) X1 (by left) X1 (T.hasType X1.hasBase) (I.ok.hd W)
  (by rw[X];show(ZW _).trans n) ni (OI c S) (mJ I hg hm #[W,?_] G)
 let go:=ha Yx j s σ H _ I h;rw[X]at go⊢;show Calls.evalArgs_plain (cT go λd i a=>?_);let(vs,H1,g,r,hl,q):=a;show#[W,by rw[<-r.length];show hl,g.bk _ _ oC,Q.keeps g.bk,g.bk _ _ oF,T.keeps g.bk,λh' e l=>?_];let(t,y,y2,y3):=l.there;let hn:=zq g.Wn l.new;let U:=q e hn;let L:=KU (t':=i.toks) (o:=.ext (Mi C e)) g l.keeps l.new #[#[_,t,y,W,W],#[_,y],λh1 h2 #[f1,t1,z1,z2,z3] hk=>#[f1,t1,hk _ z1,z2,z3]];let O:Vals (V.ref e::(vs++[])) (UQ.ref e::(d++[])):=.cons W (r.append .nil);let m:(UQ.ref e::d++[]).length=ps.length:=by let z:=O.length;rw[FI.len _ _ _ _ U]at z;show z.symm
 let old:s0.heap.get? e=UO:=by
  cases z:s0.heap.get? e with
  |none=>rfl
  |some o=>let(o',M):=g.base.there e o z (λy=>nomatch y);rw[l.new]at M;ext M
 let bi:=bI {heap:=h',gens:=i.gens,drawn:=i.drawn,toks:=i.toks,os:=i.os} (UQ.ref e::d) L.kIn m;rw[afA]at bi;show Z8 (YV (FI.run _ (gM (nw Pz0 w) Pz0 w K mg base N qual scope f cd A outer s0 H0 E).stack _ _ #[UQ.ref e::d,[]] (UQ.ref e::(d++[])) _ _ E0 (hr.make C d []) (L.agR.make C d []) bi O U) λr s' b=>?_);cases r with
 |error e=>show b.elim
 |ok fl=>
  cases fl with
  |ret u=>let(v,H',J,rv,ev,p,Y,q3):=L.after b;subst ev;let((fs,a0,g1,g2,g3),_,_):=(show ObjOk _ _ H' s'.heap e (.ext (RH C e p))from J.Wn e _ Y);show#[rv,_,J.kIn _ _ R,g1,W,#[fs,W,g3],?_];show Oj (hd:=UO) (LX J Y) #[_,_,g1,W,W,W,g2,g3] old (λT z=>nomatch z) tP (λT z=>nomatch z) q3
  |next=>show False.elim b
  |brk=>show False.elim b
  |cont=>show False.elim b
end L9
namespace L9
open PySem PySem.Spec PySem.W PyProof.Rows L2 L3 L4
section
variable{U:Vn}{w:VJ}{A:Vx}{E:UQ->UY->Prop}{h:Heap}{g:Array Zr}{d:aeG}{t:Nat}{N:adz}{a C:UX}{o:Obj}{K:UN}{Z:br Obj}{T:Str}{v:UQ}
  {J z:Str} {N1:UX} {b1 L:bg UQ} {d1:Bool} {s1:bg Str} {u1:bg UQ} {a1:Bool} {c1:br Bool} {x1:br UX} {i0 i1 i2 i3 i5:br UQ} {Y:String}
def BU(X:K.In h)(I:aau h a o C Z)(b:findObj K C Z T=R (.value v))
  (k:Q (.done (.ret v)) #[h,g,d,t,N]):wpAny (model U w) A (Builtin.«object.__getattribute__» #[[.ref a,.str T tk],[]]) Q E #[h,g,d,t,N]:=by
 let f:=I.type (M:=model U w);let e:=looks_find (M:=model U w) X I b;show Ld (UT (Ld (UT (Ld (f.at (Ld (e.at ?_)))))));show UT k
def Fw(X:K.In h)(I:aau h a o C Z)(n:h.get? C=R (excClassObj J z C N1 b1 L d1 s1 u1 a1 c1 x1 i0 i1 i2 i3 i5 Y))(m:L.contains (.type "BaseException")=P)
  (f:findIn K (.ref C) "__getattribute__"=R (R (.builtin "BaseException.__getattribute__"))) (e:findIn K (.ref C) "__getattr__"=R S) (l:findObj K C Z T=R (.value v)) (j:handedIn v=P)
  (k:Q v #[h,g,d,t+1,N]):wpAny (model U w) A (getAttr (.ref a) T expr) Q E #[h,g,d,t,N]:=by
 let y:=ab0.ga.bind (.ref a);let b:(UQ.builtin "BaseException.__getattribute__"==UQ.builtin "object.__getattribute__")=U0:=by left
 let u:(onTheHeap (UQ.ref C)&&UQ.builtin "BaseException.__getattribute__"==UQ.builtin "object.__getattribute__")=U0:=by rw[b];rfl
 let r:=I.type (M:=model U w);let q:=looks_findIn (M:=model U w) X f;let p:=looks_findIn (M:=model U w) X e;unfold getAttr getAttrBy
 repeat (any_goals (first|assumption|specialize r.at ?_|specialize q.at ?_|specialize p.at ?_|wp_step))
 rw[show(expr&&onTheHeap (UQ.builtin "BaseException.__getattribute__"))=U0 from by ext expr<;>rfl,ax Vg];ext boundAndCalled
 repeat (any_goals (first|assumption|wp_step))
 show XA ab0.ga.plain F.entry_bexc_ga (B2 n m I.at_ I.cls (BU X I l ?_));let i:=handedOut_of j;show wpAny _ _ (handedOut v) _ _ _;rw[i];show UT k
end
def Od(K:UN)(d:TE)(f:Str):TE:=λb H Q=>d b H λx a=>∃e g C m p fs v,x=.ref e/\a e=R (.frz g (.own e))/\g.cls=.ref C/\g.dict=R p/\notCls g=P/\adX K C m/\hasDictIn K C=P/\findIn K (.ref C) f=R S/\
 a p=R (.xd fs)/\fs.lookup f=R v/\Q v a
def MC(S:PE X o ta)(Y:attributeBase o f X.env (eval o X.env)=eval o X.env):PE X (.Attribute o f pos) (Od X.K ta f):=by intro a s A H Q I h;show Eg Y (cT (S a s A H _ I h) λu n a=>?_);let(x,y,b,w,e,F,C,m,p,fs,v,Z,ea,U,T,hn,L,R1,ha,N,l,q):=a;subst Z;obtain rfl:=w;let z:=(b.Wn e _ ea).1;let(mA,G,i):=(show ObjOk X.prog X.w y n.heap p (.xd fs)from b.Wn p _ N);let(u',M,r):=ZJ.some_of (by rw[<-l];show i f);let(E,O,P):=wq G;let(_,_,_,_,_,_,_,_,_,_,_,_,_,_,_,_,J):=L.cl;let(j,g,d,t,os):=n;show Fw b.kIn (#[z,U,hn,by rw[T];show O]:aau j e F C (lD E)) (b.kIn _ _ J) L.be L.ga L.gt (findObj_own R1 ha W (by rw[P,M])) (wT r) #[v,y,b.tok _,r,q]
def yu(C:M)(f:Str):Sp:=λa H Q _=>∃e v,a=[.ref e,v]/\Tr v/\H e=R (.ext (Mi C e))/\∀p,H p=S->p≠e->Q .XN (bJ (bJ H e (.ext (RH C e p))) p (.xd [(f,v)]))
def RE:D->Bool
 |.none=>P
 |.int i=>decide (i.natAbs.log2<1920)
 |_=>U0
end L9
namespace L3
open PySem PySem.Spec PyProof.Rows L2
mutual
def Us:UU->Bool
 |.tuple ds=>Pv ds
 |.int _=>US
 |.str _=>US
 |.bool _=>US
 |.none=>US
 |_=>U0
def Pv:bg UU->Bool
 |[]=>US
 |d::r=>Us d&&Pv r
end
section
variable{K:UN}{E:XK}{B:cg}{Y:Hp}{O Z:cg}{X:L2.St}{H U:Hp}{T:bA}
def KS(h:Zw K H a xs)(l:H a=R (.lst ys)):Zw K (λ_=>S) a xs:=by
 rcases h with(h|⟨o,h⟩)|h
 .rw[l]at h;ext h
 .rw[l]at h;ext h
 .show .inr h
mutual
theorem LK(f:∀b,O b->¬Z b->∃ys,H b=lD (.lst ys)):∀{v:V} {d:D},DV Z K H v d->Us d=US->DV O K H v d
 |_,_,.XN,_=>.XN
 |_,_,.bl b,_=>.bl b
 |_,_,.int i,_=>.int i
 |_,_,.str x,_=>.str x
 |_,_,.tup (a:=a) h hs,e=>.tup ⟨h.1,λz=>by
   by_cases y:Z a
   .exact h.2 y
   .obtain⟨ys,q⟩:=f a z y;exact KS h.1 q⟩ (z4 f hs e)
 |_,_,.lst h hs,e=>by cases e
theorem z4(a:∀b,O b->¬Z b->∃ys,H b=lD (.lst ys)):∀{vs:bg V} {ds:bg D},WO Z K H vs ds->Pv ds=US->WO O K H vs ds
 |_,_,.nil,_=>.nil
 |_,_,.cons h hs,e=>by have d:=Bool.and_eq_true_iff.mp e;exact .cons (LK a h d.1) (z4 a hs d.2)
end
end
end L3
namespace PySem
section
variable{Y:Vn}{w:VJ}{A:Vx}{E:UQ->UY->Prop}{s:UY}
abbrev nA(a:Bool):Obj:={cls:=.type "set",dict:=S,data:=.set #v[] 0 (.fresh 0 0 a)}
end
end PySem
namespace PyProof.Rows
open PySem
section
variable{Y:Vn}{w:VJ}{A:Vx}{E:UQ->UY->Prop}{s:UY}
def uE(b:h.get? a=R (seqObj "list" o.toArray n)):∃e,(sortedHeap h a o out).get? a=R (seqObj "list" out e):=by let d:=get?_update_seq b (λ_=> #v[]);show#[_,get?_update_seq (bP _ (bP _ d)) _]
theorem rN(d:b≠a)(e:h.get? b=R o):(sortedHeap h a C out).get? b=R o:=
 (cw _ _ (ef d)).trans (bP _ (bP _ ((cw _ _ (ef d)).trans e)))
def BF{l:M}{c:G UQ}{i:G Int}{Q:UQ->UY->Prop}(j:s.heap.IsTuple l c.toArray)(v:IntsAre c i)(g:c.length<64)
  (h:∀(a k:Heap) (out:Array UQ) (e:Nat) (d:G Int),(∀b o,s.heap.get? b=R o->a.get? b=R o)->k.get? a.objs.size=R (seqObj "list" out e)->(∀b o,a.get? b=R o->k.get? b=R o)->IntsAre out.toList d->d.Perm i->d.Pairwise (·<=·)->Q (.ref a.objs.size) {s with heap:=k}):
  wpAny (model Y w) A (call (.builtin "sorted") [.ref l]) Q E s:=by
 let(o,p,u,n,t):=j;show Calls.call_function_entry kind_sorted plain_sorted entry_sorted (args_sorted1 _) (Ld (m:=checkCount "sorted" 1 1 _) (UT (Ld (wpAny_collect_seq l (.inr W) p u t (λa q=>Ld (amq ?_)) (by rw[Va,WK];ext)))));let f:(a.push (seqObj "list" c.toArray 0)).get? a.objs.size=R (seqObj "list" c.toArray 0):=cv _ W;show Ld (Wa (WX slot_list_sort #[_,f,W] entry_list_sort (list_sort_tree f v g λout d C B y=>#[_,W,UT #[_,W,?_]]) (args_list_sort _)));let(e,r):=uE (out:=out) f;show h a _ out e d q r (λb F z=>rN (Vk (cn z)) (bP _ z)) C B y
end
end PyProof.Rows
namespace L9
open PySem PySem.Spec PyProof.Rows L2 L3
section
variable{K:UN}{E:XK}
def x9:Yd X (.builtin "sorted") (λxs H Q=>∃(p:M) (d:bg Int),xs=[.ref p]/\Zw X.K H p (d.map V.int)/\d.length<64/\∀(l:M) (a:bg Int),H l=S->a.Perm d->a.Pairwise (·<=·)->Q (.ref l) (bJ H l (.lst (a.map V.int)))):=by
 intro i s B H xs C Q I r h;let(p,d,rfl,t,z,q):=h;let(u,rfl,n):=kj r;ext n;let(J,L,pl,F):=I.tuple t;let v:=L.length;rw[UR]at v;show BF pl (oj L) () λA G f e a w y g N j o=>?_;let b:=j.length_eq;let m:=I.kept (t':=s.toks) w;show#[.ref A.objs.size,_,m.laid g (U1 _) ?_,W,q _ a (m.Wn.fresh (U1 _)) j o];show#[?_,f.toList,e,jY N,y];rw[UR,b];let:(64:Nat)<=Vb:=by decide
 ext
theorem xu:Yd X (.builtin "sorted") (λxs H Q=>(∃(p:M) (a:G Int),xs=[.ref p]/\Y4 X.K H p (a.map V.int)/\a.length<64/\∀(l:M) (b:G Int),H l=S->b.Perm a->b.Pairwise (·<=·)->Q (.ref l) (bJ H l (.lst (b.map V.int))))\/
  (∃(p:M) (a:G Int),xs=[.ref p]/\Zw X.K H p (a.map V.int)/\a.length<64/\∀(l:M) (b:G Int),H l=S->b.Perm a->b.Pairwise (·<=·)->Q (.ref l) (bJ H l (.lst (b.map V.int))))):=L2.Yd.or AR x9
def iQ:G D->I RV
 |[.tuple ds]=>(match qL ds with
  |some a=>if a.length<64 then R (.ow ((l9 a).map .int))else S
  |none=>S)
 |ds=>xW ds
def Bw:Gk K (λxs H Q=>(∃(p:M) (b:G Int),xs=[.ref p]/\Y4 K H p (b.map V.int)/\b.length<64/\∀(l:M) (d:G Int),H l=S->d.Perm b->d.Pairwise (·<=·)->Q (.ref l) (bJ H l (.lst (d.map V.int))))\/
  (∃(p:M) (b:G Int),xs=[.ref p]/\Zw K H p (b.map V.int)/\b.length<64/\∀(l:M) (d:G Int),H l=S->d.Perm b->d.Pairwise (·<=·)->Q (.ref l) (bJ H l (.lst (d.map V.int))))) iQ:=by
 intro O H xs ds u Q n g e q;unfold iQ at e;split at e
 .split at e
  .rename_i b i
   split at e
   .rename_i v
    ext e;cases g with
    |cons o m=>ext m;let(a,w,rfl,h,r):=Ce o;rw[tj r i]at h;show .inr #[a,b,W,h.1,v,λl d j f dW=>?_];let t:=mx (f.trans (fX b).symm) dW (fF b);subst t;show q.new (vq _) l j
   .ext e
  .ext e
 .show .inl (wA O H xs ds u Q n g e q)
def SQ:Wb "set"=R (.type "set"):=by left
end
end L9
namespace L9
open PySem PySem.W PyProof.Rows Builtin Builtin.ObjectAttr
open PySem.Spec L2
open L3 L4
def Qi:D->I RV
 |.tuple ds=>R (.fz (.tuple ds.reverse))
 |_=>S
theorem Et{K:UN}{O:cg}{H:Hp}:∀{a:G V} {ds:G D},WO O K H a ds->WO O K H a.reverse ds.reverse
 |_,_,.nil=>.nil
 |_,_,.cons h t=>by rw[WE,WE];show(Et t).append (.cons h .nil)
def PD{K:UN}{E:XK}{h:TE}{c:FE}(k:EO K E h c):EO K E (RL K h (Dh (Tu (rU λi=>.int (-i)) (tC (.int 1))))) (FQ Qi c):=by
 intro B z O j H J Q R w;show k B z O j H J _ R (w.bind.imp λa e A x C r g n=>?_);let(d,l,e):=e.V4;let(T,f,e):=e.V4;let N:=oB g n l;unfold Qi at f;split at f
 .ext f;let(b,L,rfl,p,o):=Ce N;show#[1,W,-1,W,W,b,L,W,p.1,?_];show Fin.aeA (Et o) g.od (lP (rv:=.fz (.tuple _)) g λu v y q t m=>e u v y (r.trans q) t m)
 .ext f
end L9
namespace LD
open PySem PyProof.Rows L2 L3
mutual
def kd:UU->Bool
 |.none=>US
 |.int _=>US
 |.str x=>UU.strOk x
 |.tuple xs=>kds xs
 |_=>U0
def kds:bg UU->Bool
 |[]=>US
 |x::r=>kd x&&kds r
end
def keyD:UU->Bool
 |.tuple xs=>kds xs&&decide ((UU.tuple xs).depth<=8)
 |_=>U0
mutual
theorem kd_lay:∀d:UU,kd d=US->d.canLay0=US
 |.none,_=>rfl
 |.int _,_=>rfl
 |.str x,h=>by unfold UU.canLay0;unfold kd at h;exact h
 |.tuple xs,h=>by unfold UU.canLay0;unfold kd at h;exact C4 xs h
 |.bool _,h|.list _,h|.dict _,h=>by simp[kd]at h
theorem C4:∀xs:bg UU,kds xs=US->UU.canLayAll0 xs=US
 |[],_=>rfl
 |x::r,h=>by unfold kds at h;rw[Vh]at h;unfold UU.canLayAll0;rw[kd_lay x h.1,C4 r h.2];rfl
end
mutual
theorem kd_eqv:∀d e:UU,kd d=US->kd e=US->UU.eqv d e=US->d=e
 |.none,e,_,h,q=>by cases e<;>simp_all [kd,UU.eqv]
 |.int i,e,_,h,q=>by cases e<;>simp_all [kd,UU.eqv]
 |.str x,e,_,h,q=>by cases e<;>simp_all [kd,UU.eqv]
 |.tuple xs,e,g,h,q=>by
  cases e with
  |tuple a=>rw[UU.eqv]at q;unfold kd at g h;rw[kds_eqv xs a g h q]
  |_=>simp_all [kd,UU.eqv]
 |.bool _,_,h,_,_|.list _,_,h,_,_|.dict _,_,h,_,_=>by simp[kd]at h
theorem kds_eqv:∀xs ys:bg UU,kds xs=US->kds ys=US->UU.eqvAll xs ys=US->xs=ys
 |[],[],_,_,_=>rfl
 |[],_::_,_,_,q=>by simp[UU.eqvAll]at q
 |_::_,[],_,_,q=>by simp[UU.eqvAll]at q
 |x::xs,y::ys,g,h,q=>by unfold kds at g h;rw[UU.eqvAll]at q;rw[Vh]at g h q;rw[kd_eqv x y g.1 h.1 q.1,kds_eqv xs ys g.2 h.2 q.2]
end
def Gu[Decidable (d=e)](hd:kd d=P)(a:kd e=P):UU.eqv d e=decide (d=e):=by
 by_cases q:d=e
 .subst q;rw[aP W];show SeqAt.eqv_refl d (kd_lay d hd)
 .rw[a4 q]
  cases z:UU.eqv d e with
  |false=>rfl
  |true=>show a6 (kd_eqv d e hd a z) q
def keyD_kd(h:keyD d=P):kd d=P/\d.depth<=8:=by
 cases d with
 |tuple xs=>unfold keyD at h;rw[Vh]at h;show#[by ext kd;show h.1,a5 h.2]
 |_=>simp[keyD]at h
mutual
def tU(w:VJ):UU->Int
 |.none=>reduceHash 0xFCA86420
 |.int i=>hashInt i
 |.str x=>hashStr w x
 |.tuple xs=>reduceHash (Builtin.Tuple.tupleHashOf (uI w xs))
 |_=>0
def uI(w:VJ):bg UU->bg Int
 |[]=>[]
 |x::r=>tU w x::uI w r
end
mutual
def S7:UU->Nat
 |.tuple xs=>MR xs+1
 |_=>1
def MR:bg UU->Nat
 |[]=>0
 |x::r=>S7 x+MR r
end
section
variable{prog:Vn}{w:VJ}{E:UQ->UY->Prop}
mutual
theorem EH:∀(d:UU) (v:UQ) (f:bg UX) (A:Vx) (s:UY) (Q:Int->UY->Prop),kd d=US->acq s.heap v d f->A.units+d.depth<cLine->Q (tU w d) {s with toks:=s.toks+S7 d}->wpAny (model prog w) A (pyHash v) Q E s
 |.none,_,_,A,s,Q,_,r,hu,h=>by cases r;exact adA (T:= "NoneType") rfl F.slot_NoneType_hash F.entry_NoneType_hash (F.args_NoneType_hash_1 _) (aia _) (.inr (by ext)) (Ld (UT (Ld (wpAny_mkInt (UT ⟨_,_,rfl,h⟩)))))
 |.int i,_,_,A,s,Q,_,r,_,h=>by cases r;exact ahZ h
 |.str x,_,_,A,s,Q,_,r,_,h=>by cases r;exact ah0 h
 |.tuple xs,_,_,A,s,Q,hk,r,hu,h=>by
  cases r with
  | @tuple a o vs n _ _ h1 h2 h3 h4=>
   refine adA (T:= "tuple") ⟨_,h1,h2⟩ F.slot_tuple_hash F.entry_tuple_hash (F.args_tuple_hash_1 _) (aia _) (.inr (by ext)) ?_;show wpAny _ _ (Builtin.Tuple.tupleItemsOf (.ref a)>>=_) _ _ s;refine Ld (wpAny_tupleItemsOf h1 h3 ?_);refine Ld ?_;rw[<-Zs];unfold kd at hk;refine wX xs vs.toList _ A.in1 s #v[] _ hk h4 (by simp only[UU.depth,Vx.in1_units]at hu⊢;ext) λb e=>?_;show wpAny _ _ (retInt (Builtin.Tuple.tupleHashOf b.toList)) _ _ _;rw[e];refine Ld (wpAny_mkInt (UT ⟨_,_,rfl,?_⟩));unfold tU S7 at h
   simpa [WU]using h
 |.bool _,_,_,_,_,_,h,_,_,_|.list _,_,_,_,_,_,h,_,_,_|.dict _,_,_,_,_,_,h,_,_,_=>by simp[kd]at h
theorem wX:∀(xs:bg UU) (vs:bg UQ) (f:bg UX) (A:Vx) (s:UY) (b:Array Int) (Q:Array Int->UY->Prop),kds xs=US->aab s.heap vs xs f->A.units+UU.depthAll xs<cLine->
  (∀b':Array Int,b'.toList=b.toList++uI w xs->Q b' {s with toks:=s.toks+MR xs})->
  wpAny (model prog w) A (forIn vs b λx r=>do let h<-pyHash x;pure PUnit.unit;pure (ForInStep.yield (r.push h))) Q E s
 |[],_,_,A,s,b,Q,_,x,_,h=>by cases x;exact UT (h b (by simp[uI]))
 |k::xs,_,_,A,s,b,Q,hk,x,hu,h=>by
  cases x with
  |cons d a=>
   unfold kds at hk;simp only[Vh,UU.depthAll]at hk hu;rw[Zb];refine Ld (Ld (EH k _ _ A s _ hk.1 d (by ext) ?_));refine Ld (UT (UT ?_));refine wX xs _ _ A _ _ Q hk.2 a (by ext) λb' e=>?_;have:=h b' (by simp[e,uI]);unfold MR at this
   simpa [WU]using this
end
theorem ph:∀(n:Nat) (d:UU) (v:B) (j:G M) (A:Vx) (s:UY) (Q:Bool->UY->Prop),kd d=P->acq s.heap v d j->d.depth<=n->Q P s->wpAny (model prog w) A (eqIsQuiet n v) Q E s
 |n,.none,_,_,A,s,Q,_,r,_,h=>by ext r;rw[acu _ W];show UT h
 |n,.int i,_,_,A,s,Q,_,r,_,h=>by ext r;rw[acu _ W];show UT h
 |n,.str i,_,_,A,s,Q,_,r,_,h=>by ext r;rw[acu _ W];show UT h
 |0,.tuple xs,_,_,A,s,Q,z,r,u,h=>by simp only[UU.depth]at u;ext
 |n+1,.tuple xs,_,_,A,s,Q,z,r,u,h=>by
  cases r with
  | @tuple a o U m _ _ h1 T N L=>
   let g:s.TypeIs (.ref a) "tuple":=#[_,h1,T];simp only[UU.depth]at u;ext eqIsQuiet;show Ld (ZH g F.slot_tuple_eq.lookup ?_);show Ld (aaO g isSubtype_tuple_tuple ?_);simp only[Yn,VN,if_false];show Ld (Wj h1 N ?_);show Ld ?_;rw[<-Zs];unfold kd at z;show aaP _ (λb r e=>r.1=S/\e=s/\∃ys bs,kds ys=P/\aab s.heap b ys bs/\UU.depthAll ys<=n) _ ?_ ?_ _ _ #[W,W,xs,_,z,L,by ext]
   .rintro v b r e ⟨f,rfl,ys,bs,q,J,C⟩
    cases J with
    | @cons _ _ y t _ _ g1 g2=>unfold kds at q;simp only[Vh,UU.depthAll]at q C;show Ld (ph n y v _ A e _ q.1 g1 () ?_);simp only[Yn,VN,if_false];show UT #[W,W,t,_,q.2,g2,by ext]
   .rintro⟨p,l⟩ e ⟨f,rfl,_⟩;simp only at f;subst f;show UT h
 |_,.bool _,_,_,_,_,_,h,_,_,_|_,.list _,_,_,_,_,_,h,_,_,_|_,.dict _,_,_,_,_,_,h,_,_,_=>by simp[kd]at h
end
mutual
theorem wV{h h':Heap}{x:UX}{e:Obj}{es:Array YN}{j:Nat}(f:h.get? x=lD e)(g:e.data=.dict es j)(hs:Heap.SameBut x h h'):∀(d:UU) (v:UQ) (i:bg UX),kd d=US->acq h v d i->acq h' v d i
 |.none,_,_,_,r=>by cases r;exact .none
 |.int _,_,_,_,r=>by cases r;exact .int _ _
 |.str _,_,_,_,r=>by cases r;exact .str _ _
 |.tuple xs,_,_,k,r=>by
  cases r with
  | @tuple a o vs n _ _ h1 h2 h3 h4=>
   have b:a≠x:=by rintro rfl;rw[f]at h1;cases h1;rw[g]at h3;exact nomatch h3
   unfold kd at k;exact .tuple ((hs.2 a b).trans h1) h2 h3 (uc f g hs xs _ _ k h4)
 |.bool _,_,_,h,_|.list _,_,_,h,_|.dict _,_,_,h,_=>by simp[kd]at h
theorem uc{h h':Heap}{x:UX}{a:Obj}{es:Array YN}{j:Nat}(b:h.get? x=lD a)(e:a.data=.dict es j)(hs:Heap.SameBut x h h'):∀(ds:bg UU) (vs:bg UQ) (f:bg UX),kds ds=US->aab h vs ds f->aab h' vs ds f
 |[],_,_,_,r=>by cases r;exact .nil
 |d::ds,_,_,k,r=>by
  cases r with
  |cons i g=>unfold kds at k;rw[Vh]at k;exact .cons (wV b e hs d _ _ k.1 i) (uc b e hs ds _ _ k.2 g)
end
abbrev KD:={d:UU//keyD d=P}
noncomputable instance kdDec:DecidableEq KD:=λ_ _=>Classical.propDecidable _
def bB(prog:Vn)(w:VJ):HeapKind prog w KD where
 is:=λh k a=>∃as,acq h (.ref a) k.1 as
 hash:=λk=>tU w k.1
 draws:=λk=>S7 k.1
 room:=λA=>A.units+8<cLine
 inj:=λ#[_,r] #[_,f]=>Subtype.ext (acq.unique r _ _ f).1
 keeps:=λ{h l k a d o m n} #[as,r] j hd i=>#[as,wV j hd i k.1 _ _ (keyD_kd k.2).1 r]
 pyHash:=λ{A E s k a Q} g #[as,r] q=>EH k.1 _ as A s Q (keyD_kd k.2).1 r (by let:=(keyD_kd k.2).2;ext) q
 eqBool:=λ{A E s x y a b Q} g #[as,r] #[bs,f] q=>SeqAt.eqAt_reads x.1 y.1 A s _ _ as bs r f (kd_lay _ (keyD_kd x.2).1) (kd_lay _ (keyD_kd y.2).1) (by let:=(keyD_kd x.2).2;ext) prog w E Q (by
  haveI:Decidable (x.1=y.1):=Classical.propDecidable _
  rw[Gu (keyD_kd x.2).1 (keyD_kd y.2).1];by_cases e:x=y
  .rw[aP e]at q;rw[aP (et Subtype.val e)];show q
  .rw[a4 e]at q;rw[a4 λz=>e (Subtype.ext z)];show q)
 quiet:=λ{A E s k a Q} #[as,r] q=>ph 8 k.1 _ as A s Q (keyD_kd k.2).1 r (keyD_kd k.2).2 q
def UC(a:M)(xs:G (KD×M×V))(w:VJ)(h:Heap):Prop:=
 (xs.length<=Vb/\(a==Xi)=U0/\(xs.map (·.1)).Nodup)/\∃o b d,h.get? a=R o/\o.ExactDict/\o.data=.dict b d/\Paired (λ(x:KD×M×V) (e:YN)=>e.hash=tU w x.1.1/\e.key=.ref x.2.1/\RelV x.2.2 e.val) xs b.toList
abbrev DkO(a:M)(xs:G (KD×M×V)):HO:=.exw (UC a xs)
abbrev PrD(O:cg)(K:UN)(H:Hp):G (KD×M×V)->G (D×D)->Prop:=
 Paired λx a=>x.1.1=a.1/\L3.DV O K H (.ref x.2.1) a.1/\L3.DV O K H x.2.2 a.2
end LD
namespace L10
open PySem L2 L3
inductive AV where
 |fz (d:D)
 |rf (i:Nat)
inductive SV where
 |fz (d:D)
 |rf (i:Nat)
 |tp (l:G AV)
def AV.sv:AV->SV
 |.fz d=>.fz d
 |.rf i=>.rf i
inductive Cell where
 |lst (xs:G SV)
 |dct (Vy:G (de×SV))
 |obj (C:Str) (fs:G (Str×SV))
 |dd (Vy:G (D×D))
 |dead
abbrev bh:=G Cell
abbrev bC:=G (I SV)
inductive RS(α:Type) where
 |ok (a:α) (Z:bh)
 |er (x:Xc) (Z:bh)
 |bad
def RS.bind(r:RS α)(f:α->bh->RS β):RS β:=match r with
 |.ok a Z=>f a Z
 |.er x Z=>.er x Z
 |.bad=>.bad
def RS.V4(Z:bh):I α->RS α
 |some a=>.ok a Z
 |none=>.bad
theorem RS.bind_ok(a:α)(Z:bh)(f:α->bh->RS β):(RS.ok a Z).bind f=f a Z:=W
abbrev eH:=@RS.bind_ok
def Lv(α:G M)(Z:bh):cg:=λb=>∃(i:Nat) (c:Cell),α[i]?=R b/\Z[i]?=R c/\c≠Cell.dead
def ow(B:cg)(α:G M)(Z:bh):cg:=λb=>B b\/Lv α Z b
section
variable(O:cg)(K:UN)(H:Hp)(Z:bg UX)
def AOk(v:V):AV->Prop
 |.fz d=>DV O K H v d
 |.rf i=>∃a,Z[i]?=R a/\v=.ref a
def Yw(v:V):SV->Prop
 |.fz d=>DV O K H v d
 |.rf i=>∃a,Z[i]?=R a/\v=.ref a
 |.tp l=>∃a xs,v=.ref a/\aay O K H a xs/\Paired (AOk O K H Z) xs l
abbrev W7:G V->G SV->Prop:=Paired (Yw O K H Z)
def COk(a:M):Cell->Prop
 |.lst xs=>∃d,H a=R (.lst d)/\W7 O K H Z d xs
 |.dct b=>∃ws:G (de×V),H a=R (.dK ws)/\Paired (λ(p:de×V) (q:de×SV)=>p.1=q.1/\Yw O K H Z p.2 q.2) ws b
 |.obj C fs=>∃e f ws,Vp K Vj C=R (R (.ref e))/\H a=R (.ins e f ws)/\Paired (λ(p:Str×V) (q:Str×SV)=>p.1=q.1/\Yw O K H Z p.2 q.2) ws fs
 |.dd b=>∃xs,H a=R (LD.DkO a xs)/\LD.PrD O K H xs b
 |.dead=>True
def XJ(a:L2.St)(b:bC):Prop:=a.length=b.length/\∀(i:Nat) (x:SV),b[i]?=R (R x)->∃v,a[i]?=R (R v)/\Yw O K H Z v x
end
structure VD(B:cg)(K:UN)(H:Hp)(α:G M)(Z:bh):Prop where
 len:α.length=Z.length
 nd:∀(i j:Nat) (a:M),α[i]?=R a->α[j]?=R a->i=j
 bn:∀a,B a->H a≠S
 ba:∀a,B a->∀i:Nat,α[i]?≠R a
 al:∀(i:Nat) (a:M),α[i]?=R a->H a≠S
 cel:∀(i:Nat) (a:M) (c:Cell),α[i]?=R a->Z[i]?=R c->COk (ow B α Z) K H α a c
structure WJ(α:G M)(Z:bh)(H:Hp)(α':G M)(Z':bh)(H':Hp):Prop where
 pre:∀(i:Nat) (a:M),α[i]?=R a->α'[i]?=R a
 kp:∀b o,H b=R o->¬Lv α Z b->H' b=R o
 lv:∀b,Lv α' Z' b->Lv α Z b\/H b=S
section
variable{B O Q:cg}{K:UN}{E:XK}{H L R N:Hp}{Y X U S:bg UX}{Z T J M:bh}{t:L2.St}{ρ:bC}{v:V}
theorem WJ.refl:WJ Y Z H Y Z H:=#[λ_ _ h=>h,λ_ _ h _=>h,λ_ h=>.inl h]
def WJ.trans(a:WJ Y Z H U J R)(b:WJ U J R S M N):WJ Y Z H S M N:=by
 let d:∀b o,H b=lD o->¬Lv Y Z b->¬Lv U J b:=λb o h n z=>(a.lv b z).elim n λq=>by rw[h]at q;ext q
 show#[λi p h=>b.pre i p (a.pre i p h),λp o h n=>b.kp p o (a.kp p o h n) (d p o h n),λp h=>?_];rcases b.lv p h with h|h
 .show a.lv p h
 .cases q:H p with
  |none=>show .inr W
  |some o=>show .inl (Classical.byContradiction λn=>?_);rw[a.kp p o q n]at h;ext h
theorem WJ.same(s:WY H L):WJ Y Z H Y Z L:=#[λ_ _ h=>h,λb o h _=>s b o h,λ_ h=>.inl h]
theorem WJ.ev(e:WJ Y Z H X T L):Ev (ow B Y Z) H (ow B X T) L:=λb o h n=>
 #[e.kp b o h λz=>n (.inr z),λz=>z.elim (λq=>n (.inl q)) λq=>(e.lv b q).elim (λq=>n (.inr q)) λq=>by rw[h]at q;ext q]
def AOk.ev(e:Ev O H Q L)(p:∀(i:Nat) (a:UX),Y[i]?=lD a->X[i]?=lD a)(h:AOk O K H Y v x):AOk Q K L X v x:=by
 cases x with
 |fz d=>show DV.ev e h
 |rf i=>let(a,f,b):=h;show#[a,p i a f,b]
def Yw.ev(e:Ev O H Q L)(p:∀(i:Nat) (a:UX),Y[i]?=lD a->X[i]?=lD a)(h:Yw O K H Y v x):Yw Q K L X v x:=by
 cases x with
 |fz d=>show DV.ev e h
 |rf i=>let(a,f,b):=h;show#[a,p i a f,b]
 |tp l=>let(a,xs,f,b,g):=h;show#[a,xs,f,b.ev e,Paired.Zt g λ_ _ q=>q.ev e p]
theorem Yw.Xt(e:WJ Y Z H X T L)(h:Yw (ow B Y Z) K H Y v x):Yw (ow B X T) K L X v x:=h.ev e.ev e.pre
theorem W7.Xt(e:WJ Y Z H X T L)(h:W7 (ow B Y Z) K H Y vs xs):W7 (ow B X T) K L X vs xs:=Paired.Zt h λ_ _ q=>q.Xt e
theorem XJ.Xt(e:WJ Y Z H X T L)(h:XJ (ow B Y Z) K H Y t ρ):XJ (ow B X T) K L X t ρ:=#[h.1,λi x q=>let#[v,h1,a]:=h.2 i x q;#[v,h1,a.Xt e]]
def COk.ev(e:Ev O H Q L)(p:∀(i:Nat) (a:UX),Y[i]?=lD a->X[i]?=lD a)(j:∀o,H a=lD o->L a=lD o)(h:COk O K H Y a c):COk Q K L X a c:=by
 cases c with
 |lst xs=>let(l,d,b):=h;show#[l,j _ d,Paired.Zt b λ_ _ q=>q.ev e p]
 |dct n=>let(ws,d,b):=h;show#[ws,j _ d,Paired.Zt b λ_ _ q=>#[q.1,q.2.ev e p]]
 |obj C fs=>let(g,m,ws,f,d,b):=h;show#[g,m,ws,f,j _ d,Paired.Zt b λ_ _ q=>#[q.1,q.2.ev e p]]
 |dd n=>let(xs,d,b):=h;show#[xs,j _ d,Paired.Zt b λ_ _ q=>#[q.1,q.2.1.ev e,q.2.2.ev e]]
 |dead=>trivial
theorem VD.noO(s:VD B K H Y Z):pV (ow B Y Z) H:=λa h z=>z.elim (λq=>s.bn a q h) λ#[i,c,q,_]=>s.al i a q h
theorem VD.owd(s:VD B K H Y Z):∀a,ow B Y Z a->H a≠UO:=λa z h=>s.noO a h z
def VD.grow(s:VD B K H Y Z)(e:WY H L):VD B K L Y Z:=by let n:∀a,H a≠UO->L a≠UO:=λa h z=>h (e.free z);show#[s.len,s.nd,λa h=>n a (s.bn a h),s.ba,λi a h=>n a (s.al i a h),λi a c d b=>(s.cel i a c d b).ev (Ev.grow e) (λ_ _ h=>h) λo h=>e _ _ h]
def VD.at(s:VD B K H Y Z){i:Nat}(h:Z[i]?=lD c):∃a,Y[i]?=lD a:=by let:i<Z.length:=(UP.mp h).1;rw[<-s.len]at this;show#[_,U7 this]
theorem VD.agf(s:VD B K H Y Z){i:Nat}(h:Y[i]?=lD a):¬B a:=λz=>s.ba a z i h
def Bp{i:Nat}{c m:Cell}(h:Z[i]?=lD c)(n:c≠.dead)(g:m≠.dead){b:UX}:Lv Y (Z.set i m) b↔Lv Y Z b:=by
 constructor
 .rintro⟨j,d,f,a,l⟩
  rcases cP a with⟨rfl,rfl⟩|⟨_,a⟩
  .show#[j,c,f,h,n]
  .show#[j,d,f,a,l]
 .rintro⟨j,d,f,a,l⟩
  by_cases e:j=i
  .subst e;show#[j,m,f,by rw[Wg (UP.mp h).1],g]
  .show#[j,d,f,by rw[VX (λz=>e z.symm)];show a,l]
def Qs(h:Z[i]?=lD c)(d:c≠.dead)(a:o≠.dead):ow B Y (Z.set i o)=ow B Y Z:=by funext b;show propext #[λz=>z.imp id (Bp h d a).mp,λz=>z.imp id (Bp h d a).mpr]
theorem WJ.put(j:Y[i]?=lD a)(h:Z[i]?=lD c)(f:c≠.dead)(d:c'≠.dead):WJ Y Z H Y (Z.set i c') (bJ H a o):=
 #[λ_ _ h=>h,λb g q n=>by let z:b≠a:=λe=>n #[i,c,by rw[e];show j,h,f];rw[aF z];show q,λb z=>.inl ((Bp h f d).mp z)]
def VD.put(s:VD B K H Y Z)(k:Y[i]?=lD a)(h:Z[i]?=lD c)(p:c≠.dead)(f:c'≠.dead)(new:COk (ow B Y Z) K (bJ H a o) Y a c'):VD B K (bJ H a o) Y (Z.set i c'):=by
 let e:WJ Y Z H Y (Z.set i c') (bJ H a o):=WJ.put k h p f;let n:∀b,H b≠UO->bJ H a o b≠UO:=λb h=>by
  by_cases z:b=a
  .subst z;rw[aO];simp
  .rw[aF z];show h
 show#[by rw[V2];show s.len,s.nd,λb h=>n b (s.bn b h),s.ba,λj b h=>n b (s.al j b h),λj b d g m=>?_];rcases cP m with⟨rfl,rfl⟩|⟨l,m⟩
 .rw[k]at g;ext g;rw[Qs h p f];show new
 .show(s.cel j b d g m).ev e.ev e.pre λu q=>by rw[aF (λz=>l (s.nd j i a (by rw[<-z];show g) k))];show q
theorem vx{i:Nat}{a:UX}{c:Cell}{o:HO}(d:Y[i]?=lD a)(h:Z[i]?=lD c)(b:c≠.dead):Ev (ow B Y Z) H (ow B Y Z) (bJ H a o):=Ev.mut (.inr #[i,c,d,h,b]) o
def bM{Y:Type}{l:G Y}{x y:Y}{i:Nat}(h:(l++[x])[i]?=lD y):l[i]?=lD y\/(i=l.length/\y=x):=by
 by_cases hi:i<l.length
 .rw[U3 hi]at h;show .inl h
 .rw[Vr ()]at h
  cases q:i - l.length with
  |zero=>rw[q]at h;ext h;show .inr #[by ext,W]
  |succ n=>rw[q]at h;ext h
def e9{Y:Type}{l:G Y}{x y:Y}{i:Nat}(h:l[i]?=lD y):(l++[x])[i]?=lD y:=by rw[U3 (UP.mp h).1];show h
def a9:(l++[x])[l.length]?=lD x:=by simp
def qY(g:Y.length=Z.length)(h:Lv (Y++[p]) (Z++[c]) b):Lv Y Z b\/b=p:=by
 let(i,d,a,e,f):=h;rcases bM a with a|⟨l,j⟩
 .rcases bM e with e|⟨l,j⟩
  .show .inl #[i,d,a,e,f]
  .let:=(UP.mp a).1;ext
 .show .inr j
theorem WJ.acz(f:Y.length=Z.length)(s:WY H L)(d:H p=UO):WJ Y Z H (Y++[p]) (Z++[c]) L:=
 #[λi a h=>e9 h,λb u q _=>s b u q,λb z=>(qY f z).imp id λe=>by rw[e];show d]
def VD.acz(s:VD B K H Y Z)(e:WY H L)(l:H p=UO)(m:L p≠UO)(new:COk (ow B (Y++[p]) (Z++[c])) K L (Y++[p]) p c):VD B K L (Y++[p]) (Z++[c]):=by
 let ev:WJ Y Z H (Y++[p]) (Z++[c]) L:=WJ.acz s.len e l;let n:∀b,H b≠UO->L b≠UO:=λb h z=>h (e.free z);show#[by rw[UZ,UZ,s.len];rfl,λi j a f g=>?_,λa h=>n a (s.bn a h),λa h i q=>?_,λi a h=>?_,λi a d f g=>?_]
 .rcases bM f with g1|⟨y,r⟩<;>rcases bM g with g2|⟨u,A⟩
  .show s.nd i j a g1 g2
  .show a6 (by rw[A];show l) (s.al i a g1)
  .show a6 (by rw[r];show l) (s.al j a g2)
  .omega
 .rcases bM q with q|⟨_,r⟩
  .show s.ba a h i q
  .subst r;show s.bn a h l
 .rcases bM h with h|⟨_,r⟩
  .show n a (s.al i a h)
  .subst r;show m
 .rcases bM g with g|⟨y,r⟩
  .rcases bM f with f|⟨y,_⟩
   .show(s.cel i a d f g).ev ev.ev ev.pre λo q=>e _ _ q
   .let:=(UP.mp g).1;let:=s.len;ext
  .rcases bM f with f|⟨_,u⟩
   .let:=(UP.mp f).1;let:=s.len;ext
   .subst r u;show new
def WS(K:UN)(E:XK)(B:cg)(H:Hp)(Y:G UX)(Z:bh)(P:A->G UX->bh->Hp->Prop):RS A->Prop
 |.ok a T=>∀X L,WJ Y Z H X T L->VD B K L X T->P a X T L
 |.er x T=>∀c b X L,WJ Y Z H X T L->VD B K L X T->XOk K (ow B X T) L c b x->E c b L
 |.bad=>False
def WS.from(e:WJ Y Z H U J R)(h:WS K E B H Y Z f r):WS K E B R U J f r:=by
 cases r with
 |ok a M=>show λS N d b=>h S N (e.trans d) b
 |er x M=>show λc g S N d b=>h c g S N (e.trans d) b
 |bad=>show h
def WS.bind(h:WS K E B H Y Z d (r.bind k)):WS K E B H Y Z (λa U J R=>WS K E B R U J d (k a J)) r:=by
 cases r with
 |ok a J=>show λU R b _=>WS.from b h
 |er x J=>show h
 |bad=>show h
def WS.V4(h:WS K E B H Y Z b ((RS.V4 Z o).bind k)):∃a,o=lD a/\WS K E B H Y Z b (k a Z):=by
 cases o with
 |none=>show h.elim
 |some a=>show#[a,W,h]
def WS.imp(h:WS K E B H Y Z e r)(g:∀a X T L,WJ Y Z H X T L->VD B K L X T->e a X T L->P' a X T L):WS K E B H Y Z P' r:=by
 cases r with
 |ok a J=>show λU R d b=>g a U J R d b (h U R d b)
 |er x J=>show h
 |bad=>show h
theorem WS.now(s:VD B K H Y Z)(h:WS K E B H Y Z b (.ok a Z)):b a Y Z H:=h Y H .refl s
end
abbrev cZ:=bC->bh->RS SV
abbrev tQ:=bC->bh->RS Bool
abbrev Az:=bC->bh->RS (G SV)
def cX(K:UN)(E:XK)(t:TE)(f:cZ):Prop:=
 ∀(B:cg) (b:L2.St) (H:Hp) (α:G M) (Z:bh) (g:bC) (Q:VK),VD B K H α Z->XJ (ow B α Z) K H α b g->WS K E B H α Z (λx a e d=>∀v,Yw (ow B a e) K d a v x->Q v d) (f g Z)->t b H Q
def yR(K:UN)(E:XK)(t:TT)(f:tQ):Prop:=
 ∀(B:cg) (a:L2.St) (H:Hp) (α:G M) (Z:bh) (e:bC) (Q:Bool->Hp->Prop),VD B K H α Z->XJ (ow B α Z) K H α a e->WS K E B H α Z (λb _ _ d=>Q b d) (f e Z)->t a H Q
def yt(K:UN)(E:XK)(t:TA)(f:Az):Prop:=
 ∀(B:cg) (b:L2.St) (H:Hp) (α:G M) (Z:bh) (g:bC) (Q:G V->Hp->Prop),VD B K H α Z->XJ (ow B α Z) K H α b g->WS K E B H α Z (λxs a e d=>∀h,W7 (ow B a e) K d a h xs->Q h d) (f g Z)->t b H Q
section
variable{B O M:cg}{K:UN}{E:XK}{H H' T H2:Hp}{Y N X J:bg UX}{Z Z' Z1 P:bh}{U:L2.St}{ρ:bC}{v:V}
def Oa:I SV->I PV
 |some (.fz d)=>R (.fz d)
 |_=>S
def cR(ρ:bC):bA:=ρ.map Oa
def v4{i:Nat}(h:(cR ρ)[i]?=R (R x)):∃d,x=.fz d/\ρ[i]?=R (R (.fz d)):=by
 unfold cR at h;rw[U4]at h;cases q:ρ[i]? with
 |none=>rw[q]at h;ext h
 |some o=>
  rw[q]at h;let a:=Vi h;unfold Oa at a;split at a
  .ext a;show#[_,W,W]
  .ext a
def JI(s:VD B K H Y Z)(a:XJ (ow B Y Z) K H Y U ρ):Rl K (ow B Y Z) H (ow B Y Z) U H (cR ρ):=by
 show#[WY.refl _,λ_ h=>h,s.owd,s.noO,by ext cR;rw[UR];show a.1,λi x h=>?_,λi j ds l w h=>?_]
 .let(d,rfl,b):=v4 h;let(v,g,f):=a.2 i _ b;show#[v,g,f]
 .let(d,e,_):=v4 h;ext e
def mq(Z:bh):RV->RS SV
 |.fz d=>.ok (.fz d) Z
 |.ow ds=>.ok (.rf Z.length) (Z++[.lst (ds.map .fz)])
abbrev PQ(B:cg)(K:UN)(Q:VK):SV->G UX->bh->Hp->Prop:=λx N Z' H'=>∀v,Yw (ow B N Z') K H' N v x->Q v H'
theorem mn(O:cg)(Y:G UX):∀{a:G V} {ds:G D},WO O K H a ds->W7 O K H Y a (ds.map .fz)
 |_,_,.nil=>.nil
 |_,_,.cons h t=>.cons h (mn O Y t)
theorem IM:∀{a:G V} {ds:G D},W7 O K H Y a (ds.map .fz)->WO O K H a ds
 |_,[],.nil=>.nil
 |_,_::_,.cons h t=>.cons h (IM t)
def vC(s:VD B K H Y Z)(w:WS K E B H Y Z (PQ B K Q) (mq Z (.ow ds)))(e:WY H H')(a:H p=S)(h:H' p=R (.lst o))(hd:WO M K H' o ds)(d:∀b,ow B Y Z b->M b)(f:M p):Q (.ref p) H':=by
 let sub:∀b,ow B (Y++[p]) (Z++[.lst (ds.map .fz)]) b->M b:=λb z=>z.elim (λq=>d b (.inl q)) λq=>(qY s.len q).elim (λq=>d b (.inr q)) λq=>by rw[q];show f
 show w (Y++[p]) H' (WJ.acz s.len e a) (s.acz e a (by rw[h];simp) #[o,h,mn _ _ (hd.ev (Ev.sub sub))]) (.ref p) #[p,by rw[<-s.len];show a9,W]
def G8(s:VD B K H Y Z)(w:WS K E B H Y Z (PQ B K Q) (mq Z o)):Fin (ow B Y Z) K H Q o:=by
 cases o with
 |fz d=>show λv H' e a=>w Y H' (WJ.same e) (s.grow e) v a
 |ow ds=>show λp g H' e f h a=>vC s w e f h a (λb z=>.inl z) (.inr W)
def aa(f:FE):cZ:=λρ Z=>match f (cR ρ)with
 |.ok (.fz d,_)=>.ok (.fz d) Z
 |.ok (.ow ds,_)=>mq Z (.ow ds)
 |.ok (.pl _,_)=>.bad
 |.er x=>.er x Z
 |.bad=>.bad
def ao(h:EO K E t f):cX K E t (aa f):=by
 intro B U H Y Z ρ Q s g w;show h (ow B Y Z) H (ow B Y Z) U H (cR ρ) Q (JI s g) ?_;unfold aa at w;cases q:f (cR ρ)with
 |bad=>rw[q]at w;show w.elim
 |er x=>rw[q]at w;show λc u H' e k=>w c u Y H' (WJ.same e) (s.grow e) k
 |ok r=>
  let(pv,b):=r;rw[q]at w;intro M v H' e R p;cases pv with
  |fz d=>show w Y H' (WJ.same R.same) (s.grow R.same) v (DV.ev (Ev.sub R.bo) p)
  |ow ds=>let(a,y,rfl,n,m,l,j,o):=p;show vC s w R.same m l j R.bo n
  |pl i=>show w.elim
def cr(f:FT):tQ:=λρ Z=>match f (cR ρ)with
 |.ok (b,_)=>.ok b Z
 |.er x=>.er x Z
 |.bad=>.bad
def uY(h:TTO K E t f):yR K E t (cr f):=by
 intro B U H Y Z ρ Q s d w;show h (ow B Y Z) H (ow B Y Z) U H (cR ρ) Q (JI s d) ?_;unfold cr at w;cases q:f (cR ρ)with
 |bad=>rw[q]at w;show w.elim
 |er x=>rw[q]at w;show λc g H' e k=>w c g Y H' (WJ.same e) (s.grow e) k
 |ok r=>let(b,a):=r;rw[q]at w;show λM H' e R=>w Y H' (WJ.same R.same) (s.grow R.same)
def aA(i:Nat):cZ:=λρ Z=>match ρ[i]? with
 |some (R x)=>.ok x Z
 |_=>.bad
def aC:cX K E (yA i) (aA i):=by
 intro B U H Y Z ρ Q s a w;unfold aA at w;cases q:ρ[i]? with
 |none=>rw[q]at w;show w.elim
 |some o=>
  cases o with
  |none=>rw[q]at w;show w.elim
  |some x=>rw[q]at w;let(v,d,b):=a.2 i x q;show#[v,d,WS.now s w v b]
def ib(K:UN)(C:Str)(fs:G Str):Prop:=∃a,Vp K Vj C=R (R (.ref a))/\Cls K a/\∀f∈fs,ZL K a f
def bH(C f:Str)(e:cZ):cZ:=λρ Z=>(e ρ Z).bind λx Z1=>match x with
 |.rf i=>(match Z1[i]? with
  |some (.obj D fs)=>if D=C then RS.V4 Z1 (fs.lookup f)else .bad
  |_=>.bad)
 |_=>.bad
def Fv:∀{ws:G (Str×V)} {fs:G (Str×SV)},Paired (λ(p:Str×V) (q:Str×SV)=>p.1=q.1/\Yw O K H Y p.2 q.2) ws fs->fs.lookup f=R x->∃v,ws.lookup f=R v/\Yw O K H Y v x:=by
 intro ws fs p
 induction p with
 |nil=>intro h;ext h
 | @cons a b _ _ q t g=>
  let(a,v):=a;let(b,y):=b;let(e,d):=q;intro h;ext e;rw[Vq]at h⊢;split at h
  .ext h;show#[v,W,d]
  .show g h
def Fh:∀{ws:G (Str×V)} {fs:G (Str×SV)},Paired (λ(p:Str×V) (q:Str×SV)=>p.1=q.1/\Yw O K H Y p.2 q.2) ws fs->fs.lookup f=S->ws.lookup f=S:=by
 intro ws fs p
 induction p with
 |nil=>intro h;rfl
 | @cons a b _ _ q t g=>
  let(a,v):=a;let(b,y):=b;let(d,e):=q;intro h;ext d;rw[Vq]at h⊢;split at h
  .ext h
  .show g h
def cQ(p:ib K C L)(o:f∈L)(k:cX K E ta fa):cX K E (Rb K ta f) (bH C f fa):=by
 intro B U H Y Z ρ Q s j w;show k B U H Y Z ρ _ s j (w.bind.imp λx X Z1 T I e b v m=>?_);cases x with
 |fz d=>show b.elim
 |tp l=>show b.elim
 |rf i=>
  let(a,k,rfl):=m;dsimp only at b;cases q:Z1[i]? with
  |none=>rw[q]at b;show b.elim
  |some c=>
   rw[q]at b;cases c with
   |obj D fs=>
    dsimp only at b;by_cases z:D=C
    .subst z
     rw[av W]at b;let(G,dx,ws,y,t,r):=e.cel i a _ k q;cases ql:fs.lookup f with
     |none=>rw[ql]at b;show b.elim
     |some x=>rw[ql]at b;let(u,n,h):=Fv r ql;let(R,g,F,A):=p;rw[y]at g;ext g;show#[a,G,dx,ws,u,W,t,F,A f o,n,WS.now e b u h]
    .rw[ax z]at b;show b.elim
   |_=>show b.elim
def aJ{Y a:Type}(f:Y->I a):G Y->I (G a)
 |[]=>R []
 |x::r=>match f x with
  |some y=>(match aJ f r with
   |some b=>R (y::b)
   |none=>S)
  |none=>S
def k9:Nat->bh->SV->I D
 |_,_,.fz d=>R d
 |0,_,_=>S
 |n+1,Z,.rf i=>match Z[i]? with
  |some (.lst xs)=>(aJ (k9 n Z) xs).map .list
  |_=>S
 |n+1,Z,.tp l=>(aJ (λx=>k9 n Z x.sv) l).map .tuple
theorem dz{Y a:Type}{f:Y->I a}{R:V->Y->Prop}{S:V->a->Prop}(h:∀v x y,R v x->f x=lD y->S v y):∀{c:G V} {xs:G Y} {d:G a},Paired R c xs->aJ f xs=lD d->Paired S c d
 |_,_,_,.nil,e=>by ext e;show .nil
 |_,_,_,.cons (b:=x) (l₂:=xs) r t,e=>by
  unfold aJ at e;cases q:f x with
  |none=>rw[q]at e;ext e
  |some y=>
   rw[q]at e;dsimp only at e;cases g:aJ f xs with
   |none=>rw[g]at e;ext e
   |some d=>rw[g]at e;ext e;show .cons (h _ _ _ r q) (dz h t g)
def lU:∀{b:G V} {ds:G D},Paired (DV O K H) b ds->WO O K H b ds:=by
 intro _ _ p
 induction p with
 |nil=>show .nil
 |cons h t a=>show .cons h a
theorem Op:Ev O H noO H:=Ev.sub λ_ z=>z.elim
theorem kZ(s:VD B K H Y Z):∀(n:Nat) {v:V} {x:SV} {d:D},Yw (ow B Y Z) K H Y v x->k9 n Z x=lD d->DV noO K H v d
 |n,v,.fz o,d,h,e=>by
  let g:lD o=lD d:=by ext n<;>show e
  ext g;show DV.ev Op h
 |0,v,.rf i,d,h,e=>by ext e
 |0,v,.tp l,d,h,e=>by ext e
 |n+1,v,.rf i,d,h,e=>by
  let(a,m,rfl):=h;unfold k9 at e;cases q:Z[i]? with
  |none=>rw[q]at e;ext e
  |some c=>
   rw[q]at e;cases c with
   |lst xs=>
    dsimp only at e;cases j:aJ (k9 n Z) xs with
    |none=>rw[j]at e;ext e
    |some ds=>rw[j]at e;ext e;let(p,f,b):=s.cel i a _ m q;show .lst #[Zp.of f,λz=>z.elim] (lU (dz (R:=Yw (ow B Y Z) K H Y) (λv x y r e=>kZ s n r e) b j))
   |_=>ext e
 |n+1,v,.tp l,d,h,e=>by
  let(a,xs,rfl,f,b):=h;unfold k9 at e;cases j:aJ (λx=>k9 n Z x.sv) l with
  |none=>rw[j]at e;ext e
  |some ds=>rw[j]at e;ext e;show .tup (f.ev Op) (lU (dz (λv x y r e=>kZ s n (by ext x<;>show r) e) b j))
def xy:SV->I D
 |.fz d=>R d
 |_=>S
def sh(Z:bh):SV->I D
 |.fz d=>R d
 |.rf i=>match Z[i]? with
  |some (.lst xs)=>(aJ xy xs).map .list
  |_=>S
 |.tp _=>S
def Kd(s:VD B K H Y Z)(h:Yw (ow B Y Z) K H Y v x)(e:sh Z x=R d):DX (ow B Y Z) K H v d:=by
 cases x with
 |fz g=>ext e;show DV.x h
 |tp l=>ext e
 |rf i=>
  let(a,n,rfl):=h;unfold sh at e;dsimp only at e;cases q:Z[i]? with
  |none=>rw[q]at e;ext e
  |some c=>
   rw[q]at e;cases c with
   |lst xs=>
    dsimp only at e;cases j:aJ xy xs with
    |none=>rw[j]at e;ext e
    |some ds=>
     rw[j]at e;ext e;let(m,f,b):=s.cel i a _ n q;show#[a,m,W,Zp.of f,lU (dz (λv x y r e=>?_) b j)];cases x with
     |fz d=>ext e;show r
     |rf i=>ext e
     |tp l=>ext e
   |_=>ext e
def AJ:D->Bool
 |.none=>US
 |.bool _=>US
 |.int _=>US
 |.str _=>US
 |_=>U0
def Lh(h:AJ d=US)(a:DV O K H v d):DV M K H' v d:=by
 cases a with
 |XN=>show .XN
 |bl b=>show .bl b
 |int i=>show .int i
 |str x=>show .str x
 |tup _ _=>ext h
 |lst _ _=>ext h
def oM(Z:bh):RV->RS SV
 |.fz d=>if AJ d=US then .ok (.fz d) Z else .bad
 |.ow _=>.bad
def Km(s:VD B K H Y Z)(w:WS K E B H Y Z (PQ B K Q) (oM Z o)):Fin noO K H Q o:=by
 cases o with
 |fz d=>
  let w:WS K E B H Y Z (PQ B K Q) (if AJ d=US then RS.ok (SV.fz d) Z else RS.bad):=w;by_cases z:AJ d=US
  .rw[av z]at w;show λv H' e a=>w Y H' (WJ.same e) (s.grow e) v (Lh z a)
  .rw[ax z]at w;show w.elim
 |ow ds=>show w.elim
theorem GV:pV noO H:=λ_ _ z=>z
def m9(f:D->D->I RV)(x y:SV)(Z:bh):RS SV:=match sh Z x,sh Z y with
 |some e,R a=>(RS.V4 Z (f e a)).bind λd Z1=>mq Z1 d
 |_,_=>(RS.V4 Z (k9 6 Z x)).bind λe Z1=>(RS.V4 Z1 (k9 6 Z1 y)).bind λa P=>(RS.V4 P (f e a)).bind λd b=>oM b d
def Bo(m:nO K r f)(s:VD B K H Y Z)(l:Yw (ow B Y Z) K H Y x a)(j:Yw (ow B Y Z) K H Y y b)(w:WS K E B H Y Z (PQ B K Q) (m9 f a b Z)):r x y H Q:=by
 let d:WS K E B H Y Z (PQ B K Q) ((RS.V4 Z (k9 6 Z a)).bind λp Z1=>(RS.V4 Z1 (k9 6 Z1 b)).bind λh P=>(RS.V4 P (f p h)).bind λo n=>oM n o)->r x y H Q:=λw=>by let(p,e,w):=w.V4;let(h,g,w):=w.V4;let(o,i,w):=w.V4;show m noO H x y p h o Q GV (DV.x (kZ s 6 l e)) (DV.x (kZ s 6 j g)) i (Km s w)
 unfold m9 at w;cases e:sh Z a with
 |none=>rw[e]at w;show d w
 |some p=>
  cases g:sh Z b with
  |none=>rw[e,g]at w;show d w
  |some h=>rw[e,g]at w;let(o,i,w):=w.V4;show m _ H x y p h o Q s.noO (Kd s l e) (Kd s j g) i (G8 s w)
def iU(f:D->D->I RV)(a fb:cZ):cZ:=λρ Z=>(a ρ Z).bind λx Z1=>(fb ρ Z1).bind λy P=>m9 f x y P
def cU(j:nO K r f)(c:cX K E C fa)(l:cX K E o fb):cX K E (Qv r C o) (iU f fa fb):=by intro B U H Y Z ρ Q s a w;show c B U H Y Z ρ _ s a (w.bind.imp λx X Z1 T n g d v h=>?_);show l B U T X Z1 ρ _ g (a.Xt n) (d.bind.imp λy J P H2 m e b u i=>?_);show Bo j e (h.Xt m) i b
def Ls:SV->I Bool
 |.fz (.bool b)=>R b
 |_=>S
def M5(e:Ls x=R b)(h:Yw O K H Y v x):v=.bl b:=by
 unfold Ls at e;split at e
 .ext e;ext h;rfl
 .ext e
def bt(a:cZ):tQ:=λρ Z=>(a ρ Z).bind λx Z1=>RS.V4 Z1 (Ls x)
def cW(c:cX K E o C):yR K E (IZ o) (bt C):=by
 intro B U H Y Z ρ Q s d w;show c B U H Y Z ρ _ s d (w.bind.imp λx X Z1 T g e a v f=>?_);cases q:Ls x with
 |none=>rw[q]at a;show a.elim
 |some b=>rw[q]at a;show#[b,M5 q f,WS.now e a]
theorem nk(a:cX K E o C):yR K E (tB o) (bt C):=cW a
def nX(a fb:tQ):tQ:=λρ Z=>(a ρ Z).bind λb Z1=>if b=US then fb ρ Z1 else .ok U0 Z1
def wo(a fb:tQ):tQ:=λρ Z=>(a ρ Z).bind λb Z1=>if b=US then .ok US Z1 else fb ρ Z1
def mX(a:tQ):tQ:=λρ Z=>(a ρ Z).bind λb Z1=>.ok (!b) Z1
def C3(h:yR K E t f)(c:yR K E u g):yR K E (Qn t u) (nX f g):=by
 intro B U H Y Z ρ Q s d w;show h B U H Y Z ρ _ s d (w.bind.imp λb X Z1 T i e a=>?_);cases b with
 |true=>show c B U T X Z1 ρ Q e (d.Xt i) a
 |false=>show WS.now e a
def lO(h:yR K E t f)(c:yR K E u g):yR K E (Ua t u) (wo f g):=by
 intro B U H Y Z ρ Q s d w;show h B U H Y Z ρ _ s d (w.bind.imp λb X Z1 T i e a=>?_);cases b with
 |true=>show WS.now e a
 |false=>show c B U T X Z1 ρ Q e (d.Xt i) a
def kG(g:yR K E t f):yR K E (Sg t) (mX f):=by intro B U H Y Z ρ Q s d w;show g B U H Y Z ρ _ s d (w.bind.imp λb X Z1 T h e a=>WS.now e a)
def iB:tQ:=λ_ Z=>.ok US Z
theorem ki:yR K E IR iB:=λB U H Y Z ρ Q s a w=>WS.now s w
def yf(a fb:cZ):cZ:=λρ Z=>(bt a ρ Z).bind λb Z1=>if b=US then fb ρ Z1 else .ok (.fz (.bool U0)) Z1
def pO(h:cX K E C fa)(f:cX K E o fb):cX K E (HF C o) (yf fa fb):=by
 intro B U H Y Z ρ Q s d w;show cW h B U H Y Z ρ (λc T=>if c=US then o U T Q else Q (.bl U0) T) s d (w.bind.imp λb X Z1 T g e a=>?_);cases b with
 |true=>show f B U T X Z1 ρ Q e (d.Xt g) a
 |false=>show WS.now e a _ (.bl U0)
def Qa(c:tQ)(a fb:cZ):cZ:=λρ Z=>(c ρ Z).bind λb Z1=>if b=US then a ρ Z1 else fb ρ Z1
def QC(g:yR K E t c)(i:cX K E C fa)(h:cX K E o fb):cX K E (TR t C o) (Qa c fa fb):=by
 intro B U H Y Z ρ Q s a w;show g B U H Y Z ρ _ s a (w.bind.imp λb X Z1 T f e d=>?_);cases b with
 |true=>show i B U T X Z1 ρ Q e (a.Xt f) d
 |false=>show h B U T X Z1 ρ Q e (a.Xt f) d
def aX:Az:=λ_ Z=>.ok [] Z
def aq(b:cZ)(a:Az):Az:=λρ Z=>(b ρ Z).bind λx Z1=>(a ρ Z1).bind λxs P=>.ok (x::xs) P
theorem bc:yt K E pK aX:=λB U H Y Z ρ Q s a w=>WS.now s w [] .nil
def ay(c:cX K E o C)(i:yt K E tr fr):yt K E (jb o tr) (aq C fr):=by intro B U H Y Z ρ Q s b w;show c B U H Y Z ρ _ s b (w.bind.imp λx X Z1 T l g e v h=>?_);show i B U T X Z1 ρ _ g (b.Xt l) (e.bind.imp λxs J P H2 j f d m a=>?_);show WS.now f d (v::m) (.cons (h.Xt j) a)
def Tg:SV->I AV
 |.fz d=>R (.fz d)
 |.rf i=>R (.rf i)
 |.tp _=>S
def Tq(xs:G SV):I SV:=match aJ xy xs with
 |some ds=>R (.fz (.tuple ds))
 |none=>(aJ Tg xs).map .tp
def kg(a:Az):cZ:=λρ Z=>(a ρ Z).bind λxs Z1=>if xs.length<=1000 then RS.V4 Z1 (Tq xs)else .bad
def Br(r:Yw O K H Y v x)(e:xy x=R d):DV O K H v d:=by
 cases x with
 |fz d=>ext e;show r
 |rf i=>ext e
 |tp l=>ext e
def OO(r:Yw O K H Y v x)(e:Tg x=R d):AOk O K H Y v d:=by
 cases x with
 |fz d=>ext e;show r
 |rf i=>ext e;show r
 |tp l=>ext e
def jy(c:yt K E C fa):cX K E (OE C) (kg fa):=by
 intro B U H Y Z ρ Q s j w;show c B U H Y Z ρ _ s j (w.bind.imp λxs X Z1 T m d a n f=>?_);by_cases hn:xs.length<=1000
 .rw[av hn]at a
  show#[by rw[f.length];show Cy hn,λp i=>?_];let b:WY T (bJ T p (.tup n)):=bO i _;let e:WJ X Z1 T X Z1 (bJ T p (.tup n)):=WJ.same b;let h:aay (ow B X Z1) K (bJ T p (.tup n)) p n:=#[Zw.of aO,λz=>a6 z (d.noO p i)];unfold Tq at a;cases q:aJ xy xs with
  |some ds=>rw[q]at a;show a X _ e (d.grow b) _ (.tup h (lU (dz (R:=Yw (ow B X Z1) K T X) (λv x y r g=>(Br r g).ev e.ev) f q)))
  |none=>
   rw[q]at a;dsimp only at a;cases o:aJ Tg xs with
   |none=>rw[o]at a;show a.elim
   |some l=>rw[o]at a;show a X _ e (d.grow b) _ #[p,n,W,h,dz (R:=Yw (ow B X Z1) K T X) (λv x y r g=>(OO r g).ev e.ev e.pre) f o]
 .rw[ax hn]at a;show a.elim
def K5(f:G D->I RV)(xs:G SV)(Z:bh):RS SV:=match aJ (sh Z) xs with
 |some ds=>(RS.V4 Z (f ds)).bind λb Z1=>mq Z1 b
 |_=>(RS.V4 Z (aJ (k9 6 Z) xs)).bind λds Z1=>(RS.V4 Z1 (f ds)).bind λb a=>oM a b
def nt(f:G D->I RV)(a:Az):cZ:=λρ Z=>(a ρ Z).bind λxs Z1=>K5 f xs Z1
def ez(h:Gk K r f)(c:yt K E C fa):cX K E (IK r C) (nt f fa):=by
 intro B U H Y Z ρ Q s i w;show c B U H Y Z ρ _ s i (w.bind.imp λxs X Z1 T l b a o g=>?_);unfold K5 at a;cases n:aJ (sh Z1) xs with
 |none=>rw[n]at a;let(ds,j,a):=a.V4;let(m,d,a):=a.V4;show h noO T o ds m Q GV (dz (R:=Yw (ow B X Z1) K T X) (λv x y r e=>DV.x (kZ b 6 r e)) g j) d (Km b a)
 |some ds=>rw[n]at a;let(m,d,a):=a.V4;show h _ T o ds m Q b.noO (dz (R:=Yw (ow B X Z1) K T X) (λv x y r e=>Kd b r e) g n) d (G8 b a)
end
section
variable{B O O':cg}{K:UN}{E:XK}{H H' M L:Hp}{Y J X U:bg UX}{Z N Z1 T:bh}{S:L2.St}{ρ:bC}{v:V}
theorem CP:∀{c:G V} {xs:G β} {i:Nat} {x:β},Paired d c xs->xs[i]?=lD x->∃v,c[i]?=lD v/\d v x
 |_,_,_,_,.nil,e=>by simp at e
 |_,_,0,_,.cons h _,e=>by simp at e;subst e;show#[_,W,h]
 |_,_,i+1,x,.cons _ t,e=>by let(v,b,a):=CP t (by simpa using e);show#[v,by simpa using b,a]
def Oo{b:G V}(h:Paired a b xs)(e:lA xs i=lD x):∃v,lA b i=lD v/\a v x:=by
 unfold lA at e⊢;rw[h.length];cases q:KG xs.length i with
 |none=>rw[q]at e;ext e
 |some j=>rw[q]at e;show CP h e
def FU:SV->I Int
 |.fz (.int i)=>R i
 |_=>UO
def Df(e:FU x=R i)(h:Yw O K H Y v x):v=.int i:=by
 unfold FU at e;split at e
 .ext e;ext h;rfl
 .ext e
def Nm(x y:SV)(Z:bh):RS SV:=match x with
 |.fz _=>m9 bE x y Z
 |.rf j=>(match Z[j]? with
  |some (.lst xs)=>(RS.V4 Z (FU y)).bind λi Z1=>RS.V4 Z1 (lA xs i)
  |_=>.bad)
 |.tp l=>(RS.V4 Z (FU y)).bind λi Z1=>RS.V4 Z1 ((lA l i).map AV.sv)
def d6(a fb:cZ):cZ:=λρ Z=>(a ρ Z).bind λx Z1=>(fb ρ Z1).bind λy T=>Nm x y T
def b8(k:cX K E ta fa)(C:cX K E tb fb):cX K E (Qv (Tb K) ta tb) (d6 fa fb):=by
 intro B S H Y Z ρ Q s r w;show k B S H Y Z ρ _ s r (w.bind.imp λx X Z1 M G A t v e=>?_);show C B S M X Z1 ρ _ A (r.Xt G) (t.bind.imp λy U T L F f b u n=>?_);let e:=e.Xt F;unfold Nm at b;cases x with
 |fz d=>show Bo cS f e n b
 |rf j=>
  let(a,k,rfl):=e;dsimp only at b;cases q:T[j]? with
  |none=>rw[q]at b;show b.elim
  |some c=>
   rw[q]at b;cases c with
   |lst xs=>
    let(i,h,b):=WS.V4 b;cases qa:lA xs i with
    |none=>rw[qa]at b;show b.elim
    |some x=>rw[qa]at b;let(vs,p,o):=f.cel j a _ k q;let(z,m,g):=Oo o qa;show .inl #[a,vs,i,z,W,Df h n,Y4.of p,m,WS.now f b z g]
   |_=>show b.elim
 |tp l=>
  let(a,xs,rfl,p,o):=e;let(i,h,b):=WS.V4 b;cases qa:lA l i with
  |none=>rw[qa]at b;show b.elim
  |some x=>rw[qa]at b;let(z,m,g):=Oo o qa;show .inr (.inl #[a,xs,i,z,W,Df h n,p.1,m,WS.now f b z (by ext x<;>show g)])
def M4(h:Lv Y (Z.set i .dead) b):Lv Y Z b:=by
 let(j,c,e,a,d):=h;rcases cP a with⟨rfl,rfl⟩|⟨_,a⟩
 .show a6 W d
 .show#[j,c,e,a,d]
theorem WJ.kill:WJ Y Z H Y (Z.set i .dead) H:=#[λ_ _ h=>h,λ_ _ h _=>h,λ_ h=>.inl (M4 h)]
def VD.kill(s:VD B K H Y Z)(i:Nat):VD B K H Y (Z.set i .dead):=by
 let e:WJ Y Z H Y (Z.set i .dead) H:=WJ.kill;show#[by rw[V2];show s.len,s.nd,s.bn,s.ba,s.al,λj b d g a=>?_];rcases cP a with⟨rfl,rfl⟩|⟨f,a⟩
 .show trivial
 .show(s.cel j b d g a).ev e.ev e.pre λu q=>q
def VD.agV(s:VD B K H Y Z)(g:Y[i]?=R a):¬ow B Y (Z.set i .dead) a:=by
 rintro(z|⟨j,c,f,e,d⟩)
 .show s.agf g z
 .let:=s.nd j i a f g
  subst this;rcases cP e with⟨_,rfl⟩|⟨b,_⟩
  .show d W
  .show b W
def sj(g:bh->SV->I (D×bh)):bh->G SV->I (G D×bh)
 |Z,[]=>R ([],Z)
 |Z,x::r=>match g Z x with
  |some (d,Z1)=>(match sj g Z1 r with
   |some (ds,T)=>R (d::ds,T)
   |none=>UO)
  |none=>UO
def frz:Nat->bh->SV->I (D×bh)
 |_,Z,.fz d=>R (d,Z)
 |0,_,_=>UO
 |n+1,Z,.rf i=>match Z[i]? with
  |some (.lst xs)=>(match sj (frz n) Z xs with
   |some (ds,Z1)=>R (.list ds,Z1.set i .dead)
   |none=>UO)
  |_=>UO
 |n+1,Z,.tp l=>match sj (frz n) Z (l.map AV.sv)with
  |some (ds,Z1)=>R (.tuple ds,Z1)
  |none=>UO
theorem xE(a:∀{Z N:bh} {v:V} {x:SV} {d:D},VD B K H Y Z->Yw (ow B Y Z) K H Y v x->g Z x=R (d,N)->VD B K H Y N/\WJ Y Z H Y N H/\L3.DV (ow B Y N) K H v d):
  ∀{c:G V} {xs:G SV} {ds:G D} {Z N:bh},VD B K H Y Z->W7 (ow B Y Z) K H Y c xs->sj g Z xs=R (ds,N)->VD B K H Y N/\WJ Y Z H Y N H/\L3.WO (ow B Y N) K H c ds
 |_,_,_,Z,N,s,.nil,e=>by ext e;show#[s,.refl,.nil]
 |_,_,_,Z,N,s,.cons (b:=x) (l₂:=xs) r t,e=>by
  unfold sj at e;cases q:g Z x with
  |none=>rw[q]at e;ext e
  |some p=>
   let(d,Z1):=p;rw[q]at e;dsimp only at e;let(j,h,n):=a s r q;cases o:sj g Z1 xs with
   |none=>rw[o]at e;ext e
   |some l=>let(ds,T):=l;rw[o]at e;ext e;let(i,f,m):=xE a j (W7.Xt h t) o;show#[i,h.trans f,.cons (n.ev f.ev) m]
theorem yH:∀{a:G V} {l:G AV},Paired (AOk O K H Y) a l->W7 O K H Y a (l.map AV.sv)
 |_,_,.nil=>.nil
 |_,_,.cons (b:=x) h t=>.cons (by ext x<;>show h) (yH t)
theorem ye:∀(n:Nat) {Z N:bh} {v:V} {x:SV} {d:D},VD B K H Y Z->Yw (ow B Y Z) K H Y v x->frz n Z x=R (d,N)->VD B K H Y N/\WJ Y Z H Y N H/\L3.DV (ow B Y N) K H v d
 |n,Z,N,v,.fz u,d,s,h,e=>by
  let o:R (u,Z)=R (d,N):=by ext n<;>show e
  ext o;show#[s,.refl,h]
 |0,_,_,v,.rf i,d,s,h,e=>by ext e
 |0,_,_,v,.tp l,d,s,h,e=>by ext e
 |n+1,Z,N,v,.rf i,d,s,h,e=>by
  let(a,t,rfl):=h;unfold frz at e;cases q:Z[i]? with
  |none=>rw[q]at e;ext e
  |some c=>
   rw[q]at e;cases c with
   |lst xs=>
    dsimp only at e;let(y,j,g):=s.cel i a _ t q;cases r:sj (frz n) Z xs with
    |none=>rw[r]at e;ext e
    |some p=>let(ds,Z1):=p;rw[r]at e;ext e;let(b,f,m):=xE (λs h e=>ye n s h e) s g r;show#[b.kill i,f.trans WJ.kill,yB j (b.agV t) (m.ev (WJ.kill).ev)]
   |_=>ext e
 |n+1,Z,N,v,.tp l,d,s,h,e=>by
  let(a,xs,rfl,j,g):=h;unfold frz at e;cases r:sj (frz n) Z (l.map AV.sv)with
  |none=>rw[r]at e;ext e
  |some p=>let(ds,Z1):=p;rw[r]at e;ext e;let(b,f,m):=xE (λs h e=>ye n s h e) s (yH g) r;show#[b,f,.tup (j.ev f.ev) m]
def O0(x:SV)(Z:bh):RS SV:=match frz 4 Z x with
 |some (d,Z1)=>.ok (.fz d) Z1
 |none=>.bad
def sd(f:cZ):cZ:=λρ Z=>(f ρ Z).bind λx Z1=>O0 x Z1
def pH(h:cX K E t f):cX K E t (sd f):=by
 intro B S H Y Z ρ Q s b w;show h B S H Y Z ρ _ s b (w.bind.imp λx X Z1 M m g a v i=>?_);unfold O0 at a;cases q:frz 4 Z1 x with
 |none=>rw[q]at a;show a.elim
 |some p=>let(d,T):=p;rw[q]at a;let(e,j,l):=ye 4 g i q;show a X M j e v l
def XOk.sub(h:∀b,O' b->O b)(k:XOk K O H c dx x):XOk K O' H c dx x:=by let(i,fs,g,a):=k;show#[i,fs,g,λf d e=>let#[g1,v,g2,g3]:=a f d e;#[g1,v,g2,g3.ev (Ev.sub h)]]
def Aq(F:FN)(n:Nat)(xs:G SV)(Z:bh):RS SV:=if xs.length=n then(match aJ xy xs with
 |some ds=>(match F ds with
  |.ok a=>mq Z a
  |.er x=>.er x Z
  |.bad=>.bad)
 |none=>(RS.V4 Z (aJ (k9 6 Z) xs)).bind λds Z1=>(match F ds with
  |.ok a=>oM Z1 a
  |_=>.bad))else .bad
def jB:RS A->RS A
 |.er _ _=>.bad
 |r=>r
def jZ(F:FN)(n:Nat)(a:Az):cZ:=λρ Z=>(a ρ Z).bind λxs Z1=>jB (Aq F n xs Z1)
def WS.e0(h:WS K E B H Y Z b (jB r)):WS K E0 B H Y Z b r:=by
 cases r with
 |ok a Z=>show h
 |er x Z=>show h.elim
 |bad=>show h
def LU(s:VD B K H Y Z)(b:W7 (ow B Y Z) K H Y o xs)(w:WS K E B H Y Z (PQ B K Q) (Aq F n xs Z)):pG K n F o H Q E:=by
 unfold Aq at w;by_cases hn:xs.length=n
 .rw[av hn]at w
  show#[b.length.trans hn,?_];cases q:aJ xy xs with
  |some ds=>
   rw[q]at w;show#[ow B Y Z,ds,s.owd,lU (dz (R:=Yw (ow B Y Z) K H Y) (λv x y r e=>Br r e) b q),?_];dsimp only at w;cases f:F ds with
   |ok g=>rw[f]at w;show G8 s w
   |er x=>rw[f]at w;show λc h H' e k=>w c h Y H' (WJ.same e) (s.grow e) k
   |bad=>rw[f]at w;show w.elim
  |none=>
   rw[q]at w;let(ds,d,w):=WS.V4 w;show#[noO,ds,λa z=>z.elim,lU (dz (R:=Yw (ow B Y Z) K H Y) (λv x y r e=>kZ s 6 r e) b d),?_];cases f:F ds with
   |ok g=>rw[f]at w;show Km s w
   |er x=>rw[f]at w;show w.elim
   |bad=>rw[f]at w;show w.elim
 .rw[ax hn]at w;show w.elim
def DL(c:yt K E o C):cX K E (nG (pG K n F) [] E0 o) (jZ F n C):=by intro B S H Y Z ρ Q s b w;show c B S H Y Z ρ _ s b (w.bind.imp λxs X Z1 M f d a g e=>?_);rw[Vz];show LU d e (WS.e0 a)
abbrev jr:=G SV->bh->RS SV
def ei(K:UN)(n:Nat)(F:jr):Sp:=λa H Q E=>a.length=n/\∃(B:cg) (Y:G UX) (Z:bh) (xs:G SV),VD B K H Y Z/\W7 (ow B Y Z) K H Y a xs/\WS K E B H Y Z (PQ B K Q) (F xs Z)
def Pw(F:jr)(n:Nat)(a:Az):cZ:=λρ Z=>(a ρ Z).bind λxs Z1=>if xs.length=n then F xs Z1 else .bad
def jt(F:jr)(n:Nat)(a:Az):cZ:=λρ Z=>(a ρ Z).bind λxs Z1=>if xs.length=n then jB (F xs Z1)else .bad
def J0(c:yt K E o C):cX K E (nG (ei K n F) [] E o) (Pw F n C):=by
 intro B S H Y Z ρ Q s d w;show c B S H Y Z ρ _ s d (w.bind.imp λxs X Z1 M f e a g b=>?_);rw[Vz];by_cases hn:xs.length=n
 .rw[av hn]at a;show#[b.length.trans hn,B,X,Z1,xs,e,b,a]
 .rw[ax hn]at a;show a.elim
def fA(c:yt K E o C):cX K E (nG (ei K n F) [] E0 o) (jt F n C):=by
 intro B S H Y Z ρ Q s d w;show c B S H Y Z ρ _ s d (w.bind.imp λxs X Z1 M f e a g b=>?_);rw[Vz];by_cases hn:xs.length=n
 .rw[av hn]at a;show#[b.length.trans hn,B,X,Z1,xs,e,b,WS.e0 a]
 .rw[ax hn]at a;show a.elim
def nM(Z:bh)(C m:Str):SV->Bool
 |.rf i=>match Z[i]? with
  |some (.obj D fs)=>decide (D=C)&&(fs.lookup m).isNone
  |_=>U0
 |_=>U0
def t9(C m:Str)(F:jr)(n:Nat)(a:cZ)(b:Az):cZ:=λρ Z=>(a ρ Z).bind λx Z1=>if nM Z1 C m x=P then(b ρ Z1).bind λxs T=>(if(x::xs).length=n then F (x::xs) T else .bad)else .bad
def bu(C m:Str)(F:jr)(n:Nat)(a:cZ)(b:Az):cZ:=λρ Z=>(a ρ Z).bind λx Z1=>if nM Z1 C m x=P then(b ρ Z1).bind λxs T=>(if(x::xs).length=n then jB (F (x::xs) T)else .bad)else .bad
def IV(g:Vp K Vj C=R (R (.ref Ca)))(s:VD B K H Y Z)(f:Yw (ow B Y Z) K H Y v x)(h:nM Z C m x=P):∃a k fs,v=.ref a/\H a=R (.ins Ca k fs)/\fs.lookup m=UO:=by
 cases x with
 |fz d=>ext h
 |tp l=>ext h
 |rf i=>
  let(a,t,rfl):=f;unfold nM at h;dsimp only at h;cases q:Z[i]? with
  |none=>rw[q]at h;ext h
  |some c=>
   rw[q]at h;cases c with
   |obj D fs=>rw[Vh]at h;let(n,j):=h;let e:=a5 n;subst e;let(r,k,ws,b,p,o):=s.cel i a _ t q;rw[g]at b;ext b;show#[a,k,ws,W,p,Fh o (acv.mp j)]
   |_=>ext h
def HW(p:Vp K Vj C=R (R (.ref Ca)))(o:cX K E to fo)(c:yt K E ta fa):cX K E (wW Ca m (ei K n F) [] E to ta) (t9 C m F n fo fa):=by
 intro B S H Y Z ρ Q s f w;show o B S H Y Z ρ _ s f (w.bind.imp λx X Z1 M u g d v i=>?_);by_cases h:nM Z1 C m x=P
 .rw[av h]at d
  let(a,z,fs,rfl,r,q):=IV p g i h;show#[a,z,fs,W,r,q,?_];show c B S M X Z1 ρ _ g (f.Xt u) (d.bind.imp λxs U T L t l b y e=>?_);rw[Vz];let j:W7 (ow B U T) K L U (.ref a::y) (x::xs):=.cons (i.Xt t) e;by_cases hn:(x::xs).length=n
  .rw[av hn]at b;show#[j.length.trans hn,B,U,T,_,l,j,b]
  .rw[ax hn]at b;show b.elim
 .rw[ax h]at d;show d.elim
def Gc(p:Vp K Vj C=R (R (.ref Ca)))(o:cX K E to fo)(c:yt K E ta fa):cX K E (wW Ca m (ei K n F) [] E0 to ta) (bu C m F n fo fa):=by
 intro B S H Y Z ρ Q s f w;show o B S H Y Z ρ _ s f (w.bind.imp λx X Z1 M u g d v i=>?_);by_cases h:nM Z1 C m x=P
 .rw[av h]at d
  let(a,z,fs,rfl,r,q):=IV p g i h;show#[a,z,fs,W,r,q,?_];show c B S M X Z1 ρ _ g (f.Xt u) (d.bind.imp λxs U T L t l b y e=>?_);rw[Vz];let j:W7 (ow B U T) K L U (.ref a::y) (x::xs):=.cons (i.Xt t) e;by_cases hn:(x::xs).length=n
  .rw[av hn]at b;show#[j.length.trans hn,B,U,T,_,l,j,WS.e0 b]
  .rw[ax hn]at b;show b.elim
 .rw[ax h]at d;show d.elim
def FB:SV->Bool
 |.fz .none=>P
 |_=>U0
def wx(C:Str)(F:jr)(n:Nat)(xs:G SV)(Z:bh):RS SV:=if(SV.rf Z.length::xs).length=n then(F (.rf Z.length::xs) (Z++[.obj C []])).bind λr T=>(if FB r=P then .ok (.rf Z.length) T else .bad)else .bad
def G5(C:Str)(F:jr)(n:Nat)(a:Az):cZ:=λρ Z=>(a ρ Z).bind λxs Z1=>wx C F n xs Z1
def wz(C:Str)(F:jr)(n:Nat)(a:Az):cZ:=λρ Z=>(a ρ Z).bind λxs Z1=>jB (wx C F n xs Z1)
def MB(h:FB x=P)(a:Yw O K H Y v x):v=.XN:=by
 unfold FB at h;split at h
 .ext a;rfl
 .ext h
def Ji(p:Vp K Vj C=R (R (.ref Ca)))(s:VD B K H Y Z)(o:W7 (ow B Y Z) K H Y vs xs)(w:WS K E B H Y Z (PQ B K Q) (wx C F n xs Z)):
  ∀x c,H x=UO->H c=UO->c≠x->ei K n F (.ref x::(vs++[])) (bJ (bJ H c (.own x)) x (.ins Ca c [])) (λv L=>v=.XN/\Q (.ref x) L) E:=by
 intro x c d h g;rw[Vz];unfold wx at w;let i:WY H (bJ (bJ H c (.own x)) x (.ins Ca c [])):=(bO h _).trans (bO (by rw[aF (λz=>g z.symm)];show d) _);let e:WJ Y Z H (Y++[x]) (Z++[.obj C []]) (bJ (bJ H c (.own x)) x (.ins Ca c [])):=WJ.acz s.len i d;let m:VD B K (bJ (bJ H c (.own x)) x (.ins Ca c [])) (Y++[x]) (Z++[.obj C []]):=s.acz i d (by rw[aO];simp) #[Ca,c,[],p,aO,.nil];let a:∀{J:G UX} {N:bh} {H':Hp},WJ (Y++[x]) (Z++[.obj C []]) (bJ (bJ H c (.own x)) x (.ins Ca c [])) J N H'->Yw (ow B J N) K H' J (.ref x) (.rf Z.length):=λe=>#[x,e.pre _ _ (by rw[<-s.len];show a9),W];by_cases hn:(SV.rf Z.length::xs).length=n
 .rw[av hn]at w
  let j:W7 (ow B (Y++[x]) (Z++[.obj C []])) K (bJ (bJ H c (.own x)) x (.ins Ca c [])) (Y++[x]) (.ref x::vs) (.rf Z.length::xs):=.cons (a .refl) (W7.Xt e o);show#[j.length.trans hn,B,_,_,_,m,j,?_];show WS.imp (WS.from e w.bind) λr U T L q l b v f=>?_;by_cases z:FB r=P
  .rw[av z]at b;show#[MB z f,WS.now l b _ (a q)]
  .rw[ax z]at b;show b.elim
 .rw[ax hn]at w;show w.elim
def Lb(f:Vp K Vj C=R (R (.ref Ca)))(c:yt K E o fa):cX K E (Ad Ca (ei K n F) [] E o) (G5 C F n fa):=by intro B S H Y Z ρ Q s b w;show c B S H Y Z ρ _ s b (w.bind.imp λxs X Z1 M g d a h e=>?_);show Ji f d e a
def HR(f:Vp K Vj C=R (R (.ref Ca)))(c:yt K E o fa):cX K E (Ad Ca (ei K n F) [] E0 o) (wz C F n fa):=by intro B S H Y Z ρ Q s b w;show c B S H Y Z ρ _ s b (w.bind.imp λxs X Z1 M g d a h e=>?_);show Ji f d e (WS.e0 a)
def gm(Z:bh):SV->I (Nat×G SV)
 |.rf i=>match Z[i]? with
  |some (.lst xs)=>R (i,xs)
  |_=>UO
 |_=>UO
def sV(s:VD B K H Y Z)(b:Yw (ow B Y Z) K H Y v x)(h:gm Z x=R (i,xs)):Z[i]?=R (.lst xs)/\∃a k,Y[i]?=R a/\v=.ref a/\H a=R (.lst k)/\W7 (ow B Y Z) K H Y k xs:=by
 cases x with
 |fz d=>ext h
 |tp l=>ext h
 |rf j=>
  let(a,n,rfl):=b;unfold gm at h;dsimp only at h;cases q:Z[j]? with
  |none=>rw[q]at h;ext h
  |some c=>
   rw[q]at h;cases c with
   |lst m=>let e:=Vi h;ext e;let(k,g,f):=s.cel i a _ n q;show#[q,a,k,n,W,g,f]
   |_=>ext h
def tq(h:Paired d o xs)(r:d v x):Paired d (o++[v]) (xs++[x]):=by
 induction h with
 |nil=>show .cons r .nil
 |cons a _ b=>show .cons a b
def uM(b c:cZ):cZ:=λρ Z=>(b ρ Z).bind λo Z1=>(RS.V4 Z1 (gm Z1 o)).bind λ_ Z1=>(c ρ Z1).bind λx T=>(RS.V4 T (gm T o)).bind λp a=>
 if p.2.length<1000000 then .ok (.fz .none) (a.set p.1 (.lst (p.2++[x])))else .bad
def sW(C:cX K E to fo)(F:cX K E te fe):cX K E (T8 K "list" yN to (jb te pK)) (uM fo fe):=by
 intro B S H Y Z ρ Q s g w;show C B S H Y Z ρ _ s g (w.bind.imp λo X Z1 M e1 l d v m=>?_);let((i0,t),y,d):=WS.V4 d;let(_,p,e,_,rfl,I,_):=sV l m y;show#[.inl #[W,e,Y4.of I],?_];show F B S M X Z1 ρ _ l (g.Xt e1) (d.bind.imp λx U T L R j b u A=>?_);let((i,xs),q,b):=WS.V4 b;let(f,a,vs,z,P,G,n):=sV j (m.Xt R) q;ext P;dsimp only at b;by_cases hn:xs.length<1000000
 .rw[av hn]at b;let ev:Ev (ow B U T) L (ow B U T) (bJ L p (.lst (vs++[u]))):=vx z f (by nofun);show#[p,vs,u,W,W,G,vi (by rw[n.length];show hn),?_];show b U _ (WJ.put z f (by nofun) (by nofun)) (j.put z f (by nofun) (by nofun) #[_,aO,tq (Paired.Zt n λ_ _ r=>r.ev ev λ_ _ h=>h) (A.ev ev λ_ _ h=>h)]) _ .XN
 .rw[ax hn]at b;show b.elim
end
inductive FlS where
 |nx (ρ:bC)
 |bk (ρ:bC)
 |ct (ρ:bC)
 |rt (x:SV)
abbrev eK:=bC->bh->RS FlS
abbrev wb:=SV->bC->bh->RS bC
abbrev KB:=G SV->bC->bh->RS bC
def vE(B:cg)(K:UN)(D:Ends):FlS->G M->bh->Hp->Prop
 |.nx a,α,Z,H=>∀σ,XJ (ow B α Z) K H α σ a->D.nx σ H
 |.bk a,α,Z,H=>∀σ,XJ (ow B α Z) K H α σ a->D.bk σ H
 |.ct a,α,Z,H=>∀σ,XJ (ow B α Z) K H α σ a->D.ct σ H
 |.rt x,α,Z,H=>∀v,Yw (ow B α Z) K H α v x->D.rt v H
def nr(K:UN)(E:XK)(t:TS)(g:eK):Prop:=
 ∀(B:cg) (a:L2.St) (H:Hp) (α:G M) (Z:bh) (b:bC) (D:Ends),VD B K H α Z->XJ (ow B α Z) K H α a b->WS K E B H α Z (vE B K D) (g b Z)->t D a H
def KI(K:UN)(E:XK)(g:TG)(f:wb):Prop:=
 ∀(B:cg) (d:L2.St) (H:Hp) (α:G M) (Z:bh) (j:bC) (v:V) (x:SV) (Q:L2.St->Hp->Prop),VD B K H α Z->XJ (ow B α Z) K H α d j->Yw (ow B α Z) K H α v x->WS K E B H α Z (λb a h e=>∀i,XJ (ow B a h) K e a i b->Q i e) (f x j Z)->g v d H Q
def Nh(K:UN)(E:XK)(g:Qb)(f:KB):Prop:=
 ∀(B:cg) (d:L2.St) (H:Hp) (α:G M) (Z:bh) (j:bC) (l:G V) (xs:G SV) (Q:L2.St->Hp->Prop),VD B K H α Z->XJ (ow B α Z) K H α d j->W7 (ow B α Z) K H α l xs->WS K E B H α Z (λb a h e=>∀i,XJ (ow B a h) K e a i b->Q i e) (f xs j Z)->g l d H Q
section
variable{B O O':cg}{K:UN}{E:XK}{H H' P N:Hp}{U M T Y:bg UX}{Z Z' Z1 X:bh}{S:L2.St}{ρ:bC}{v:V}
def XJ.set(a:XJ O K H U S ρ)(h:Yw O K H U v x):XJ O K H U (S.set i (R v)) (ρ.set i (R x)):=by
 show#[by rw[V2,V2];show a.1,λj y f=>?_];rcases cP f with⟨rfl,e⟩|⟨d,b⟩
 .ext e;show#[v,?_,h];rw[Wg];let:=yL f;rw[a.1];show this
 .let(u,l,g):=a.2 j y b;show#[u,by rw[VX (λz=>d z.symm)];show l,g]
def fT(i:Nat):wb:=λx ρ Z=>.ok (ρ.set i (R x)) Z
theorem bq:KI K E (wY i) (fT i):=λB S H U Z ρ v x Q s a h w=>WS.now s w _ (a.set h)
def Gy:KB:=λxs ρ Z=>match xs with
 |[]=>.ok ρ Z
 |_=>.bad
def xU(f:wb)(g:KB):KB:=λxs ρ Z=>match xs with
 |x::r=>(f x ρ Z).bind λa Z1=>g r a Z1
 |[]=>.bad
def EW:Nh K E Ox Gy:=by
 intro B S H U Z ρ b xs Q s a h w;cases h with
 |nil=>show#[W,WS.now s w _ a]
 |cons _ _=>show w.elim
def tV(n:KI K E t f)(c:Nh K E u g):Nh K E (Jp t u) (xU f g):=by
 intro B S H U Z ρ p xs Q s l h w;cases h with
 |nil=>show w.elim
 |cons a b=>show#[_,_,W,n B S H U Z ρ _ _ _ s l a (WS.imp (WS.bind w) λe T Z1 P o m j d i=>?_)];show c B d P T Z1 e _ _ _ m i (W7.Xt o b) j
def Io:SV->I (G SV)
 |.fz (.tuple ds)=>R (ds.map .fz)
 |.tp l=>R (l.map AV.sv)
 |_=>UO
def Q5(h:Yw O K H U v x)(e:Io x=R xs):∃a c,v=.ref a/\aay O K H a c/\W7 O K H U c xs:=by
 unfold Io at e;split at e
 .ext e
  cases h with
  |tup h d=>show#[_,_,W,h,mn _ _ d]
 .ext e;let(a,b,rfl,g,f):=h;show#[a,b,W,g,yH f]
 .ext e
def Rt(n:Nat)(f:KB):wb:=λx ρ Z=>(RS.V4 Z (Io x)).bind λxs Z1=>if xs.length=n then f xs ρ Z1 else .bad
def Ef(h:Nh K E t f):KI K E (OL K n t) (Rt n f):=by
 intro B S H U Z ρ v x Q s d e w;let(xs,q,w):=WS.V4 w;let(a,i,rfl,g,b):=Q5 e q;by_cases hn:xs.length=n
 .rw[av hn]at w;show#[a,i,W,g.1,b.length.trans hn,h B S H U Z ρ i xs Q s d b w]
 .rw[ax hn]at w;show w.elim
def cL:eK:=λρ Z=>.ok (.nx ρ) Z
def aZ(f g:eK):eK:=λρ Z=>(f ρ Z).bind λa Z1=>match a with
 |.nx b=>g b Z1
 |a=>.ok a Z1
def b6(f:cZ):eK:=λρ Z=>(f ρ Z).bind λ_ Z1=>.ok (.nx ρ) Z1
def dI(f:cZ)(g:wb):eK:=λρ Z=>(f ρ Z).bind λx Z1=>(g x ρ Z1).bind λa X=>.ok (.nx a) X
def cH(c:tQ)(f g:eK):eK:=λρ Z=>(c ρ Z).bind λb Z1=>if b=US then f ρ Z1 else g ρ Z1
def fR(f:cZ):eK:=λρ Z=>(f ρ Z).bind λx Z1=>.ok (.rt x) Z1
def wO:eK:=λ_ Z=>.ok (.rt (.fz .none)) Z
def SI:eK:=λ_ _=>.bad
theorem dc:nr K E JL cL:=λB S H U Z ρ D s a w=>WS.now s w S a
theorem wj:nr K E Jo SI:=λB S H U Z ρ D s a w=>w.elim
theorem Jz:nr K E Ow wO:=λB S H U Z ρ D s a w=>WS.now s w .XN .XN
def aQ(j:nr K E t f)(c:nr K E u g):nr K E (Mo t u) (aZ f g):=by
 intro B S H U Z ρ D s i w;show j B S H U Z ρ {D with nx:=u D} s i (WS.imp (WS.bind w) λl T Z1 P m d b=>?_);cases l with
 |nx a=>show λe h=>c B e P T Z1 a D d h b
 |rt x=>show WS.now (E:=E) d b
 |bk a=>show WS.now (E:=E) d b
 |ct a=>show WS.now (E:=E) d b
def gh(h:cX K E t f):nr K E (D1 t) (b6 f):=by intro B S H U Z ρ D s a w;show h B S H U Z ρ _ s a (WS.imp (WS.bind w) λx T Z1 P e d b v g=>WS.now d b S (a.Xt e))
def cB(h:cX K E t f)(o:KI K E g C):nr K E (Ff t g) (dI f C):=by intro B S H U Z ρ D s d w;show h B S H U Z ρ _ s d (WS.imp (WS.bind w) λx T Z1 P p m j v n=>?_);show o B S P T Z1 ρ v x _ m (d.Xt p) n (WS.imp (WS.bind j) λe Y X N q l i a b=>WS.now l i a b)
def fS(i:yR K E c o)(j:nr K E t f)(k:nr K E u g):nr K E (Oy c t u) (cH o f g):=by
 intro B S H U Z ρ D s a w;show i B S H U Z ρ _ s a (WS.imp (WS.bind w) λb T Z1 P h e d=>?_);cases b with
 |true=>show j B S P T Z1 ρ D e (a.Xt h) d
 |false=>show k B S P T Z1 ρ D e (a.Xt h) d
def cO(h:cX K E t f):nr K E (O9 t) (fR f):=by intro B S H U Z ρ D s b w;show h B S H U Z ρ _ s b (WS.imp (WS.bind w) λx T Z1 P g d a v e=>WS.now d a v e)
def Jb(i:Nat)(f:D->D->I RV)(b:cZ):eK:=λρ Z=>(aA i ρ Z).bind λx Z1=>(b ρ Z1).bind λy X=>(m9 f x y X).bind λz a=>.ok (.nx (ρ.set i (R z))) a
def Nt(m:nO K r f)(n:cX K E J fe):nr K E (RK i J r) (Jb i f fe):=by
 intro B S H U Z ρ D s a w;unfold Jb aA at w;cases q:ρ[i]? with
 |none=>rw[q]at w;show w.elim
 |some o=>
  cases o with
  |none=>rw[q]at w;show w.elim
  |some x=>rw[q]at w;let(v,A,p):=a.2 i x q;show#[v,A,n B S H U Z ρ _ s a (WS.imp (WS.bind w) λy T Z1 P b h e u j=>?_)];show Bo m h (p.Xt b) j (WS.imp (WS.bind e) λz Y X N C g d t l=>WS.now g d _ ((a.Xt (b.trans C)).set l))
def fM(f:Str)(x:SV):G (Str×SV)->G (Str×SV)
 |[]=>[(f,x)]
 |(g,y)::r=>if g=f then(g,x)::r else(g,y)::fM f x r
def yz(h:Yw O K H U v x):∀{ws:G (Str×V)} {fs:G (Str×SV)},Paired (λ(p:Str×V) (q:Str×SV)=>p.1=q.1/\Yw O K H U p.2 q.2) ws fs->Paired (λ(p:Str×V) (q:Str×SV)=>p.1=q.1/\Yw O K H U p.2 q.2) (jG f v ws) (fM f x fs):=by
 intro ws fs p
 induction p with
 |nil=>show .cons #[W,h] .nil
 | @cons a b _ _ q t i=>
  let(g,u):=a;let(d,y):=b;let(e,k):=q;ext e;unfold jG fM;by_cases z:g=f
  .rw[av z,av z];show .cons #[W,h] t
  .rw[ax z,ax z];show .cons #[W,k] i
def Hm(Z:bh)(C:Str):SV->I (Nat×G (Str×SV))
 |.rf i=>match Z[i]? with
  |some (.obj D fs)=>if D=C then R (i,fs)else UO
  |_=>UO
 |_=>UO
def RM(s:VD B K H U Z)(b:Yw (ow B U Z) K H U v x)(h:Hm Z C x=R (i,fs)):Z[i]?=R (.obj C fs)/\∃a k o ws,U[i]?=R a/\v=.ref a/\Vp K Vj C=R (R (.ref k))/\H a=R (.ins k o ws)/\Paired (λ(p:Str×V) (q:Str×SV)=>p.1=q.1/\Yw (ow B U Z) K H U p.2 q.2) ws fs:=by
 cases x with
 |fz d=>ext h
 |tp l=>ext h
 |rf j=>
  let(a,r,rfl):=b;unfold Hm at h;dsimp only at h;cases q:Z[j]? with
  |none=>rw[q]at h;ext h
  |some c=>
   rw[q]at h;cases c with
   |obj D n=>
    dsimp only at h;by_cases z:D=C
    .subst z;rw[av W]at h;let e:=Vi h;ext e;let(k,o,ws,m,g,f):=s.cel i a _ r q;show#[q,a,k,o,ws,r,W,m,g,f]
    .rw[ax z]at h;ext h
   |_=>ext h
def gj(C f:Str)(b c:cZ):eK:=λρ Z=>(c ρ Z).bind λx Z1=>(b ρ Z1).bind λo X=>(RS.V4 X (Hm X C o)).bind λp a=>if p.2.length<100 then .ok (.nx ρ) (a.set p.1 (.obj C (fM f x p.2)))else .bad
def my(c:ib K C L)(Q:f∈L)(J:cX K E to fo)(R:cX K E te fe):nr K E (OJ K to te f) (gj C f fo fe):=by
 intro B S H U Z ρ D s e w;show R B S H U Z ρ _ s e (WS.imp (WS.bind w) λx T Z1 P y F A v G=>?_);show J B S P T Z1 ρ _ F (e.Xt y) (WS.imp (WS.bind A) λo Y X N t j b u I=>?_);let((i,fs),q,b):=WS.V4 b;let(g,a,d,z,ws,ha,rfl,m,h1,l):=RM j I q;let(Cb,n,g1,g2):=c;rw[m]at n;ext n;dsimp only at b;by_cases hn:fs.length<100
 .rw[av hn]at b;let ev:Ev (ow B Y X) N (ow B Y X) (bJ N a (.ins d z (jG f v ws))):=vx ha g (by nofun);let p:WJ Y X N Y (X.set i (.obj C (fM f x fs))) (bJ N a (.ins d z (jG f v ws))):=WJ.put ha g (by nofun) (by nofun);let hl:=Paired.length l;show#[a,d,z,ws,W,h1,g1,g2 f Q,by ext,?_];show b Y _ p (j.put ha g (by nofun) (by nofun) #[d,z,_,m,aO,yz ((G.Xt t).ev ev λ_ _ h=>h) (Paired.Zt l λ_ _ r=>#[r.1,r.2.ev ev λ_ _ h=>h])]) S ((e.Xt (y.trans t)).Xt p)
 .rw[ax hn]at b;show b.elim
abbrev Rr:=bC->bh->RS (G D)
def Te(K:UN)(E:XK)(b:TI)(d:Rr):Prop:=
 ∀(B:cg) (S:L2.St) (H:Hp) (U:G UX) (Z:bh) (ρ:bC) (a:It->Hp->Prop),VD B K H U Z->XJ (ow B U Z) K H U S ρ->WS K E B H U Z (λds M Z' H'=>∀J,CD K J (ow B M Z') H' ds->a J H') (d ρ Z)->b S H a
def pc(f:FI):Rr:=λρ Z=>match f (cR ρ)with
 |.ok (ds,_)=>.ok ds Z
 |.er x=>.er x Z
 |.bad=>.bad
def vt(h:IO K E C f):Te K E C (pc f):=by
 intro B S H U Z ρ j s d w;show h (ow B U Z) H (ow B U Z) S H (cR ρ) j (JI s d) ?_;unfold pc at w;cases q:f (cR ρ)with
 |bad=>rw[q]at w;show w.elim
 |er x=>rw[q]at w;show λc m H' e k=>w c m U H' (WJ.same e) (s.grow e) k
 |ok r=>let(ds,a):=r;rw[q]at w;show λO' J H' e R g=>w U H' (WJ.same R.same) (s.grow R.same) J λl N i n=>g l N (λb o h z=>i b o h λy=>z (R.bo b y)) n
def lC(a:cZ):Rr:=λρ Z=>(a ρ Z).bind λx Z1=>(match frz 4 Z1 x with
 |some (d,X)=>RS.V4 X (fY d)
 |none=>.bad)
def tF(h:cX K E C J):Te K E (za K C) (lC J):=by
 intro B S H U Z ρ n s g w;show h B S H U Z ρ _ s g (WS.imp (WS.bind w) λx T Z1 P m i a v j=>?_);cases q:frz 4 Z1 x with
 |none=>rw[q]at a;show a.elim
 |some p=>
  let(d,X):=p;rw[q]at a;let(e,f,l):=ye 4 i j q;dsimp only at a;cases o:fY d with
  |none=>rw[o]at a;show a.elim
  |some ds=>
   rw[o]at a;cases l with
   |tup h b=>ext o;show#[_,W,.inr #[#[_,h.1],a T P f e _ (IB h b)]]
   |lst h b=>ext o;show#[_,W,.inl #[#[_,h.1.sq],a T P f e _ (EN h b)]]
   |_=>ext o
def lQ(gt:wb)(b:eK):G D->eK
 |[],ρ,Z=>.ok (.nx ρ) Z
 |d::r,ρ,Z=>(gt (.fz d) ρ Z).bind λa Z1=>(b a Z1).bind λe X=>match e with
  |.nx f=>lQ gt b r f X
  |.ct f=>lQ gt b r f X
  |.bk f=>.ok (.nx f) X
  |.rt x=>.ok (.rt x) X
def A3(a:Rr)(gt:wb)(b:eK):eK:=λρ Z=>(a ρ Z).bind λds Z1=>lQ gt b ds ρ Z1
def x0(c:Te K E wi fi)(k:KI K E g gt)(hb:nr K E tb b):nr K E (LF wi g tb) (A3 fi gt b):=by
 intro B S H U Z ρ D s L w;show c B S H U Z ρ _ s L (WS.imp (WS.bind w) λds T Z1 P e1 s1 w1 J it=>?_);show#[λi m a H'=>m=ds.length - i/\i<=ds.length/\∃Y X ρ2,WJ T Z1 P Y X H'/\VD B K H' Y X/\XJ (ow B Y X) K H' Y a ρ2/\WS K E B H' Y X (vE B K D) (lQ gt b (ds.drop i) ρ2 X),#[_,W,VF _,T,Z1,ρ,.refl,s1,L.Xt e1,w1],?_];rintro i m j N ⟨rfl,c,Y,X,ρ2,e2,s2,sl2,w2⟩;let(go,n):=it (ow B Y X) N e2.ev s2.noO;by_cases t:i<ds.length
 .let(g1,g2):=go i t
  show .inr #[g1,λa H'=>i+1<=ds.length/\∃Y X ρ2,WJ T Z1 P Y X H'/\VD B K H' Y X/\XJ (ow B Y X) K H' Y a ρ2/\WS K E B H' Y X (vE B K D) (lQ gt b (ds.drop (i+1)) ρ2 X),λa H' #[h1,h2]=>#[ds.length - (i+1),by ext,W,h1,h2],λx I y=>?_];let(Q,d,hd,dv):=g2 x I y;let ed:ds.drop i=d::ds.drop (i+1):=by let(_,q):=UP.mp hd;rw[Xg t,q]
  rw[ed]at w2;let G:WJ Y X N Y X I:=WJ.same Q;show k B j I Y X ρ2 x (.fz d) _ (s2.grow Q) (sl2.Xt G) dv (WS.imp (WS.bind (WS.from G w2)) λA C Z4 H4 e4 s4 w3 z F=>?_);show hb B z H4 C Z4 A _ s4 F (WS.imp (WS.bind w3) λfl l R H5 e5 r p=>?_);let o:=e2.trans (G.trans (e4.trans e5));cases fl with
  |nx f=>show λu h=>#[t,l,R,f,o,r,h,p]
  |ct f=>show λu h=>#[t,l,R,f,o,r,h,p]
  |bk f=>show WS.now (E:=E) r p
  |rt x=>show WS.now (E:=E) r p
 .let e:i=ds.length:=by ext
  subst e;rw[YA (U1 _)]at w2;show .inl #[n,WS.now s2 w2 j sl2]
def vV(c:tQ)(b:eK):Nat->eK
 |0,_,_=>.bad
 |n+1,ρ,Z=>(c ρ Z).bind λk Z1=>if k=US then(b ρ Z1).bind λa X=>match a with
  |.nx d=>vV c b n d X
  |.ct d=>vV c b n d X
  |.bk d=>.ok (.nx d) X
  |.rt x=>.ok (.rt x) X else .ok (.nx ρ) Z1
def uN(c:tQ)(b:eK):eK:=vV c b 1000000
def qJ(F:yR K E c fc)(G:nr K E tb b):nr K E (Kw c tb) (uN fc b):=by
 intro B S H U Z ρ D s A w;show#[λm d H'=>∃Y X a,WJ U Z H Y X H'/\VD B K H' Y X/\XJ (ow B Y X) K H' Y d a/\WS K E B H' Y X (vE B K D) (vV fc b m a X),#[_,U,Z,ρ,.refl,s,A,w],?_];rintro m f N ⟨Y,X,a,L,C,h,u⟩;cases m with
 |zero=>show u.elim
 |succ m=>
  show F B f N Y X a _ C h (WS.imp (WS.bind u) λk r Q R t y n=>?_);cases k with
  |true=>
   rw[av W]at n⊢;show#[λd H'=>∃Y X a,WJ U Z H Y X H'/\VD B K H' Y X/\XJ (ow B Y X) K H' Y d a/\WS K E B H' Y X (vE B K D) (vV fc b m a X),λd H' q=>#[m,WN m,q],?_];show G B f R r Q a _ y (h.Xt t) (WS.imp (WS.bind n) λI i z H5 J o l=>?_);let j:=L.trans (t.trans J);cases I with
   |nx e=>show λp g=>#[i,z,e,j,o,g,l]
   |ct e=>show λp g=>#[i,z,e,j,o,g,l]
   |bk e=>show WS.now (E:=E) o l
   |rt x=>show WS.now (E:=E) o l
  |false=>rw[ax Vg]at n⊢;show WS.now y n f (h.Xt t)
end
section
variable{B O O':cg}{K:UN}{E:XK}{H H' S L:Hp}{U R X Y:bg UX}{Z Z' Z1 T:bh}{M:L2.St}{ρ:bC}{v:V}
def eU(gt:wb)(c:tQ)(f:cZ):G D->bC->bh->G SV->RS (G SV)
 |[],_,Z,acc=>.ok acc Z
 |d::r,ρ,Z,acc=>(gt (.fz d) ρ Z).bind λa Z1=>(c a Z1).bind λb T=>if b=P then(f a T).bind λx e=>(if acc.length<1000000 then eU gt c f r a e (acc++[x])else .bad)else eU gt c f r a T acc
def jq(n:Nat)(a:G Nat)(ρ:bC):bC:=U8 n UO++a.map λj=>(ρ[j]?).join
def oJ(n:Nat)(c:G Nat)(a:Rr)(gt:wb)(b:tQ)(d:cZ):cZ:=λρ Z=>(a ρ Z).bind λds Z1=>(jB (eU gt b d ds (jq n c ρ) Z1 [])).bind λxs T=>.ok (.rf T.length) (T++[.lst xs])
def Db{own:G Str}{d:G (Str×Nat)}{n:Nat}{c:G Nat}(k:own.length=n)(g:d.map (·.2)=c)(h:XJ O K H U M ρ):XJ O K H U (iq own d M) (jq n c ρ):=by
 unfold iq jq;rw[DK k];let i:d.length=c.length:=by rw[<-g,UR]
 show#[by rw[UZ,UZ,VR,VR,UR,UR,i],λj x b=>?_];by_cases f:j<n
 .rw[U3 (by rw[VR];show f),XB,av f]at b;ext b
 .rw[Vr (by rw[VR];ext),VR,U4]at b⊢
  subst g;rw[U4]at b;cases q:d[j - n]? with
  |none=>rw[q]at b;ext b
  |some p=>
   rw[q]at b;let a:(ρ[p.2]?).join=lD x:=Vi b;let e:ρ[p.2]?=lD (lD x):=by
    cases r:ρ[p.2]? with
    |none=>rw[r]at a;ext a
    |some o=>rw[r]at a;show et lD a
   let(u,m,l):=h.2 p.2 x e;show#[u,by show lD ((M[p.2]?).join)=_;rw[m];rfl,l]
def zP{p:UX}{c:Cell}(a:U.length=Z.length)(e:c≠.dead):ow (bV B p) U Z=ow B (U++[p]) (Z++[c]):=by
 funext b;show propext #[λz=>?_,λz=>?_]
 .rcases z with(z|z)|⟨i,d,h1,g,f⟩
  .show .inl z
  .show .inr #[U.length,c,by rw[z];show a9,by rw[a];show a9,e]
  .show .inr #[i,d,e9 h1,e9 g,f]
 .rcases z with z|z
  .show .inl (.inl z)
  .rcases qY a z with z|z
   .show .inr z
   .show .inl (.inr z)
def VD.adopt{p:UX}{c:G V}{xs:G SV}(s:VD (bV B p) K H U Z)(l:H p=lD (.lst c))(m:W7 (ow (bV B p) U Z) K H U c xs)(n:¬B p):VD B K H (U++[p]) (Z++[.lst xs]):=by
 let t:ow (bV B p) U Z=ow B (U++[p]) (Z++[.lst xs]):=zP s.len (by nofun);let b:∀(i:Nat) (a:UX),U[i]?=lD a->(U++[p])[i]?=lD a:=λi a h=>e9 h;let g:∀i:Nat,U[i]?≠lD p:=s.ba p (.inr W);show#[by rw[UZ,UZ,s.len];rfl,λi j a e f=>?_,λa h=>s.bn a (.inl h),λa h i q=>?_,λi a h=>?_,λi a d e f=>?_]
 .rcases bM e with g1|⟨z,u⟩<;>rcases bM f with g2|⟨y,A⟩
  .show s.nd i j a g1 g2
  .rw[A]at g1;show a6 g1 (g i)
  .rw[u]at g2;show a6 g2 (g j)
  .omega
 .rcases bM q with q|⟨_,u⟩
  .show s.ba a (.inl h) i q
  .subst u;show n h
 .rcases bM h with h|⟨_,u⟩
  .show s.al i a h
  .rw[u,l];simp
 .rw[<-t]
  rcases bM f with g2|⟨z,u⟩
  .rcases bM e with g1|⟨z,_⟩
   .show(s.cel i a d g1 g2).ev .refl b λo q=>q
   .let:=(UP.mp g2).1;let:=s.len;ext
  .rcases bM e with g1|⟨_,y⟩
   .let:=(UP.mp g1).1;let:=s.len;ext
   .rw[u,y];show#[c,l,Paired.Zt m λ_ _ r=>r.ev .refl b]
def VD.hide{p:UX}{o:HO}(s:VD B K H U Z)(f:H p=UO):VD (bV B p) K (bJ H p o) U Z:=by let d:WY H (bJ H p o):=bO f o;let g:=s.grow d;let ev:Ev (ow B U Z) H (ow (bV B p) U Z) (bJ H p o):=λb u h n=>#[d b u h,λz=>z.elim (λz=>z.elim (λz=>n (.inl z)) λz=>by rw[z,f]at h;ext h) λz=>n (.inr z)];show#[g.len,g.nd,λa h=>h.elim (g.bn a) λe=>by rw[e,aO];simp,λa h i q=>h.elim (λh=>g.ba a h i q) λe=>by rw[e]at q;show s.al i p q f,g.al,λi a c l j=>?_];show(s.cel i a c l j).ev ev (λ_ _ h=>h) λo q=>d _ _ q
def VD.ahb{p:UX}{o d:HO}(s:VD (bV B p) K H U Z)(g:H p=lD o):VD (bV B p) K (bJ H p d) U Z:=by
 let ev:Ev (ow (bV B p) U Z) H (ow (bV B p) U Z) (bJ H p d):=Ev.mut (.inl (.inr W)) d;let n:∀b,H b≠UO->bJ H p d b≠UO:=λb h=>by
  by_cases z:b=p
  .subst z;rw[aO];simp
  .rw[aF z];show h
 show#[s.len,s.nd,λa h=>n a (s.bn a h),s.ba,λi a h=>n a (s.al i a h),λi a c e f=>(s.cel i a c e f).ev ev (λ_ _ h=>h) λu q=>?_];let:a≠p:=λz=>s.ba p (.inr W) i (by rw[<-z];show e);rw[aF this];show q
theorem WJ.dd{p:UX}{o:HO}(e:WJ X Z1 S U Z H)(a:S p=UO):WJ X Z1 S U Z (bJ H p o):=#[e.pre,λb u h n=>by rw[aF (cC h a)];show e.kp b u h n,e.lv]
theorem VD.afa{p:UX}(s:VD (bV B p) K H U Z):VD B K H U Z:=
 #[s.len,s.nd,λa h=>s.bn a (.inl h),λa h=>s.ba a (.inl h),s.al,λi a c e d=>(s.cel i a c e d).ev (λb o h n=>#[h,λy=>n (y.elim (λy=>.inl (.inl y)) .inr)]) (λ_ _ h=>h) λ_ h=>h]
def BE{own:bg Str}{fv:bg (Str×Nat)}{g:TG}{tc:TT}{te:TE}{gt:wb}{s:tQ}{k:cZ}{n:Nat}{fj:bg Nat}{J:It}{Q:VK}{ds:bg D}(hn:own.length=n)(hf:fv.map (·.2)=fj)
  (hg:KI K E g gt) (ht:yR K E tc s) (he:cX K E te k) (s1:VD B K S X Z1) (sl1:XJ (ow B X Z1) K S X M ρ) (it:CD K J (ow B X Z1) S ds) (w1:WS K E B S X Z1 (PQ B K Q) ((eU gt s k ds (jq n fj ρ) Z1 []).bind λxs T=>.ok (.rf T.length) (T++[.lst xs]))):
  ∀D,S D=UO->EZ J D (iq own fv M) g tc te S λH'=>Q (.ref D) H':=by
 intro p P;let slc:XJ (ow B X Z1) K S X (iq own fv M) (jq n fj ρ):=Db hn hf sl1;generalize qr:eU gt s k ds (jq n fj ρ) Z1 []=rr at w1;by_cases w:rr=.bad
 .subst w;show w1.elim
 .
  let hB:¬B p:=λz=>s1.bn p z P;let evH:∀{Y:bg UX} {T:bh} {H':Hp},WJ X Z1 S Y T H'->Ev (ow B X Z1) S (ow (bV B p) Y T) H':=λe b o h n=>#[e.kp b o h λz=>n (.inr z),λz=>by
   rcases z with(z|z)|z
   .show n (.inl z)
   .rw[z,P]at h;ext h
   .show(e.lv b z).elim (λq=>n (.inr q)) λq=>by rw[h]at q;ext q]
  show#[λi m σ' H'=>m=ds.length - i/\i<=ds.length/\∃Y T ρc acc ys,WJ X Z1 S Y T H'/\VD (bV B p) K H' Y T/\XJ (ow (bV B p) Y T) K H' Y σ' ρc/\H' p=lD (.lst ys)/\W7 (ow (bV B p) Y T) K H' Y ys acc/\eU gt s k (ds.drop i) ρc T acc=rr,
   #[_,W,VF _,X,Z1,jq n fj ρ,[],[],WJ.same (bO P _),s1.hide P,?_,aO,.nil,qr],?_]
  .show#[slc.1,λj x hx=>let#[v,h1,h2]:=slc.2 j x hx;#[v,h1,h2.ev (evH (WJ.same (bO P _))) λ_ _ h=>h]]
  .rintro i m σ2 L ⟨rfl,hi,Y,T,ρ2,acc,ys,e2,s2,sl2,hy,vy,f⟩
   let(go,stop):=it (ow (bV B p) Y T) L (evH e2) s2.noO;by_cases Y6:i<ds.length
   .let(g1,g2):=go i Y6
    show .inr #[g1,λσ5 C=>i+1<=ds.length/\∃Y T ρc acc ys,WJ X Z1 S Y T C/\VD (bV B p) K C Y T/\XJ (ow (bV B p) Y T) K C Y σ5 ρc/\C p=lD (.lst ys)/\W7 (ow (bV B p) Y T) K C Y ys acc/\eU gt s k (ds.drop (i+1)) ρc T acc=rr,
     λσ5 C #[h1,h2]=>#[ds.length - (i+1),by ext,W,h1,h2],λx H3 y=>?_]
    let(s3,d,hd,dv):=g2 x H3 y;let ed:ds.drop i=d::ds.drop (i+1):=by let(_,q):=UP.mp hd;rw[Xg Y6,q]
    rw[ed]at f;unfold eU at f;let e3:WJ Y T L Y T H3:=WJ.same s3;let kD:∀{αx αy:bg UX} {Zx Zy:bh} {Hx Hy:Hp} {o:HO},VD (bV B p) K Hx αx Zx->WJ αx Zx Hx αy Zy Hy->Hx p=lD o->Hy p=lD o:=λsx ex h=>ex.kp _ _ h λ#[i,c,q,_]=>sx.ba p (.inr W) i q;let t:∀{G:bg UX} {Z3:bh} {H3:Hp} {z:Xc} {A:bh},WJ X Z1 S G Z3 H3->RS.er z A=rr->∀c dx R H',WJ G Z3 H3 R A H'->VD (bV B p) K H' R A->XOk K (ow (bV B p) R A) H' c dx z->E c dx H':=λ{G Z3 H3 z A} e3 q c dx R H' e s' x'=>by subst q;show w1 c dx R H' (e3.trans e) s'.afa (XOk.sub (λb y=>y.elim (λy=>.inl (.inl y)) .inr) x')
    show hg (bV B p) σ2 H3 Y T ρ2 x (.fz d) _ (s2.grow s3) (sl2.Xt e3) dv ?_;cases qg:gt (.fz d) ρ2 T with
    |er z A=>rw[qg]at f;show t (e2.trans e3) f
    |bad=>rw[qg]at f;show w f.symm
    |ok l Z4=>
     rw[qg]at f;intro α4 H4 e4 s4 σ4 sl4;show ht (bV B p) σ4 H4 α4 Z4 l _ s4 sl4 ?_;let f:((s l Z4).bind λb T=>if b=US then(k l T).bind λx Z3=>(if acc.length<1000000 then eU gt s k (ds.drop (i+1)) l Z3 (acc++[x])else .bad)else eU gt s k (ds.drop (i+1)) l T acc)=rr:=f;cases qt:s l Z4 with
     |er z A=>rw[qt]at f;show t (e2.trans (e3.trans e4)) f
     |bad=>rw[qt]at f;show w f.symm
     |ok b Z5=>
      rw[qt]at f;intro α5 C e5 s5;let I:=sl4.Xt e5;let u:=e3.trans (e4.trans e5);cases b with
      |false=>let f:eU gt s k (ds.drop (i+1)) l Z5 acc=rr:=f;show#[Y6,α5,Z5,l,acc,ys,e2.trans u,s5,I,kD s2 u hy,W7.Xt u vy,f]
      |true=>
       let f:((k l Z5).bind λx Z3=>(if acc.length<1000000 then eU gt s k (ds.drop (i+1)) l Z3 (acc++[x])else .bad))=rr:=f;rw[av W];show he (bV B p) σ4 C α5 Z5 l _ s5 I ?_;cases qe:k l Z5 with
       |er z A=>rw[qe]at f;show t (e2.trans u) f
       |bad=>rw[qe]at f;show w f.symm
       |ok x6 Z6=>
        rw[qe]at f;intro F H6 e6 s6 v6 hv6;let f:(if acc.length<1000000 then eU gt s k (ds.drop (i+1)) l Z6 (acc++[x6])else .bad)=rr:=f;by_cases N:acc.length<1000000
        .rw[av N]at f;let e36:=u.trans e6;let hy6:H6 p=lD (.lst ys):=kD s2 e36 hy;let vy6:=W7.Xt e36 vy;let em:Ev (ow (bV B p) F Z6) H6 (ow (bV B p) F Z6) (bJ H6 p (.lst (ys++[v6]))):=Ev.mut (.inl (.inr W)) _;let sl6:=I.Xt e6;show#[ys,hy6,vi (by rw[vy6.length];show N),Y6,F,Z6,l,acc++[x6],ys++[v6],(e2.trans e36).dd P,s6.ahb hy6,#[sl6.1,λj x hx=>let#[v,h1,h2]:=sl6.2 j x hx;#[v,h1,h2.ev em λ_ _ h=>h]],aO,tq (Paired.Zt vy6 λ_ _ r=>r.ev em λ_ _ h=>h) (hv6.ev em λ_ _ h=>h),f]
        .rw[ax N]at f;show a6 f.symm w
   .let e:i=ds.length:=by ext
    subst e;rw[YA (U1 _)]at f;let f:RS.ok acc T=rr:=f;subst f;show .inl #[stop,?_];show w1 (Y++[p]) L #[λi a h=>e9 (e2.pre i a h),e2.kp,λb z=>(qY s2.len z).elim (e2.lv b) λz=>.inr (by rw[z];show P)] (s2.adopt hy vy hB) (.ref p) #[p,by rw[<-s2.len];show a9,W]
def Je{A C:Type}{P:C->G UX->bh->Hp->Prop}{r:RS A}{k:A->bh->C}{m:A->bh->bh}(w:WS K E B H U Z P ((jB r).bind λa o=>.ok (k a o) (m a o))):WS K E0 B H U Z P (r.bind λa o=>.ok (k a o) (m a o)):=by
 cases r with
 |ok a o=>show w
 |er x o=>show w.elim
 |bad=>show w
def tN{own:G Str}{f:G (Str×Nat)}{a:TI}{g:TG}{d:TT}{b:TE}{h:Rr}{gt:wb}{c:tQ}{t:cZ}{n:Nat}{k:G Nat}(u:own.length=n)(p:f.map (·.2)=k)
  (x:Te K E a h) (o:KI K E0 g gt) (m:yR K E0 d c) (q:cX K E0 b t):cX K E (wB own f a g d b) (oJ n k h gt c t):=by
 intro B M H U Z ρ Q s e w;show x B M H U Z ρ _ s e (WS.imp (WS.bind w) λds X Z1 S r j i J l=>?_);show BE u p o m q j (e.Xt r) l (Je i)
def dL(N:Nat)(g:eK):jr:=λxs Z=>(g (xs.map lD++U8 (N - xs.length) UO) Z).bind λa Z1=>match a with
 |.rt x=>.ok x Z1
 |.nx _=>.ok (.fz .none) Z1
 |_=>.bad
def G6{N:G Str}{c:G V}{xs:G SV}(h:W7 O K H U c xs):XJ O K H U (L2.start N c) (xs.map lD++U8 (N.length - xs.length) UO):=by
 let b:c.length=xs.length:=Paired.length h;ext L2.start;show#[by rw[UZ,UZ,UR,UR,VR,VR,b],λi x a=>?_];by_cases hi:i<xs.length
 .rw[U3 (by rw[UR];show hi),U4]at a
  cases q:xs[i]? with
  |none=>rw[q]at a;ext a
  |some d=>rw[q]at a;ext a;let(v,e,f):=CP h q;show#[v,?_,f];rw[U3 (by rw[UR,b];show hi),U4,e];rfl
 .rw[Vr (by rw[UR];ext),XB]at a;split at a<;>ext a
def Bx{N:G Str}{c:G V}{xs:G SV}{g:eK}{t:TS}{Q:VK}{n:Nat}(k:nr K E t g)(h:ei K n (dL N.length g) c H Q E):t {nx:=λ_ H'=>Q .XN H',rt:=Q} (L2.start N c) H:=by
 let(i,B,U,Z,xs,s,d,w):=h;show k B _ H U Z _ _ s (G6 d) (WS.imp (WS.bind w) λe X Z1 S j b a=>?_);cases e with
 |rt x=>show WS.now (E:=E) b a
 |nx ρ=>show λM f=>WS.now (E:=E) b a .XN .XN
 |bk ρ=>show a.elim
 |ct ρ=>show a.elim
end
def UB{P:Vn}{w:VJ}{K:UN}{q:Str->I B}{base:Heap}{x a:Str}{b:Xx}{f:M}{fd:We}{N c:G Str}{k n m:Nat}{g:eK}{e:jr}(F:Yp K x a b f fd)(S:XU N c (aI b))(u:c.length=n)(hm:N.length=m)(o:e=dL m g)
  (p:∀(d:B) (A:Vx) (outer:G Env) (s:UY) (H:Hp) (E:XK),Xu k (A.deeper (Vv a (aI b) s.heap.objs.size f d))->
   ∃t,PSs (gM dR P w K q base N a (aI b) f d A outer s H E).nox (cI b) t/\nr K E t g):FnOk P w K q base dR (k+1) f fd c (ei K n e):=by
 subst o hm;show F.ok S (λr H Q E h=>h.1.trans u.symm) (λd A outer s H r Q E l h=>?_);let(t,i,j):=p d A outer s H E l;show#[t,i,Bx (xs:=[]) j h]
def TF{P:Vn}{w:VJ}{K:UN}{D:Str->I UQ}{base:Heap}{x a:Str}{b:Xx}{f:M}{fd:We}{N c:bg Str}{k n m:Nat}{g:eK}{j:jr}(F:Yp K x a b f fd)(S:XU N c (aI b))(L:c.length=n)(hm:N.length=m)(u:j=dL m g)
  (y:∀(d:UQ) (A:Vx) (outer:bg Env) (s:UY) (H:Hp) (E:XK),Xu k (A.deeper (Vv a (aI b) s.heap.objs.size f d))->
   ∃t,PSs (gM (L4.nw P w) P w K D base N a (aI b) f d A outer s H E) (cI b) t/\nr K E t g):FnOk P w K D base (L4.nw P w) (k+1) f fd c (ei K n j):=by
 subst u hm;let(C,B,kV,v,z,G,d,ct,l,rfl,o,i):=F.ex;show JM o i S (λJ H Q E h=>h.1.trans L.symm) λA outer s H J Q E r e=>?_;let(t,p,q):=y d A outer s H E r;show#[t,p,Bx (xs:=[]) q e]
abbrev BP(P:Vn)(w:VJ)(K:UN)(b:Str->I B)(base:Heap)(k:Nat)(x:Str)(a:G Str)(n:Nat)(F:jr):Prop:=zm P w K b base k x a (ei K n F)
end L10
namespace PySem.W
open PySem PySem.Calls PyProof.Rows PyProof.V PySem.Spec
section
variable{Y:Vn}{w:VJ}{A:Vx}{E:UQ->UY->Prop}{s:UY}{T:String}{r d:UX}{n:Nat}{P:Nat->UQ->Prop}{X:Heap->Prop}
def collect_kdl(K:KdlSrc Y w T r d n P X)(m:A.handled=S)(Wn:X s.heap)(u:n<=Vb)
  (q:∀c k acc,(∀b o,s.heap.get? b=lD o->c.get? b=lD o)->aaQ P acc n->Q acc.toList {s with heap:=c,toks:=k}):wpAny (model Y w) A (collect (.ref r)) Q E s:=by
 let i:=K.there _ Wn;ext collect;show Ld (akp (WL F.entry_proto_collect ?_));rw[Vx.under_plainId F.plain_proto_collect _];show Ld (V3 ?_);show UT #[W9 F.plain_list_iadd _,WL F.entry_list_iadd ?_];rw[Vx.under_plainId F.plain_list_iadd _];let p:(s.heap.push {cls:=.type "list",data:=.seq ([]:G B).toArray}).get? s.heap.objs.size=lD {cls:=.type "list",data:=.seq ([]:G B).toArray}:=cv _ W;show kdl_extend (R:=wants (λv j=>wpAny (model Y w) A (match v with|.ref a=>(load a>>=λo=>match o.data with|.seq xs _=>pure xs.toList|_=>unsupported "internal:collect")|_=>unsupported "internal:collect") Q E j) E) (s:={s with heap:=s.heap.push {cls:=.type "list",data:=.seq ([]:G B).toArray}}) K m (K.keep _ _ Wn λb _ o e=>bP _ e) _ (Wd i.1) (Wd i.2) _ 0 p (λc k h t l f g=>?_) u;show Ld (agD f ?_);show UT (q c k h (λb o e=>l b o (Vk (cn e)) (bP _ e)) g)
end
end PySem.W
namespace PyProof.Rows
open PySem
section
variable{Y:Vn}{w:VJ}{A:Vx}{E:UQ->UY->Prop}{s:UY}{T:String}{r d:UX}{n:Nat}{P:Nat->UQ->Prop}{X:Heap->Prop}
def Cg(K:PySem.W.KdlSrc Y w T r d n P X)(p:A.handled=S)(Wn:X s.heap)(l:n<64)(t:∀acc:Array UQ,aaQ P acc n->IntsAre acc.toList ns)
  (h:∀(a c:Heap) (g:Nat) (out:Array UQ) (e:Nat) (f:G Int),(∀b o,s.heap.get? b=R o->a.get? b=R o)->c.get? a.objs.size=R (seqObj "list" out e)->(∀b o,a.get? b=R o->c.get? b=R o)->IntsAre out.toList f->f.Perm ns->f.Pairwise (·<=·)->Q (.ref a.objs.size) {s with heap:=c,toks:=g}):
  wpAny (model Y w) A (call (.builtin "sorted") [.ref r]) Q E s:=by
 show Calls.call_function_entry kind_sorted plain_sorted entry_sorted (args_sorted1 _) (Ld (UT (Ld (PySem.W.collect_kdl K p Wn (by rw[WK];ext) (λa g acc m C=>Ld (amq ?_ (hsz:=by rw[Vl,C.1,WK];ext)))))));let i:(a.push (seqObj "list" acc.toList.toArray 0)).get? a.objs.size=R (seqObj "list" acc.toList.toArray 0):=cv _ W;let j:=t acc C;show Ld (Wa (WX slot_list_sort #[_,i,W] entry_list_sort (list_sort_tree i j (by rw[Vl,C.1];show l) λout f y v u=>#[_,W,UT #[_,W,?_]]) (args_list_sort _)));let(e,q):=uE i;show h a _ g out e f m q (λb B z=>rN (Vk (cn z)) (bP _ z)) y v u
end
end PyProof.Rows
namespace L10
open PySem PySem.Spec PyProof.Rows L2 L3
def Td(p d:M):HO:=.ext λh=>h.IsValuesView p d
theorem RN(x:h.IsValuesView p d):ObjOk g w H h p (Td p d):=#[x,let#[o,a,_]:=x;#[o,a],λf e #[o,a,b] k=>#[o,k o a,b]]
def NV:V->G V->Hp->VK->Prop:=λx b H Q=>∃a d,x=.ref a/\b=[]/\H a=R (.dK d)/\∀p,H p=S->Q (.ref p) (bJ H p (Td p a))
def wc:Tx X "dict.values" NV:=by intro f s l H x xs v m Q I g d h;let(a,p,rfl,rfl,e,q):=h;ext g;ext d;let(z,j,n,i,dd):=z8 I.Wn e;show call_meetsIn ZI dd.typeIs PySem.F.entry_dict_values (PySem.F.args_dict_values_1 _) (meets_dict_values (dC X.prog X.w) a j) #[#[n,dd],?_];show#[.ref s.heap.objs.size,_,I.laid (λb o e=>bP _ e) (U1 _) (RN #[_,cv _ W,W,W]),W,q _ (I.Wn.fresh (U1 _))]
def HB:G V->Hp->VK->Prop:=λxs H Q=>∃p a b,xs=[.ref p]/\H p=R (Td p a)/\H a=R (.dK b)/\∀l,H l=S->Q (.ref l) (bJ H l (.lst (b.map (·.2))))
def Mh:∀{c:G (o×V)} {b:G (o×B)},KV c b->Vals (c.map (·.2)) (b.map (·.2)):=by
 intro _ _ a
 induction a with
 |nil=>show .nil
 | @cons _ _ _ _ h t d=>show .cons h.2 (d)
def tM(m:X.calm=P):Yd X (.type "list") HB:=by intro f s B H xs C Q I r h;let(p,a,N,rfl,t,e,q):=h;let(u,rfl,i):=kj r;ext i;let(z,F,T,b,dd):=z8 I.Wn e;let(J,A):=dd.dictAt;let(g,_,_):=I.Wn p _ t;show PySem.W.kdl_call (PySem.W.kdl_values) (I.ok.hd m) #[g,A] (by rw[<-b.length];show z) λG E d c l n L=>?_;let y:=PySem.W.kdl_vals_eq d.toList (by rw[Vl];show L.1) λj v w=>L.2 j v (by rw[<-VU];show w);show#[.ref s.heap.objs.size,_,I.laid (o:=.lst (N.map (·.2))) l (U1 _) #[by rw[UR];show z,d.toList,c,by rw[y];show Mh b,by rw[adL];show n],W,q _ (I.Wn.fresh (U1 _))]
def Iq:G V->Hp->VK->Prop:=λxs H Q=>∃(p:M) (d:G (de×V)) (a:G Int),xs=[.ref p]/\H p=R (.dK d)/\d.map (·.1)=a.map Sum.inl/\a.length<64/\∀(l:M) (b:G Int),H l=S->b.Perm a->b.Pairwise (·<=·)->Q (.ref l) (bJ H l (.lst (b.map V.int)))
theorem tR:∀{c:G (de×B)} {a:G Int} {us:G B},c.map (·.1)=a.map Sum.inl->us.length=c.length->(∀(j:Nat) (u:B),us[j]?=R u->∃k x,c[j]?=R (k,x)/\(dC prog w).is k u=P)->IntsAre us a
 |[],[],[],_,_,_=>.nil
 |[],[],_::_,_,h,_=>by simp at h
 |[],_::_,_,h,_,_=>by simp at h
 |_::_,[],_,h,_,_=>by simp at h
 |_::_,_::_,[],_,h,_=>by simp at h
 |(k,y)::c,n::a,u::us,h1,l,i=>by rw[Vf,Vf,anH]at h1;let(g,x,e,d):=i 0 u W;ext e;let f:=h1.1;subst f;let(t,rfl):=UQ.isInt_shape (show UQ.isInt n u=P from d);show .cons _ _ (tR h1.2 (by simpa using l) λj b e=>i (j+1) b (by simpa using e))
def u7(C:X.calm=US):Yd X (.builtin "sorted") Iq:=by
 intro g s N H xs O Q I r h;let(p,Vy,i,rfl,e,G,E,q):=h;let(u,rfl,o):=kj r;ext o;let(z,B,Y,b,dd):=z8 I.Wn e;let(T,L):=dd.dictAt;let l:Y.map (·.1)=i.map Sum.inl:=by rw[<-b.keys];show G
 let R:Y.length=i.length:=by let:=et Y1 l;simpa using this
 show Cg (PySem.W.kdl_dict B) (I.ok.hd C) L () (λM U=>tR l (by rw[Vl];show U.1) λj v J=>U.2 j v (by rw[<-VU];show J)) λF S P d K t y A f U m w=>?_;let a:=m.length_eq;let n:=I.kept (t':=s.toks) y;show#[.ref F.objs.size,_,n.laid f (U1 _) ?_,W,q _ t (n.Wn.fresh (U1 _)) m w];show#[?_,d.toList,K,jY U,A];rw[UR,a];let:(64:Nat)<=Vb:=by decide
 ext
end L10
namespace PySem
open Sem (wp)
namespace F
def lk_tuple_keys:typeLookup (.type "tuple") "keys"=pure S:=by rw[abe,Zd];kernel_rfl
def lk_tuple_hook:typeLookup (.type "tuple") "__getattr__"=pure S:=by rw[abe,Zd];kernel_rfl
def sub_ae:isSubtype (.type "AttributeError") (.type "AttributeError")=pure P:=by rw[akq];kernel_rfl
end F
section
variable{Y:Vn}{w:VJ}{A:Vx}{E:UQ->UY->Prop}{h:Heap}{g:Array Zr}{d:aeG}{t:Nat}{X:adz}{a:UX}{o:Obj}
def Bg{α:Type}{name f:Str}{Q:α->UY->Prop}{E:B->UY->Prop}(hm:f.length<=Vb)(l:A.handled=S)(i:∀e c k,(∀b o,h.get? b=R o->c.get? b=R o)->(#[c,g,d,k,X]:UY).TypeIs e "AttributeError"->E e #[c,g,d,k,X]):
  wpAny (model Y w) A (raiseAttrError (.ref a) name f:Sem α) Q E #[h,g,d,t,X]:=by
 let j:¬f.length>Vb:=akr.mpr hm;unfold raiseAttrError newExc newTuple
 repeat (any_goals (first|assumption|wp_step))
 show aao (a:=P) F.sub_ae ?_
 repeat (any_goals (first|assumption|wp_step))
 show agk l (i _ _ _ (λb o e=>?_) ?_)
 .show(cw _ _ (ef (Vk (cn (bP _ e))))).trans (bP _ (bP _ e))
 .show#[_,da _ (cv _ W) W,W]
def qI{f:Tok}{Q:Fin->UY->Prop}{E:B->UY->Prop}{p:Array B}{n:Nat}{i:Array (I B)}(j:h.get? a=R #[.type "tuple",S,.seq p n,i])(m:A.handled=S)(l:∀e c k,(∀b o,h.get? b=R o->c.get? b=R o)->(#[c,g,d,k,X]:UY).TypeIs e "AttributeError"->E e #[c,g,d,k,X]):
  wpAny (model Y w) A (Builtin.«object.__getattribute__» #[[.ref a,.str "keys" f],[]]) Q E #[h,g,d,t,X]:=by
 let q:(#[h,g,d,t,X]:UY).TypeIs (.ref a) "tuple":=#[_,j,W];let r:=F.lk_tuple_keys
 repeat (any_goals (first|assumption|wp_step))
 show Bg (by left) m l
def vO{f:Tok}{Q:B->UY->Prop}{E:B->UY->Prop}{u:Array B}{n:Nat}{l:Array (I B)}(i:h.get? a=R #[.type "tuple",S,.seq u n,l])(q:A.handled=S)(m:∀e c k,(∀b o,h.get? b=R o->c.get? b=R o)->(#[c,g,d,k,X]:UY).TypeIs e "AttributeError"->E e #[c,g,d,k,X]):
  wpAny (model Y w) A (getAttrBy (.ref a) (.str "keys" f) U0) Q E #[h,g,d,t,X]:=by
 let r:(#[h,g,d,t,X]:UY).TypeIs (.ref a) "tuple":=#[_,i,W];let z:=F.slot_tuple_getattribute.lookup;let y:=F.slot_tuple_getattribute.bind (.ref a);let v:=F.lk_tuple_hook
 repeat (any_goals (first|assumption|wp_step))
 show XA F.slot_tuple_getattribute.plain F.entry_tuple_ga (F.slot_tuple_getattribute.check _ _ _ _ _ _ _ _ r (F.args_tuple_getattribute_2 _ _) (qI i q λe c k p j=>?_));let fs:=F.sub_ae;show wpAny (model Y w) A (getattributeRaised (UQ.ref a) (UQ.str (Str.ofString "keys") f) (UQ.type "tuple") e S U0 U0) Q E _;ext getattributeRaised;show Ld (aaO j fs ?_)
 repeat (any_goals (first|assumption|wp_step))
 show m e c k p j
def sF(f:h.get? a=R #[.type "tuple",S,.seq J n,C])(l:A.handled=S)(i:∀c k,(∀b o,h.get? b=R o->c.get? b=R o)->Q S #[c,g,d,k,X]):
  wpAny (model Y w) A (getAttr? (.ref a) "keys") Q E #[h,g,d,t,X]:=by
 unfold getAttr? getAttrBy?;let fs:=F.sub_ae;show Ld ?_
 repeat (any_goals (first|assumption|(specialize vO f l λe c k j m=>?_)|wp_step))
 show i c k j
namespace F
theorem entry_upd_loop:entryFor table "dict.update.loop"=R Builtin.«dict.update.loop»:=entryFor_of_tree (by kernel_rfl)
def plain_upd_loop:plainId "dict.update.loop"=P:=by left
end F
end
section
variable{prog:Vn}{w:VJ}{A:Vx}{E:UQ->UY->Prop}{s:UY}{K:Type}[DecidableEq K]{knd:KeyKind prog w K}{I dd Z:UX}{items:Array UQ}{ks:bg (K×UQ)}{R:aaY->UY->Prop}
def CM(a:G (K×B))(k:K)(v:B):(stored a k v).length<=a.length+1:=by
 ext stored;split
 .rw[UR];ext
 .rw[UZ];show U1 _
theorem rS:∀(more c:G (K×B)),(merged c more).length<=c.length+more.length
 |[],c=>U1 _
 |p::r,c=>by let b:=rS r (stored c p.1 p.2);let a:=CM c p.1 p.2;show(merged (stored c p.1 p.2) r).length<=_;rw[Vd];ext
def BL(more:G (K×B)):(merged [] more).length<=more.length:=by let:=rS more [];simpa using this
def Jf{h0:Heap}(V:A.handled=UO)(G:Z≠I)(O:I≠dd)(N:Z≠dd)(D:∀(i:Nat) (v:UQ),items[i]?=lD v->∃q key k x,v=.ref q/\q≠dd/\q≠I/\ks[i]?=lD (k,x)/\knd.is k key=US/\h0.IsTuple q #v[key,x])(hs:ks.length=items.size)(hz:items.size<=Vb)
  (hR:∀c j,c.DictOf knd dd (merged [] ks)->(∀b o,b≠dd->b≠I->h0.get? b=lD o->c.get? b=lD o)->R (.ok (.ret .none)) {s with heap:=c,toks:=j}):
  ∀(m i:Nat) (h:Heap) (j:Nat),items.size - i=m->i<=items.size->h.IsTupleIter I Z i->h.IsTuple Z items->h.DictOf knd dd (merged [] (ks.take i))->(∀b o,b≠dd->b≠I->h0.get? b=lD o->h.get? b=lD o)->
   codeAny (model prog w) A (.builtin "dict.update.loop" #[[.ref dd,.ref I,rawInt i,.none],[]]) R {s with heap:=h,toks:=j}:=by
 let W:=afN.tuple (prog:=prog) (w:=w) (A:=A.in1) V I Z G items;intro m
 induction m with
 |zero=>
  intro i h j hm hi y t r p;let e:i=items.size:=by ext
  subst e;show WL F.entry_upd_loop ?_;rw[Vx.under_plainId F.plain_upd_loop _];show Ld (W.done _ _ _ #[y,t] λc d f=>?_);rw[adB ()]at r;show Ld (UT (UT ?_));show hR c d (r.at λo e=>f dd o (by simp;show λz=>O z.symm) e) λb o g a e=>f b o (by simp;show a) (p b o g a e)
 |succ m ih=>
  intro i h j hm hi y t r p;let T:i<items.size:=by ext
  show WL F.entry_upd_loop ?_;rw[Vx.under_plainId F.plain_upd_loop _];show Ld (W.item i _ _ _ T #[y,t] λv c d hv S f=>?_);let(q,key,k,x,rfl,C,l,J,H,ht):=D i v hv;let B:=ht.at λo e=>f q o (by simp;show l) (p q o C l e);let Q:=r.at λo e=>f dd o (by simp;show λz=>O z.symm) e;let u:=λb o g a e=>f b o (by simp;show a) (p b o g a e);let(Y,n,M,nq,L):=B;let(cq,dq,dtq,U):=Y;ext M;ext L;let hT:({s with heap:=c,toks:=d}:UY).TypeIs (.ref q) "tuple":=#[_,n,rfl];show Ld (Wa (Ld ?_));show abz ?_;ext Builtin.Dict.pairItems;show Ld (XZ hT ?_);rw[av ()];show Ld ?_;unfold seqItems?;show Ld (agD n (UT (UT ?_)));show Wa (wpAny_dictSet_pairs H Q (λa d2 X=>?_) ?_)
  .show UT #[W9 F.plain_upd_loop _,?_];let P:∀b o,b≠dd->c.get? b=lD o->a.get? b=lD o:=λb o hb e=>(X.2 b hb).trans e;show ih (i+1) a (d+1) () T (S.1.at λo e=>P I o O e) (S.2.at λo e=>P Z o N e) ?_ λb o g a e=>P b o g (u b o g a e);rw[merged_take_succ [] ks i (k,x) J];show d2
  .let:(merged [] (ks.take i)).length<=(ks.take i).length:=BL _;rw[V5]at this;ext
end
end PySem
namespace PySem
open Sem (wp)
open PyProof.Rows
section
variable{U:Vn}{w:VJ}{A:Vx}{E:UQ->UY->Prop}{s:UY}{K:Type}[DecidableEq K]{X:KeyKind U w K}{Z:UX}{Y:Array UQ}{T:bg (K×UQ)}{R:aaY->UY->Prop}
def sH(z:A.handled=S)(y:s.heap.get? Z=lD #[.type "tuple",S,.seq Y n,sl])(V:T.length=Y.size)(N:Y.size<=Vb)
  (G:∀(i:Nat) (v:UQ),Y[i]?=lD v->∃q key k x,v=.ref q/\T[i]?=lD (k,x)/\X.is k key=P/\s.heap.IsTuple q #v[key,x])
  (h:∀c D,c.DictOf X s.heap.objs.size (merged [] T)->(∀b o,s.heap.get? b=lD o->c.get? b=lD o)->Q (.ref s.heap.objs.size) {s with heap:=c,toks:=D}):
  wpAny (model U w) A (call (.type "dict") [.ref Z]) Q E s:=by
 show aks (Q₁:=λobj d=>obj=.ref s.heap.objs.size/\d={s with heap:=s.heap.push {cls:=.type "dict",data:=.dict #v[]}}) F.kt_called_dict (F.kt_typeCall_dict_1 _) F.entry_dict_init (kt_code_dict_new _ #[W,W]) ?_;rintro obj d ⟨rfl,rfl⟩;let a:(s.heap.push {cls:=.type "dict",data:=.dict #v[]}).DictOf X s.heap.objs.size []:=Heap.DictOf.new s.heap;let f:(s.heap.push {cls:=.type "dict",data:=.dict #v[]}).get? Z=lD #[.type "tuple",S,.seq Y n,sl]:=bP _ y;let H:({s with heap:=s.heap.push {cls:=.type "dict",data:=.dict #v[]}}:UY).TypeIs (.ref Z) "tuple":=#[_,f,W];show#[a.typeIs,F.args_dict_init_2 _ _,?_];unfold Builtin.«dict.__init__»;show Ld ?_;ext Builtin.Dict.selfAndRest;show Ld (wpAny_notOrdered_dict a.typeIs ?_);show UT ?_;show wpAny _ _ (Builtin.Dict.updateFrom "dict.__init__" s.heap.objs.size (.ref Z) [] .none) _ _ _;ext Builtin.Dict.updateFrom;show Ld (XZ H ?_);rw[av ()];show Ld (sF f z λc B l=>?_);rw[av (show(S:br UQ).isNone=P from rfl)];show Ld (aa2 ?_);let j:=l _ _ f;let r:c.IsTuple Z Y:=#[_,j,W,n,W];show Ld (abk r ?_);show UT #[W9 F.plain_upd_loop _,?_];let Rp:s.heap.objs.size<c.objs.size:=by let(o,_,_,m,_):=a;show cn (l _ _ m)
 let g:=cn y;show Jf (A:=A.in1) (knd:=X) z (Vk (YH g Rp)) (Wd Rp) (Vk g) (λi v e=>?_) V N (λt p L C=>?_) Y.size 0 _ B () (VF _) #[_,cv _ W,W,W] #[_,bP _ j,W,n,W] ?_ λb o _ _ e=>e
 .let(q,key,k,x,rfl,J,t,o,m,I):=G i v e;let u:=cn m;show#[q,key,k,x,W,Vk u,Vk (YH u Rp),J,t,o,bP _ (l _ _ (bP _ m)),I]
 .show#[W,h t p L λb o e=>?_];let lb:=cn e;show C b o (Vk lb) (Vk (YH lb Rp)) (bP _ (l _ _ (bP _ e)))
 .let:=a.at (h':=c.push {cls:=.type "tuple_iterator",data:=.fields #v[.ref Z,.int 0 0]}) λo e=>bP _ (l _ _ e);show this
end
end PySem
namespace L10
open PySem PySem.Spec PyProof.Rows L2 L3
inductive acJ(K:UN)(H:Hp):G V->G (de×V)->Prop
 |nil:acJ K H [] []
 |cons {q:M} {k:de} {v:V} {vs:G V} {Vy:G (de×V)}:Zw K H q [kV k,v]->acJ K H vs Vy->acJ K H (.ref q::vs) ((k,v)::Vy)
def GA(K:UN):G V->Hp->VK->Prop:=λxs H Q=>∃p ys a,xs=[.ref p]/\Zw K H p ys/\acJ K H ys a/\∀d,H d=S->Q (.ref d) (bJ H d (.dK (qH [] a)))
theorem Hw(I:Inv X pins σ H s):∀{g:G V} {z:G (de×V)} {us:G B},acJ X.K H g z->Vals g us->∃y:G (de×B),KV z y/\y.length=us.length/\∀(i:Nat) (v:B),us[i]?=R v->∃q key k x,v=.ref q/\y[i]?=R (k,x)/\(dC X.prog X.w).is k key=P/\s.heap.IsTuple q #v[key,x]
 |_,_,_,.nil,.nil=>#[[],.nil,W,λi v e=>by simp at e]
 |_,_,_,.cons (q:=q) (k:=k) (v:=v) h t,.cons r rs=>by
  let(y,o,n,m):=Hw I t rs;let(p,A,pl,_):=I.tuple h;ext r;obtain⟨f,d,rfl,l,j⟩:∃f d,p=[f,d]/\RelV (kV k) f/\RelV v d:=by
   cases A with
   |cons a b=>cases b with
    |cons b c=>ext c;show#[_,_,W,a,b]
  show#[(k,d)::y,.cons #[W,j] o,by rw[Vd,Vd,n],λi u e=>?_];cases i with
  |zero=>ext e;show#[q,f,k,d,W,W,wR l,pl]
  |succ i=>show m i u (by simpa using e)
def Cn(G:X.calm=US):Yd X (.type "dict") (GA X.K):=by
 intro d s J H xs M Q I r h;let(p,L,Y,rfl,y,z,q):=h;let(u,rfl,g):=kj r;ext g;let(T,U,(o,A,(b,n,F),a),w):=I.agP y;let(R,f,t,m):=Hw I z U;let(P,O,l,j):=o;ext b;ext F;ext a;let B:=U.length;let C:=f.length;show sH (I.ok.hd G) A (by rw[Va];show t) (by rw[Va,<-B];show w) (λi v e=>m i v (by simpa using e)) λS N dd E=>?_;show#[.ref s.heap.objs.size,_,I.laid E (U1 _) ?_,W,q _ (I.Wn.fresh (U1 _))];show Bc ?_ ?_ (KV.merge f .nil) dd
 .let:=nI Y [];rw[WG]at this;ext
 .show beq_eq_false_iff_ne.mpr (Wd I.big)
end L10
namespace L10
open PySem PyProof.Rows L2 L3
def OY:Wb "dict"=R (.type "dict"):=by left
section
variable{B O O':cg}{K:UN}{E:XK}{H H' R P:Hp}{Y α' U T:bg UX}{Z Z' Z1 X:bh}{S:L2.St}{ρ:bC}{v:V}
def vK:SV->I de
 |.fz (.int i)=>lD (.inl i)
 |.fz (.str x)=>lD (.inr x)
 |_=>UO
def tI(e:vK x=lD k)(h:Yw O K H Y v x):v=kV k:=by
 unfold vK at e;split at e
 .ext e;ext h;rfl
 .ext e;ext h;rfl
 .ext e
abbrev yr(O:cg)(K:UN)(H:Hp)(Y:G M):G (de×V)->G (de×SV)->Prop:=Paired (λ(p:de×V) (q:de×SV)=>p.1=q.1/\Yw O K H Y p.2 q.2)
def i4(Z:bh):SV->I (Nat×G (de×SV))
 |.rf i=>match Z[i]? with
  |some (.dct a)=>lD (i,a)
  |_=>UO
 |_=>UO
def oh(s:VD B K H Y Z)(b:Yw (ow B Y Z) K H Y v x)(h:i4 Z x=lD (i,o)):Z[i]?=lD (.dct o)/\∃a ws,Y[i]?=lD a/\v=.ref a/\H a=lD (.dK ws)/\yr (ow B Y Z) K H Y ws o:=by
 cases x with
 |fz d=>ext h
 |tp l=>ext h
 |rf j=>
  let(a,n,rfl):=b;unfold i4 at h;dsimp only at h;cases q:Z[j]? with
  |none=>rw[q]at h;ext h
  |some c=>
   rw[q]at h;cases c with
   |dct m=>let e:=Vi h;ext e;let(ws,g,f):=s.cel i a _ n q;show#[q,a,ws,n,W,g,f]
   |_=>ext h
def kL(b:G (de×SV))(k:de):I SV:=(b.find? λa=>decide (a.1=k)).map (·.2)
def k7(b:G (de×SV))(k:de)(x:SV):G (de×SV):=
 if(b.any λa=>decide (a.1=k))=US then b.map (λa=>if a.1=k then(a.1,x)else a)else b++[(k,x)]
def oz(b:G (de×SV))(k:de):G (de×SV):=b.filter λa=>decide (a.1≠k)
def yi:∀{ws:G (de×V)} {c:G (de×SV)},yr O K H Y ws c->(∀x,kL c k=lD x->∃v,lu ws k=lD v/\Yw O K H Y v x)/\(kL c k=UO->lu ws k=UO):=by
 intro _ _ d
 induction d with
 |nil=>show#[λx e=>(by ext e),λ_=>W]
 | @cons l j ws c i t m=>
  let(a,u):=l;let(b,y):=j;let(g,f):=i;ext g;unfold kL lu;rw[VY,VY];by_cases e:a=k
  .simp only[aP e];show#[λx h=>#[u,W,by ext h;show f],λh=>by ext h]
  .simp only[a4 e];show m
def TN:∀{ws:G (de×V)} {g:G (de×SV)},yr O K H Y ws g->(ws.any λc=>decide (c.1=k))=g.any λc=>decide (c.1=k):=by
 intro _ _ d
 induction d with
 |nil=>show W
 | @cons j i ws g h t l=>let(a,u):=j;let(b,y):=i;let(e,f):=h;ext e;rw[YX,YX,l]
def TY(f:Yw O K H Y v x):∀{ws:G (de×V)} {i:G (de×SV)},yr O K H Y ws i->yr O K H Y (ws.map (λc=>if c.1=k then(c.1,v)else c)) (i.map (λc=>if c.1=k then(c.1,x)else c)):=by
 intro _ _ d
 induction d with
 |nil=>show .nil
 | @cons n m ws i l t j=>
  let(a,u):=n;let(b,y):=m;let(h,g):=l;ext h;rw[Vf,Vf];by_cases e:a=k
  .rw[av e,av e];show .cons #[W,f] (j)
  .rw[ax e,ax e];show .cons #[W,g] (j)
def JG(h:yr O K H Y ws o)(r:p.1=q.1/\Yw O K H Y p.2 q.2):yr O K H Y (ws++[p]) (o++[q]):=by
 induction h with
 |nil=>show .cons r .nil
 |cons a _ b=>show .cons a b
def D9(a:Yw O K H Y v x)(h:yr O K H Y ws o):yr O K H Y (j6 ws k v) (k7 o k x):=by
 unfold j6 k7;rw[TN h];split
 .show TY a h
 .show JG h #[W,a]
def Kg:∀{ws:G (de×V)} {c:G (de×SV)},yr O K H Y ws c->yr O K H Y (pZ ws k) (oz c k):=by
 intro _ _ d
 induction d with
 |nil=>show .nil
 | @cons l j ws c i t h=>
  let(a,u):=l;let(b,y):=j;let(g,f):=i;ext g;unfold pZ oz;rw[aah,aah];by_cases e:a=k
  .let z:decide (a≠k)=U0:=a4 λn=>n e;simp only[z];show h
  .let z:=aP e;simp only[z];show .cons #[W,f] (h)
def zV(neg:Bool)(a fd:cZ):cZ:=λρ Z=>(a ρ Z).bind λx Z1=>(fd ρ Z1).bind λo X=>(RS.V4 X (vK x)).bind λk X=>(RS.V4 X (i4 X o)).bind λp X=>.ok (.fz (.bool ((kL p.2 k).isSome !=neg))) X
def JD(h:yr O K H Y ws o):(lu ws k).isSome=(kL o k).isSome:=by
 let(b,a):=yi h;cases q:kL o k with
 |none=>rw[a q];rfl
 |some x=>let(u,e,_):=b x q;rw[e];rfl
def MA(n:cX K E C fk)(hd:cX K E J fd):cX K E (SK C J) (zV U0 fk fd):=by intro B S H Y Z ρ Q s d w;show n B S H Y Z ρ _ s d (w.bind.imp λx U Z1 R r g f v l=>?_);show hd B S R U Z1 ρ _ g (d.Xt r) (f.bind.imp λo T X P t e b u m=>?_);let(k,j,b):=WS.V4 b;let((i,z),h,b):=WS.V4 b;let(_,a,ws,y,rfl,q,p):=oh e m h;show#[a,lu ws k,W,by rw[tI j l];show acQ.k q,?_];rw[JD p];show WS.now e b _ ?_;rw[agl];show .bl _
def wN(fd a:cZ):cZ:=λρ Z=>(fd ρ Z).bind λo Z1=>(a ρ Z1).bind λx X=>(RS.V4 X (vK x)).bind λk X=>(RS.V4 X (i4 X o)).bind λp X=>RS.V4 X (kL p.2 k)
def AB(hd:cX K E td fd)(r:cX K E J fk):cX K E (N9 td J) (wN fd fk):=by
 intro B S H Y Z ρ Q s d w;show hd B S H Y Z ρ _ s d (w.bind.imp λo U Z1 R F h f u p=>?_);show r B S R U Z1 ρ _ h (d.Xt F) (f.bind.imp λx T X P C e b v n=>?_);let(k,l,b):=WS.V4 b;let((i,L),j,b):=WS.V4 b;let(_,a,ws,N,rfl,A,t):=oh e (p.Xt C) j;dsimp only at b;cases q:kL L k with
 |none=>rw[q]at b;show b.elim
 |some y=>rw[q]at b;let(z,m,g):=(yi t).1 y q;show#[a,z,W,by rw[tI l n,<-m];show acQ.k A,WS.now e b z g]
def Av(fd c b:cZ):eK:=λρ Z=>(b ρ Z).bind λy Z1=>(fd ρ Z1).bind λo X=>(c ρ X).bind λx a=>(RS.V4 a (vK x)).bind λk a=>(RS.V4 a (i4 a o)).bind λp a=>if p.2.length<1000000 then .ok (.nx ρ) (a.set p.1 (.dct (k7 p.2 k y)))else .bad
def Iw(hd:cX K E td fd)(c:cX K E tk fk)(Q:cX K E tv fv):nr K E (N6 td tk tv) (Av fd fk fv):=by
 intro B S H Y Z ρ D s e w;show Q B S H Y Z ρ _ s e (WS.imp (WS.bind w) λy U Z1 R p J G q l=>?_);show hd B S R U Z1 ρ _ J (e.Xt p) (WS.imp (WS.bind G) λo T X P n I F u hu=>?_);show c B S P T X ρ _ I (e.Xt (p.trans n)) (WS.imp (WS.bind F) λx b f g m t d z N=>?_);let(k,M,d):=WS.V4 d;let((i,Vy),L,d):=WS.V4 d;let(j,a,ws,ha,rfl,g1,A):=oh t (hu.Xt m) L;dsimp only at d;by_cases hn:Vy.length<1000000
 .rw[av hn]at d;let ev:Ev (ow B b f) g (ow B b f) (bJ g a (.dK (j6 ws k q))):=vx ha j (by nofun);let C:WJ b f g b (f.set i (.dct (k7 Vy k y))) (bJ g a (.dK (j6 ws k q))):=WJ.put ha j (by nofun) (by nofun);let hl:=Paired.length A;show#[a,_,W,by rw[tI M N];show afm.k g1 (vi ()),?_];show d b _ C (t.put ha j (by nofun) (by nofun) #[_,aO,D9 ((l.Xt (n.trans m)).ev ev λ_ _ h=>h) (Paired.Zt A λ_ _ r=>#[r.1,r.2.ev ev λ_ _ h=>h])]) S ((e.Xt (p.trans (n.trans m))).Xt C)
 .rw[ax hn]at d;show d.elim
def AN(fd a:cZ):cZ:=λρ Z=>(fd ρ Z).bind λo Z1=>(RS.V4 Z1 (i4 Z1 o)).bind λ_ Z1=>(a ρ Z1).bind λx X=>(RS.V4 X (vK x)).bind λk X=>(RS.V4 X (i4 X o)).bind λp X=>(RS.V4 X (kL p.2 k)).bind λy X=>.ok y (X.set p.1 (.dct (oz p.2 k)))
def HQ(hd:cX K E td fd)(J:cX K E tk fk):cX K E (Js td tk) (AN fd fk):=by intro B S H Y Z ρ Q s g w;show hd B S H Y Z ρ _ s g (w.bind.imp λo U Z1 R e1 l e u m=>?_);let((i0,alJ),F,e):=WS.V4 e;let(_,a,d,_,rfl,M,_):=oh l m F;show#[a,W,.inl #[d,.inl M],?_];show J B S R U Z1 ρ _ l (g.Xt e1) (e.bind.imp λx T X P e2 j b v I=>?_);let(k,C,b):=WS.V4 b;let((i,Vy),A,b):=WS.V4 b;let(f,a',ws,ha,N,L,n):=oh j (m.Xt e2) A;ext N;dsimp only at b;let(y,q,b):=WS.V4 b;let(z,G,t):=(yi n).1 y q;let ev:Ev (ow B T X) P (ow B T X) (bJ P a (.dK (pZ ws k))):=vx ha f (by nofun);let p:WJ T X P T (X.set i (.dct (oz Vy k))) (bJ P a (.dK (pZ ws k))):=WJ.put ha f (by nofun) (by nofun);show#[ws,k,z,L,tI C I,G,?_];show b T _ p (j.put ha f (by nofun) (by nofun) #[_,aO,Kg (Paired.Zt n λ_ _ r=>#[r.1,r.2.ev ev λ_ _ h=>h])]) z (t.Xt p)
def l8(s:VD B K H Y Z)(a:H p=UO)(w:WS K E B H Y Z (PQ B K Q) (.ok (.rf Z.length) (Z++[c])))(d:∀e:WJ Y Z H (Y++[p]) (Z++[c]) (bJ H p o),COk (ow B (Y++[p]) (Z++[c])) K (bJ H p o) (Y++[p]) p c):Q (.ref p) (bJ H p o):=by let b:WY H (bJ H p o):=bO a _;let e:WJ Y Z H (Y++[p]) (Z++[c]) (bJ H p o):=WJ.acz s.len b a;show w _ _ e (s.acz b a (by rw[aO];simp) (d e)) _ #[p,by rw[<-s.len];show a9,W]
def Dk(fd:cZ):cZ:=λρ Z=>(fd ρ Z).bind λo Z1=>(RS.V4 Z1 (i4 Z1 o)).bind λp Z1=>.ok (.rf Z1.length) (Z1++[.lst (p.2.map (·.2))])
def Ib:∀{ws:G (de×V)} {b:G (de×SV)},yr O K H Y ws b->W7 O K H Y (ws.map (·.2)) (b.map (·.2)):=by
 intro _ _ a
 induction a with
 |nil=>show .nil
 | @cons _ _ _ _ h t d=>show .cons h.2 (d)
def AD(hd:cX K E J fd):cX K E (IK HB (jb (Ps K "dict" NV J) pK)) (Dk fd):=by intro B S H Y Z ρ Q s j w;show hd B S H Y Z ρ _ s j (w.bind.imp λo U Z1 R C g d u q=>?_);let((i,N),n,d):=WS.V4 d;let(A,a,ws,L,rfl,f,z):=oh g q n;show#[.inr (.inr (.inl #[W,.inl #[ws,f]])),a,ws,W,W,f,λp t=>?_];let b:WY R (bJ R p (Td p a)):=bO t _;let m:=g.grow b;let h:=WS.from (WJ.same b) d;show#[p,a,ws,W,aO,b _ _ f,λl y=>?_];show l8 m y h λe=>#[_,aO,Ib (Paired.Zt z λ_ _ r=>#[r.1,(r.2.Xt (WJ.same b)).Xt e])]
def CN:de->I Int
 |.inl i=>lD i
 |.inr _=>UO
def wU(fd:cZ):cZ:=λρ Z=>(fd ρ Z).bind λo Z1=>(RS.V4 Z1 (i4 Z1 o)).bind λp Z1=>(RS.V4 Z1 (aJ CN (p.2.map (·.1)))).bind λa Z1=>if a.length<64 then .ok (.rf Z1.length) (Z1++[.lst ((l9 a).map λi=>SV.fz (.int i))])else .bad
theorem uD:∀{c:G de} {a:G Int},aJ CN c=lD a->c=a.map Sum.inl
 |[],_,e=>by ext e;rfl
 |k::r,a,e=>by
  unfold aJ at e;cases k with
  |inr x=>ext e
  |inl i=>
   dsimp only[CN]at e;cases q:aJ CN r with
   |none=>rw[q]at e;ext e
   |some b=>rw[q]at e;ext e;rw[Vf,<-uD q]
def JK:∀{ws:G (de×V)} {b:G (de×SV)},yr O K H Y ws b->ws.map (·.1)=b.map (·.1):=by
 intro _ _ a
 induction a with
 |nil=>show W
 | @cons _ _ _ _ h t d=>rw[Vf,Vf,h.1,d]
theorem CW(O:cg)(K:UN)(H:Hp)(Y:G M):∀ns:G Int,W7 O K H Y (ns.map V.int) (ns.map λi=>SV.fz (.int i))
 |[]=>.nil
 |n::r=>.cons (.int n) (CW O K H Y r)
def AA(hd:cX K E J fd):cX K E (IK Iq (jb J pK)) (wU fd):=by
 intro B S H Y Z ρ Q s g w;show hd B S H Y Z ρ _ s g (w.bind.imp λo U Z1 R C f b u m=>?_);let((i,N),j,b):=WS.V4 b;let(z,a,ws,L,rfl,t,r):=oh f m j;let(d,h,b):=WS.V4 b;by_cases hn:d.length<64
 .rw[av hn]at b;show#[a,ws,d,W,t,by rw[JK r];show uD h,hn,λl A q p n=>?_];let y:=mx (p.trans (fX d).symm) n (fF d);subst y;show l8 f q b λe=>#[_,aO,CW _ _ _ _ _]
 .rw[ax hn]at b;show b.elim
def tK:D->I (de×SV)
 |.tuple [.int i,d]=>lD (.inl i,.fz d)
 |.tuple [.str x,d]=>lD (.inr x,.fz d)
 |_=>UO
def xZ:SV->I (G (de×SV))
 |.fz (.tuple ds)=>aJ tK ds
 |_=>UO
def FD(e:xZ x=lD o):∃ds,x=.fz (.tuple ds)/\aJ tK ds=lD o:=by
 unfold xZ at e;split at e
 .show#[_,W,e]
 .ext e
def oa(c more:G (de×SV)):G (de×SV):=more.foldl (λa b=>k7 a b.1 b.2) c
def zy(b:cZ):cZ:=λρ Z=>(b ρ Z).bind λx Z1=>(RS.V4 Z1 (xZ x)).bind λa Z1=>.ok (.rf Z1.length) (Z1++[.dct (oa [] a)])
theorem AL:∀{m:G V} {ds:G D} {k:G (de×SV)},L3.WO O K H m ds->aJ tK ds=lD k->∃j,acJ K H m j/\yr O K H Y j k
 |_,_,_,.nil,e=>by ext e;show#[[],.nil,.nil]
 |_,_,_,.cons (d:=d) (ds:=ds) h t,e=>by
  unfold aJ at e;cases q:tK d with
  |none=>rw[q]at e;ext e
  |some p=>
   rw[q]at e;dsimp only at e;cases l:aJ tK ds with
   |none=>rw[l]at e;ext e
   |some k=>
    rw[l]at e;ext e;let(j,i,g):=AL t l;unfold tK at q;split at q
    .ext q
     cases h with
     |tup h f=>cases f with
      |cons a b=>cases b with
       |cons b c=>ext c;ext a;show#[(.inl _,_)::j,.cons h.1 i,.cons #[W,b] g]
    .ext q
     cases h with
     |tup h f=>cases f with
      |cons a b=>cases b with
       |cons b c=>ext c;ext a;show#[(.inr _,_)::j,.cons h.1 i,.cons #[W,b] g]
    .ext q
theorem C8:∀{more:G (de×V)} {d:G (de×SV)} {ws:G (de×V)} {c:G (de×SV)},yr O K H Y more d->yr O K H Y ws c->yr O K H Y (qH ws more) (oa c d)
 |_,_,_,_,.nil,h=>h
 |(a,u)::more,(b,y)::d,_,_,.cons r t,h=>by let(f,e):=r;ext f;show yr O K H Y (qH (j6 _ a u) more) (oa (k7 _ a y) d);show C8 t (D9 e h)
def IX(n:cX K E C J):cX K E (IK (GA K) (jb C pK)) (zy J):=by
 intro B S H Y Z ρ Q s f w;show n B S H Y Z ρ _ s f (w.bind.imp λx U Z1 R p g b u l=>?_);let(y,q,a):=WS.V4 b;let(ds,rfl,q):=FD q;let a:=a;cases l with
 |tup h m=>let(t,j,i):=AL m q;show#[_,_,t,W,h.1,j,λd o=>l8 g o a λe=>#[_,aO,C8 (Paired.Zt i λ_ _ r=>#[r.1,r.2.Xt e]) .nil]]
end
end L10
namespace PySem
open PyProof.Rows
def ng:I Int->Int->I Int
 |none,x=>R x
 |some m,x=>R (if x>m then x else m)
def Ru:I (Int×Tok)->Array B
 |none=> #v[]
 |some (m,t)=> #v[.int m t,.int m t]
def N4(d:B):I (Int×Tok)->B
 |none=>d
 |some (m,t)=>.int m t
namespace F
def args_maxd(a b:B):checkBuiltinCall "max" #[[a],[("default",b)]]=pure ⟨⟩:=by kernel_rfl
end F
section
variable{prog:Vn}{w:VJ}{A:Vx}{E:UQ->UY->Prop}{R:aaY->UY->Prop}{I l S:UX}{vs:bg UQ}{d:UQ}
def Nd(hh:A.handled=UO)(D:l≠I)(r:S≠I)(Q:S≠l){s:UY}:
  ∀{B:bg UQ} {ns:bg Int},IntsAre B ns->∀(i:Nat) (h:Heap) (M:Nat) (b:br (Int×Tok)) (c:Nat),vs=vs.take i++B->i<=vs.length->h.IsListIter I l i->h.IsList l vs.toArray->h.get? S=lD {cls:=.type "list",dict:=UO,data:=.seq (Ru b) c,slots:= #v[]}->
  (∀x M V,V.map (·.1)=ns.foldl ng (b.map (·.1))->(∀a o,a≠I->a≠S->h.get? a=lD o->x.get? a=lD o)->R (.ok (.ret (N4 d V))) {s with heap:=x,toks:=M})->
  codeAny (model prog w) A (.builtin "max.loop" #[[.ref I,.none,.ref S],[("default",d)]]) R {s with heap:=h,toks:=M}:=by
 let W:=afN.list (prog:=prog) (w:=w) (A:=A.in1) hh I l D vs.toArray;intro B ns hi
 induction hi with
 |nil=>
  intro i h M b c u hi it li T L;let e:i=vs.toArray.size:=by rw[Vz]at u;let:=et Y1 u;rw[V5]at this;rw[Va];ext
  show WL F.entry_max_loop ?_;rw[Vx.under_plainId F.plain_max_loop _];show Ld (Wj T rfl ?_);show Ld (abz (W.done _ _ _ (e▸#[it,li]) λx g y=>?_));let f:=y S _ (by simpa using r) T;cases b with
  |none=>show Ld (aa2 (UT ?_));show L x g UO rfl λa o j z e=>y a o (by simpa using j) e
  |some p=>let(m,t):=p;show Ld (abf f rfl (Ld (Ym (UT ?_))) (hz:=by show 2<=Vb;decide));show L _ g (lD (m,t)) rfl λa o j z e=>(cw _ _ (ef z)).trans (y a o (by simpa using j) e)
 | @cons n t ak2 aij hr ih=>
  intro i h M b c u hi it li T L;let Y6:i<vs.toArray.size:=by let:=et Y1 u;rw[UZ,V5,Vd]at this;rw[Va];ext
  let O:vs[i]?=lD (.int n t):=by rw[u,Vr (by rw[V5];ext),V5,aaJ hi,abV];rfl
  let C:vs=vs.take (i+1)++ak2:=by rw[Xq,O];rw[Vw];show u
  let G:i+1<=vs.length:=by rw[Va]at Y6;show Y6
  show WL F.entry_max_loop ?_;rw[Vx.under_plainId F.plain_max_loop _];show Ld (Wj T rfl ?_);show Ld (abz (W.item i _ _ _ Y6 #[it,li] λv x g hP K y=>?_));let ev:v=.int n t:=by let U:=hP;rw[List.getElem?_toArray,O]at U;show(Vi U).symm
  subst ev;let f:=y S _ (by simpa using r) T;let J:(toString "max"++toString ".loop":String)= "max.loop":=by decide
  cases b with
  |none=>
   show wpAny _ A.in1 (updateSeq S (λ_=> #v[UQ.int n t,UQ.int n t])>>=_) _ _ _;show Ld (abf f rfl ?_);rw[J];show UT #[W9 F.plain_max_loop _,ih (i+1) _ g (lD (n,t)) _ C G (K.1.at λo e=>?_) (K.2.at λo e=>?_) (da _ f rfl) λz q Y X N=>L z q Y X λa o j H e=>N a o j H ((cw _ _ (ef H)).trans (y a o (by simpa using j) e))]
   .show(cw _ _ r).trans e
   .show(cw _ _ Q).trans e
  |some p=>
   let(m,Z):=p;show wpAny _ A.in1 (tryCatch (holding [UQ.int n t,UQ.int n t] (richCompare .Gt (UQ.int n t) (UQ.int m Z)>>=_)) _>>=_) _ _ _;let al6:=CmpOf.ints_gt (prog:=prog) (w:=w) (A:=A.in1) (P:=λ(k:Nat) v=>(k=0/\v=UQ.int n t)\/(k=1/\v=UQ.int m Z)) (λk=>if k=0 then n else m) λk v u=>by
    rcases u with⟨rfl,rfl⟩|⟨rfl,rfl⟩
    .show#[t,rfl]
    .show#[Z,rfl]
   show Ld (abz (Wa (Ld (al6 0 1 _ _ _ _ _ (.inl #[rfl,rfl]) (.inr #[rfl,rfl]) ?_))));show Ld (Wa (Xy ?_));show Ld (Ym (UT ?_));show wpAny _ A.in1 (if decide (n>m)=US then _ else _) _ _ _;by_cases hb:n>m
   .rw[av (aP hb)]
    show Ld (abf f rfl (Ld (Ym ?_)) (hz:=by show 2<=Vb;decide));rw[J];show UT #[W9 F.plain_max_loop _,ih (i+1) _ g (lD (n,t)) _ C G (K.1.at λo e=>?_) (K.2.at λo e=>?_) (da _ f rfl) λz q Y X N=>L z q Y ?_ λa o j H e=>N a o j H ((cw _ _ (ef H)).trans (y a o (by simpa using j) e))]
    .show(cw _ _ r).trans e
    .show(cw _ _ Q).trans e
    .rw[X];show _=aij.foldl ng (lD (if n>m then n else m));rw[av hb];rfl
   .rw[ax (by rw[a4 hb];show Vg)];show Ld (Ym ?_);rw[J];show UT #[W9 F.plain_max_loop _,ih (i+1) _ g (lD (m,Z)) c C G K.1 K.2 f λz q Y X N=>L z q Y ?_ λa o j H e=>N a o j H (y a o (by simpa using j) e)];rw[X];show _=aij.foldl ng (lD (if n>m then n else m));rw[ax hb];rfl
def Fj(n:A.handled=UO)(g:s.heap.IsList l vs.toArray)(r:IntsAre vs ns)
  (q:∀c k b,b.map (·.1)=ns.foldl ng UO->(∀a o,s.heap.get? a=lD o->c.get? a=lD o)->Q (N4 d b) {s with heap:=c,toks:=k}):
  wpAny (model prog w) A (call (.builtin "max") [.ref l] [("default",d)]) Q E s:=by
 let j:l<s.heap.objs.size:=by let(_,e,_):=g;show cn e
 let h:(toString "max"++toString ".loop":String)= "max.loop":=by decide
 show Z8 (XA F.plain_max F.entry_max (aao (F.args_maxd _ _) ?_));show Ld (aao (show Builtin.Builtins.bindParams "max" ["key","default"] 0 #[[],[("default",d)]]=pure [UO,lD d]from rfl) ?_);show Ld (UT ?_);show Ld (XW g ?_);show Ld (V3 ?_);rw[h];let f:(s.heap.push {cls:=.type "list_iterator",data:=.fields #v[.ref l,.int 0 0]}).objs.size=s.heap.objs.size+1:=dt _ _;show UT #[W9 F.plain_max_loop _,Nd n (Vk j) (by rw[f];show Nat.succ_ne_self _) (by rw[f];show Wd (X8 j)) r 0 _ s.toks UO 0 W (VF _) #[_,bP _ (cv _ W),W,W] ((g.push _).push _) (cv _ W) λc k b p m=>?_];show q c k b p λa o e=>?_;let i:=cn e;show m a o (Vk i) (by rw[f];show Vk (X8 i)) (bP _ (bP _ e))
end
end PySem
namespace L10
open PySem PySem.Spec PyProof.Rows L2 L3
def Og(K:UN)(i:Int):G V->Hp->VK->Prop:=λxs H Q=>∃(p:M) (a:G Int),xs=[.ref p]/\Y4 K H p (a.map V.int)/\Q (.int ((a.foldl ng S).getD i)) H
def Ee(A:X.calm=P)(z:Gl X "max")(hm:X.mg "max"=S)(k:PA X [l] U)(c:R9 l=U0:=by rfl):
  PE X (.Call (.Name "max" p) [l] [#[R "default",.Constant (.int i) j p1,p2]] pos) (IK (Og X.K i) U):=by
 intro d s f H Q I h;show Xk (lX I z hm NU (callWith_kw (cT (k pos d s f H _ I h) λE g #[T,C,e,o,r]=>?_) (by rw[w6 _ _ _ c];rfl) (by rw[w6 _ _ _ c];rfl) W W));let(a,v,rfl,w,q):=r;let(u,rfl,n):=kj o;ext n;let(L,N,pl,G):=e.list w;show ajc (agB (ajd ?_));let M:=e.tok (g.toks+1);show Fj (e.ok.hd A) pl.isList (oj N) λJ F b B y=>?_;show#[.int ((v.foldl ng S).getD i),C,e.kept y,?_,q];rw[<-B];cases b with
 |none=>show#[_,W]
 |some p=>let(m,t):=p;show#[t,W]
def Hj(i:Int):G D->I RV
 |[.list ds]=>(qL ds).map λa=>.fz (.int ((a.foldl ng S).getD i))
 |_=>S
def C2{K:UN}:Gk K (Og K i) (Hj i):=by
 intro O H xs ds p Q n d e q;unfold Hj at e;split at e
 .rename_i l
  cases d with
  |cons j h=>
   ext h;cases m:qL l with
   |none=>rw[m]at e;ext e
   |some b=>rw[m]at e;ext e;let(a,o,rfl,g,f):=Bj j;obtain rfl:=tj f m;show#[a,b,W,g.sq,q.at (.int _)]
 .ext e
end L10
namespace L10
open PySem L2 L3
section
variable{B O O':cg}{K:UN}{E:XK}{H H' H1 H2:Hp}{X Y T α2:bg UX}{Z U Z1 Z2:bh}{σ:L2.St}{ρ:bC}{v:V}
def iJ{l r:G A}(h:(l++r)[i]?=R y):l[i]?=R y\/∃j,i=l.length+j/\r[j]?=R y:=by
 by_cases hi:i<l.length
 .rw[U3 hi]at h;show .inl h
 .rw[Vr ()]at h;show .inr #[i - l.length,by ext,h]
def LM{l r:G A}{i:Nat}(h:l[i]?=R y):(l++r)[i]?=R y:=by rw[U3 (UP.mp h).1];show h
def GY{l r:G A}(h:r[i]?=R y):(l++r)[l.length+i]?=R y:=by rw[Vr (),XG];show h
def Ki(g:X.length=Z.length)(h:Lv (X++o) (Z++cs) b):Lv X Z b\/b∈o:=by
 let(i,d,f,e,a):=h;rcases iJ f with g1|⟨j,m,g1⟩
 .rcases iJ e with g2|⟨k,l,g2⟩
  .show .inl #[i,d,g1,g2,a]
  .let:=(UP.mp g1).1;ext
 .show .inr (Ve g1)
theorem WJ.ac4(s:VD B K H X Z)(e:WY H H')(d:∀p∈ps,H p=S):WJ X Z H (X++ps) (Z++cs) H':=
 #[λi a h=>LM h,λb u q _=>e b u q,λb z=>(Ki s.len z).imp id λz=>d b z]
def VD.ac4(s:VD B K H X Z)(e:WY H H')(f:∀p∈ps,H p=S)(m:∀p∈ps,H' p≠S)(nd:∀(i j:Nat) (a:M),ps[i]?=R a->ps[j]?=R a->i=j)(t:ps.length=cs.length)
  (new:∀(i:Nat) (a:M) (c:Cell),ps[i]?=R a->cs[i]?=R c->COk (ow B (X++ps) (Z++cs)) K H' (X++ps) a c):VD B K H' (X++ps) (Z++cs):=by
 let ev:WJ X Z H (X++ps) (Z++cs) H':=WJ.ac4 s e f;let n:∀b,H b≠S->H' b≠S:=λb h z=>h (e.free z);show#[by rw[UZ,UZ,s.len,t],λi j a g l=>?_,λa h=>n a (s.bn a h),λa h i q=>?_,λi a h=>?_,λi a d g l=>?_]
 .rcases iJ g with g1|⟨A,u,g1⟩<;>rcases iJ l with g2|⟨y,C,g2⟩
  .show s.nd i j a g1 g2
  .show a6 (f a (Ve g2)) (s.al i a g1)
  .show a6 (f a (Ve g1)) (s.al j a g2)
  .let:=nd A y a g1 g2;ext
 .rcases iJ q with q|⟨j,_,q⟩
  .show s.ba a h i q
  .show s.bn a h (f a (Ve q))
 .rcases iJ h with h|⟨j,_,h⟩
  .show n a (s.al i a h)
  .show m a (Ve h)
 .let r:=s.len
  rcases iJ l with g2|⟨j,C,g2⟩
  .rcases iJ g with g1|⟨k,u,g1⟩
   .show(s.cel i a d g1 g2).ev ev.ev ev.pre λo q=>e _ _ q
   .let:=(UP.mp g2).1;ext
  .rcases iJ g with g1|⟨k,u,g1⟩
   .let:=(UP.mp g1).1;ext
   .let:k=j:=by ext
    subst this;show new k a d g1 g2
def Gn(U:bh):Nat->G AV->I (G AV×G (G D)×G Nat)
 |_,[]=>R ([],[],[])
 |n,.fz d::r=>match Gn U n r with
  |some (l,cs,a)=>R (.fz d::l,cs,a)
  |none=>S
 |n,.rf i::r=>match sh U (.rf i)with
  |some (.list ds)=>(match Gn U (n+1) r with
   |some (l,cs,a)=>R (.rf n::l,ds::cs,i::a)
   |none=>S)
  |_=>S
def Ts(ds:G D):Cell:=.lst (ds.map .fz)
def tH(x:SV)(U Z:bh):RS SV:=match x with
 |.fz d=>.ok (.fz d) Z
 |.rf i=>(match sh U (.rf i)with
  |some (.list ds)=>mq Z (.ow ds)
  |_=>.bad)
 |.tp l=>(match Gn U Z.length l with
  |some (a,cs,b)=>if b.Nodup then .ok (.tp a) (Z++cs.map Ts)else .bad
  |none=>.bad)
def sX(h:sh Z (.rf i)=R (.list ds)):∃xs,Z[i]?=R (.lst xs)/\aJ xy xs=R ds:=by
 unfold sh at h;dsimp only at h;cases q:Z[i]? with
 |none=>rw[q]at h;ext h
 |some c=>
  rw[q]at h;cases c with
  |lst xs=>
   dsimp only at h;cases b:aJ xy xs with
   |none=>rw[b]at h;ext h
   |some a=>rw[b]at h;ext h;show#[xs,W,b]
  |_=>ext h
def i8(s:VD B K H X Z)(h:sh Z (.rf i)=lD (.list ds)):∃a c,X[i]?=lD a/\H a=lD (.lst c)/\L3.WO (ow B X Z) K H c ds/\ow B X Z a:=by let(xs,b,d):=sX h;let(a,j):=s.at b;let(c,g,f):=s.cel i a _ j b;show#[a,c,j,g,lU (dz (R:=Yw (ow B X Z) K H X) (λv x y r e=>Br r e) f d),.inr #[i,_,j,b,by intro z;ext z]]
def SY{o:cg}(s:VD o K H' Y U):∀{n:Nat} {l u:bg AV} {cs:bg (bg D)} {g:bg Nat} {xs:bg V},Gn U n l=R (u,cs,g)->Paired (AOk (ow o Y U) K H' Y) xs l->
  ∃c:bg UX,c.length=g.length/\cs.length=g.length/\(∀(k j:Nat),g[k]?=R j->∃a ds Q,c[k]?=R a/\cs[k]?=R ds/\Y[j]?=R a/\H' a=R (.lst Q)/\L3.WO (ow o Y U) K H' Q ds/\ow o Y U a)/\
   ∀(b:bg UX),b.length=n->Paired (AOk (ow o Y U) K H' (b++c)) xs u:=by
 intro n l u cs g xs e p
 induction p generalizing n u cs g with
 |nil=>ext e;show#[[],W,W,λk j h=>by simp at h,λb _=>.nil]
 | @cons _ x _ r h t ih=>
  cases x with
  |fz d=>
   unfold Gn at e;cases q:Gn U n r with
   |none=>rw[q]at e;ext e
   |some p=>let(I,F,w):=p;rw[q]at e;ext e;let(c,C,A,z,y):=ih q;show#[c,C,A,z,λb f=>.cons h (y b f)]
  |rf i=>
   unfold Gn at e;cases qs:sh U (.rf i)with
   |none=>rw[qs]at e;ext e
   |some d=>
    rw[qs]at e;cases d with
    |list ds=>
     dsimp only at e;cases q:Gn U (n+1) r with
     |none=>rw[q]at e;ext e
     |some p=>
      let(I,F,w):=p;rw[q]at e;ext e;let(c,C,A,z,y):=ih q;let(a,Q,ha,J,M,L):=i8 s qs;show#[a::c,by rw[Vd,Vd,C],by rw[Vd,Vd,A],λk j G=>?_,λb f=>?_]
      .cases k with
       |zero=>ext G;show#[a,ds,Q,W,W,ha,J,M,L]
       |succ k=>show z k j (by simpa using G)
      .let N:b++a::c=(b++[a])++c:=by simp
       let(P,m,rfl):=h;rw[ha]at m;ext m;show .cons #[a,by rw[<-f];show GY (l:=b) (r:=a::c) (i:=0) W,W] ?_;rw[N];show y (b++[a]) (by rw[UZ,f];rfl)
    |_=>ext e
def Fm(s:VD B K H X Z)(w:WS K E B H X Z (PQ B K Q) (tH x U Z))(D:WJ [] [] H Y U H')(G:VD (ow B X Z) K H' Y U)(J:Yw (ow (ow B X Z) Y U) K H' Y v x):Q v H':=by
 let C:=λb o h=>D.kp b o h λ#[i,c,q,_]=>by simp at q
 let sub:∀b,ow B X Z b->ow (ow B X Z) Y U b:=λb z=>.inl z;let fr:=λi a c R h2 h3=>(D.lv a #[i,c,R,h2,h3]).elim (λ#[i,c,q,_]=>by simp at q) id;cases x with
 |fz d=>show w X H' (WJ.same C) (s.grow C) v (DV.ev (Ev.sub sub) J)
 |rf i=>
  unfold tH at w;dsimp only at w;cases qs:sh U (.rf i)with
  |none=>rw[qs]at w;show w.elim
  |some d=>
   rw[qs]at w;cases d with
   |list ds=>let(a,vs,ha,R,hd,M):=i8 G qs;let(xs,e,_):=sX qs;let(a',F,rfl):=J;rw[ha]at F;ext F;show vC s w C (fr i a _ ha e (by nofun)) R hd sub M
   |_=>show w.elim
 |tp l=>
  unfold tH at w;dsimp only at w;cases qg:Gn U Z.length l with
  |none=>rw[qg]at w;show w.elim
  |some p=>
   let(l',cs,I):=p;rw[qg]at w;dsimp only at w;by_cases hn:I.Nodup
   .rw[av hn]at w
    let(a,xs,rfl,ht,hl):=J;let(ps,g1,g2,g3,g4):=SY G qg hl;let A:∀(k:Nat) (b:UX),ps[k]?=lD b->∃j ds vs,I[k]?=lD j/\cs[k]?=lD ds/\Y[j]?=lD b/\H' b=lD (.lst vs)/\L3.WO (ow (ow B X Z) Y U) K H' vs ds/\ow (ow B X Z) Y U b:=λk b hb=>by
     let f:k<I.length:=by rw[<-g1];show(UP.mp hb).1
     let(b',ds,vs,e,y,u,m,t,g):=g3 k _ (U7 f);rw[hb]at e;ext e;show#[_,ds,vs,U7 f,y,u,m,t,g]
    let nB:∀(j:Nat) (b:UX),Y[j]?=lD b->ow (ow B X Z) Y U b->H b=UO:=λj b N M=>by
     rcases M with z|⟨i,c,z1,z2,z3⟩
     .show a6 N (G.ba b z j)
     .show fr i b c z1 z2 z3
    let fp:∀p∈ps,H p=UO:=λp L=>by let(k,f):=V9.mp L;let(j,ds,vs,e,y,u,m,t,g):=A k p f;show nB j p u g
    let n:∀b,ow B (X++ps) (Z++cs.map Ts) b->ow (ow B X Z) Y U b:=λb z=>by
     rcases z with z|z
     .show .inl (.inl z)
     .rcases Ki s.len z with z|z
      .show .inl (.inr z)
      .let(k,f):=V9.mp z;let(j,ds,vs,e,y,u,m,t,g):=A k b f;show g
    let ev:=WJ.ac4 (cs:=cs.map Ts) s C fp;show w (X++ps) H' ev (s.ac4 C fp (λp L=>?_) (λi j b hi N=>?_) (by rw[UR,g1,g2]) λi b c hi hc=>?_) (.ref a) #[a,xs,W,ht.ev (Ev.sub n),Paired.Zt (g4 X s.len) λ_ _ r=>r.ev (Ev.sub n) λ_ _ h=>h]
    .let(k,f):=V9.mp L;let(j,ds,vs,e,y,u,m,t,g):=A k p f;rw[m];simp
    .let(j1,_,_,S,_,p3,_):=A i b hi;let(j2,_,_,r1,_,r3,_):=A j b N;let:=G.nd j1 j2 b p3 r3;subst this;let P:=(UP.mp S).1;show(ae1 P hn).mp (S.trans r1.symm)
    .let(j,ds,vs,e,y,u,m,t,g):=A i b hi;rw[U4,y]at hc;ext hc;show#[vs,m,mn _ _ (t.ev (Ev.sub n))]
   .rw[ax hn]at w;show w.elim
def wQ(F:jr)(n:Nat)(xs:G SV)(Z:bh):RS SV:=if xs.length=n then(match aJ xy xs with
 |some ds=>(match F (ds.map .fz) []with
  |.ok x U=>tH x U Z
  |.er x _=>.er x Z
  |.bad=>.bad)
 |none=>.bad)else .bad
def lH(F:jr)(n:Nat)(a:Az):cZ:=λρ Z=>(a ρ Z).bind λxs Z1=>jB (wQ F n xs Z1)
theorem CO(h:∀a,B a->H a≠S):VD B K H [] []:=#[W,λi j a h=>by simp at h,h,λa h i=>by simp,λi a h=>by simp at h,λi a c h=>by simp at h]
theorem EI:∀{xs:G SV} {ds:G D},aJ xy xs=R ds->xs=ds.map .fz
 |[],_,e=>by ext e;rfl
 |x::r,ds,e=>by
  unfold aJ at e;cases x with
  |fz d=>
   dsimp only[xy]at e;cases q:aJ xy r with
   |none=>rw[q]at e;ext e
   |some a=>rw[q]at e;ext e;rw[Vf,<-EI q]
  |rf i=>ext e
  |tp l=>ext e
def GQ(s:VD B K H X Z)(d:W7 (ow B X Z) K H X C xs)(w:WS K E B H X Z (PQ B K Q) (wQ F n xs Z)):ei K n F C H Q E:=by
 unfold wQ at w;by_cases hn:xs.length=n
 .rw[av hn]at w
  show#[d.length.trans hn,?_];cases q:aJ xy xs with
  |none=>rw[q]at w;show w.elim
  |some ds=>
   rw[q]at w;dsimp only at w;let j:=EI q;show#[ow B X Z,[],[],ds.map .fz,CO s.owd,?_,?_]
   .rw[j]at d;show mn _ _ ((IM d).ev (Ev.sub λb z=>z.elim id λ#[i,c,q,_]=>by simp at q))
   .cases l:F (ds.map .fz) []with
    |bad=>rw[l]at w;show w.elim
    |ok x U=>rw[l]at w;show λY H' e g v a=>Fm s w e g a
    |er x U=>
     rw[l]at w;intro c m Y H' e g k;let f:=λb o h=>e.kp b o h λ#[i,c,q,_]=>by simp at q
     show w c m X H' (WJ.same f) (s.grow f) (XOk.sub (λb z=>.inl z) k)
 .rw[ax hn]at w;show w.elim
def iW(c:yt K E o C):cX K E (nG (ei K n F) [] E0 o) (lH F n C):=by intro B σ H X Z ρ Q s b w;show c B σ H X Z ρ _ s b (w.bind.imp λxs T Z1 H1 f d a g e=>?_);rw[Vz];show GQ d e (WS.e0 a)
def RD(F:jr):FN:=λds=>match F (ds.map .fz) []with
 |.ok (.fz d) _=>.ok (.fz d)
 |.ok (.rf i) Z=>(match sh Z (.rf i)with
  |some (.list ds)=>.ok (.ow ds)
  |_=>.bad)
 |.ok (.tp _) _=>.bad
 |.er x _=>.er x
 |.bad=>.bad
def Q3(h:pG K n (RD F) vs H Q E):ei K n F vs H Q E:=by
 let(u,B,ds,A,G,w):=h;show#[u,B,[],[],ds.map .fz,CO A,mn _ _ (G.ev (Ev.sub λb z=>z.elim id λ#[i,c,q,_]=>by simp at q)),?_];unfold RD at w;cases N:F (ds.map .fz) []with
 |bad=>rw[N]at w;show w.elim
 |er x U=>rw[N]at w;intro c dx Y H' f j k;show w c dx H' (λb o h=>f.kp b o h λ#[i,c,q,_]=>by simp at q) (XOk.sub (λb z=>.inl z) k)
 |ok x U=>
  rw[N]at w;intro Y H' f j v m;let g:=λb o h=>f.kp b o h λ#[i,c,q,_]=>by simp at q
  cases x with
  |fz d=>show w v H' g (DV.ev (Ev.sub λb z=>.inl z) m)
  |tp l=>show w.elim
  |rf i=>
   dsimp only at w;cases L:sh U (.rf i)with
   |none=>rw[L]at w;show w.elim
   |some d=>
    rw[L]at w;cases d with
    |list I=>let(a,p,ha,C,y,t):=i8 j L;let(xs,r,_):=sX L;let(J,e,rfl):=m;rw[ha]at e;ext e;show w a p H' g ((f.lv a #[i,_,ha,r,by intro z;ext z]).elim (λ#[i,c,q,_]=>by simp at q) id) C (y.ev (Ev.sub λb z=>z.elim (λz=>.inl z) λz=>by rw[z];show t))
    |_=>show w.elim
end
def cD(P:Vn)(w:VJ)(K:UN)(d:Str->I B)(base:Heap)(a:yw)(k:Nat)(C m:Str)(c:G Str)(sp:Sp):Prop:=
 ∃b f fd,Vp K Vj C=R (R (.ref b))/\Cls K b/\Meth K b m f/\FnOk P w K d base a k f fd c sp/\Binds K fd c []
def zr(P:Vn)(w:VJ)(K:UN)(d:Str->I B)(base:Heap)(a:yw)(k:Nat)(C:Str)(c:G Str)(sp:Sp):Prop:=
 ∃b f fd,Vp K Vj C=R (R (.ref b))/\d C=R (.ref b)/\Mk K b f/\FnOk P w K d base a k f fd c sp/\Binds K fd c []
def xI(K:UN)(C m:Str)(sp:Sp)(E:XK)(b:TE)(t:TA):TE:=λa H Q=>∃d,Vp K Vj C=R (R (.ref d))/\wW d m sp [] E b t a H Q
def Bb(K:UN)(C:Str)(sp:Sp)(E:XK)(t:TA):TE:=λa H Q=>∃b,Vp K Vj C=R (R (.ref b))/\Ad b sp [] E t a H Q
section
variable{X:Cx}{Y:yw}{E:XK}{k j:Nat}{C m:Str}{ps:bg Str}{A:Sp}{o e:V8}{N:bg V8}{U:TE}{t:TA}{Z T p:Pos}
def E3(M:cD X.prog X.w X.K X.mg X.base Y k C m ps A)(l:gF Y X E)(q:Xu j X.A)(r:PE X o U)(c:PA X (e::N) t)(d:k<=j:=by decide)
  (dW:Vt (e::N) X.env=(U0,eval e X.env)::Vt N X.env:=by rfl) (b:(backTo T (Vt N X.env)).any (·.1)=U0:=by rfl)
  (n:eval (.Call (.Attribute o m Z) (e::N) [] T) X.env=(do
   let ov<-eval o X.env
   standAt Z.atName
   let(f,first)<-holding [ov] (getMethod ov m pl)
   callWith T f first (backTo T (Vt (e::N) X.env)) (backToKw T (keywordEach [] X.env))):=by rfl):PE X (.Call (.Attribute o m Z) (e::N) [] T) (xI X.K C m A E U t):=by
 let(J,f,F,B,z,y,v,u):=M;intro a s i H Q I #[G,g,h];rw[B]at g;ext g;show Lk r z y v (q.mono d) u .nil l c dW b n a s i H Q I h
def Jq(M:cD X.prog X.w X.K X.mg X.base Y k C m ps A)(i:gF Y X E)(n:Xu j X.A)(q:PE X o U)(b:k<=j:=by decide)
  (l:eval (.Call (.Attribute o m Z) [] [] T) X.env=(do
   let J<-eval o X.env
   standAt Z.atName
   let(f,first)<-holding [J] (getMethod J m pl)
   callWith T f first (backTo T (Vt [] X.env)) (backToKw T (keywordEach [] X.env))):=by rfl):PE X (.Call (.Attribute o m Z) [] [] T) (xI X.K C m A E U pK):=by
 let(G,f,B,z,y,v,u,r):=M;intro a s g H Q I #[F,d,h];rw[z]at d;ext d;show HC q y v u (n.mono b) r .nil i l a s g H Q I h
def NJ(M:zr X.prog X.w X.K X.mg X.base Y k C ps A)(n:gF Y X E)(q:Xu j X.A)(c:PA X (e::N) t)(d:k+1<=j:=by decide)(r:Gl X C:=by rfl)
  (g:(C==("__debug__":Str))=U0:=by decide) (u:Vt (e::N) X.env=(U0,eval e X.env)::Vt N X.env:=by rfl) (b:(backTo T (Vt N X.env)).any (·.1)=U0:=by rfl):
  PE X (.Call (.Name C p) (e::N) [] T) (Bb X.K C A E t):=by
 let(L,f,G,F,B,z,y,v):=M;intro a s l H Q I #[J,i,h];rw[F]at i;ext i;show Nk z y (q.mono d) r B v .nil n c g u b a s l H Q I h
end
section
variable{K:UN}{E:XK}{C m:Str}{F:jr}{n:Nat}{to:TE}{Y:TA}{U:cZ}{X:Az}{L:bg Str}
def G3(a:ib K C L)(e:cX K E to U)(c:yt K E Y X):cX K E (xI K C m (ei K n F) E to Y) (t9 C m F n U X):=by let(f,a,_):=a;show λB b H α Z g Q s d w=>#[f,a,HW a e c B b H α Z g Q s d w]
def yO(a:ib K C L)(e:cX K E to U)(c:yt K E Y X):cX K E (xI K C m (ei K n F) E0 to Y) (bu C m F n U X):=by let(f,a,_):=a;show λB b H α Z g Q s d w=>#[f,a,Gc a e c B b H α Z g Q s d w]
def QZ(a:ib K C L)(c:yt K E Y X):cX K E (Bb K C (ei K n F) E Y) (G5 C F n X):=by let(e,a,_):=a;show λB b H α Z f Q s d w=>#[e,a,Lb a c B b H α Z f Q s d w]
def KO(a:ib K C L)(c:yt K E Y X):cX K E (Bb K C (ei K n F) E0 Y) (wz C F n X):=by let(e,a,_):=a;show λB b H α Z f Q s d w=>#[e,a,HR a c B b H α Z f Q s d w]
end
section
variable{ρ ρ1 Q:bC}{Z U Y T L:bh}{x y z:SV}{i n:Nat}{d dx X:D}{ds:bg D}{b:Bool}
def bf(h:ρ[i]?=R (R x)):aA i ρ Z=.ok x Z:=by ext aA;rw[h]
def ah(h:f (cR ρ)=.ok (.fz d,ρ')):aa f ρ Z=.ok (.fz d) Z:=by ext aa;rw[h]
def eS(h:f (cR ρ)=.ok (.ow ds,ρ')):aa f ρ Z=.ok (.rf Z.length) (Z++[.lst (ds.map .fz)]):=by ext aa;rw[h];rfl
def cx(h:f (cR ρ)=.ok (b,o)):cr f ρ Z=.ok b Z:=by ext cr;rw[h]
def uB(h:f (cR ρ)=.ok (ds,o)):pc f ρ Z=.ok ds Z:=by ext pc;rw[h]
def jH(g:e ρ Z=.ok (.rf i) U)(h:U[i]?=R (.obj C fs))(a:fs.lookup f=R x):bH C f e ρ Z=.ok x U:=by ext bH;rw[g,eH];dsimp only;rw[h];dsimp only;rw[av W,a];rfl
def b4(c:o ρ Z=.ok x U)(e:fb ρ U=.ok y Y)(a:m9 f x y Y=.ok z T):iU f o fb ρ Z=.ok z T:=by ext iU;rw[c,eH,e,eH,a]
def bL(h:f dx X=R (.fz d)):m9 f (.fz dx) (.fz X) Z=.ok (.fz d) Z:=by ext m9;show((RS.V4 Z (f dx X)).bind λa U=>mq U a)=_;rw[h];rfl
def qU(e:sh Z x=R dx)(a:sh Z y=R X)(h:f dx X=R (.fz d)):m9 f x y Z=.ok (.fz d) Z:=by ext m9;rw[e,a];show((RS.V4 Z (f dx X)).bind λg U=>mq U g)=_;rw[h];rfl
def Ip(c:sh Z x=S\/sh Z y=S)(g:k9 6 Z x=R dx)(a:k9 6 Z y=R X)(h:f dx X=R (.fz d))(hd:AJ d=P):m9 f x y Z=.ok (.fz d) Z:=by
 let e:((RS.V4 Z (k9 6 Z x)).bind λdx U=>(RS.V4 U (k9 6 U y)).bind λX Y=>(RS.V4 Y (f dx X)).bind λj T=>oM T j)=.ok (.fz d) Z:=by rw[g];show((RS.V4 Z (k9 6 Z y)).bind λX Y=>(RS.V4 Y (f dx X)).bind λj T=>oM T j)=_;rw[a];show((RS.V4 Z (f dx X)).bind λj T=>oM T j)=_;rw[h];show(if AJ d=P then RS.ok (SV.fz d) Z else RS.bad)=_;rw[av hd]
 ext m9;rcases c with c|c
 .rw[c];show e
 .rw[c];cases sh Z x<;>show e
theorem oV:∀ds:G D,aJ xy (ds.map .fz)=R ds
 |[]=>rfl
 |d::r=>by rw[Vf];ext aJ;rw[oV r];rfl
def cJ(h:Z[i]?=R (.lst (ds.map .fz))):sh Z (.rf i)=R (.list ds):=by ext sh;dsimp only;rw[h];dsimp only;rw[oV];rfl
def aW(h:o ρ Z=.ok (.fz (.bool b)) U):bt o ρ Z=.ok b U:=by ext bt;rw[h];rfl
def gO(h:o ρ Z=.ok P U)(k:fb ρ U=r):nX o fb ρ Z=r:=by ext nX;rw[h,eH,av W,k]
def gK(h:o ρ Z=.ok U0 U):nX o fb ρ Z=.ok U0 U:=by ext nX;rw[h,eH,ax Vg]
def vG(h:o ρ Z=.ok P U):wo o fb ρ Z=.ok P U:=by ext wo;rw[h,eH,av W]
def eW(h:o ρ Z=.ok U0 U)(k:fb ρ U=r):wo o fb ρ Z=r:=by ext wo;rw[h,eH,ax Vg,k]
def iK(h:o ρ Z=.ok b U):mX o ρ Z=.ok (!b) U:=by ext mX;rw[h];rfl
def mP(h:bt o ρ Z=.ok P U)(k:fb ρ U=r):yf o fb ρ Z=r:=by ext yf;rw[h,eH,av W,k]
def Fg(h:bt o ρ Z=.ok U0 U):yf o fb ρ Z=.ok (.fz (.bool U0)) U:=by ext yf;rw[h,eH,ax Vg]
def M9(h:c ρ Z=.ok P U)(k:o ρ U=r):Qa c o fb ρ Z=r:=by ext Qa;rw[h,eH,av W,k]
def Lz(h:c ρ Z=.ok U0 U)(k:fb ρ U=r):Qa c o fb ρ Z=r:=by ext Qa;rw[h,eH,ax Vg,k]
theorem aV:aX ρ Z=.ok [] Z:=W
def aw(c:o ρ Z=.ok x U)(a:fr ρ U=.ok xs Y):aq o fr ρ Z=.ok (x::xs) Y:=by ext aq;rw[c,eH,a,eH]
def uq(c:o ρ Z=.ok (ds.map .fz) U)(a:ds.length<=1000):kg o ρ Z=.ok (.fz (.tuple ds)) U:=by ext kg;rw[c,eH,UR,av a];ext Tq;rw[oV];rfl
def zD(c:o ρ Z=.ok xs U)(a:xs.length<=1000)(e:aJ xy xs=S)(f:aJ Tg xs=R l):kg o ρ Z=.ok (.tp l) U:=by ext kg;rw[c,eH,av a];ext Tq;rw[e];dsimp only;rw[f];rfl
def k8(e:o ρ Z=.ok xs U)(c:aJ (sh U) xs=R ds)(h:f ds=R (.fz d)):nt f o ρ Z=.ok (.fz d) U:=by ext nt;rw[e,eH];ext K5;rw[c];show((RS.V4 U (f ds)).bind λa U=>mq U a)=_;rw[h];rfl
def CK(e:o ρ Z=.ok (ds.map .fz) U)(c:ds.length=n)(a:F ds=.ok (.fz d)):jZ F n o ρ Z=.ok (.fz d) U:=by ext jZ;rw[e,eH];ext Aq;rw[UR,av c,oV];dsimp only;rw[a];rfl
def xG(e:o ρ Z=.ok (ds.map .fz) U)(c:ds.length=n)(a:F ds=.ok (.ow C)):jZ F n o ρ Z=.ok (.rf U.length) (U++[.lst (C.map .fz)]):=by ext jZ;rw[e,eH];ext Aq;rw[UR,av c,oV];dsimp only;rw[a];rfl
theorem lV:jB (RS.ok a Z)=.ok a Z:=W
def E6(e:o ρ Z=.ok (.rf i) U)(f:U[i]?=R (.obj C fs))(hm:fs.lookup m=S)(h:J ρ U=.ok xs Y)(c:(SV.rf i::xs).length=n)(g:F (.rf i::xs) Y=.ok x T):bu C m F n o J ρ Z=.ok x T:=by
 let a:nM U C m (.rf i)=P:=by ext nM;dsimp only;rw[f];dsimp only;rw[hm,aP W];rfl
 ext bu;rw[e,eH,av a,h,eH,av c,g];rfl
def Q8(e:o ρ Z=.ok xs U)(c:(SV.rf U.length::xs).length=n)(a:F (.rf U.length::xs) (U++[.obj C []])=.ok (.fz .none) Y):wz C F n o ρ Z=.ok (.rf U.length) Y:=by ext wz;rw[e,eH];ext wx;rw[av c,a,eH,av (show FB (.fz .none)=P from rfl)];rfl
def df(c:o ρ Z=.ok (.fz dx) U)(a:fb ρ U=.ok (.fz X) Y)(h:bE dx X=R (.fz d)):d6 o fb ρ Z=.ok (.fz d) Y:=by ext d6;rw[c,eH,a,eH];show bL h
def uW(a:fo ρ Z=.ok (.rf i) U)(g:U[i]?=R (.lst xs))(f:fe ρ U=.ok x Y)(c:Y[i]?=R (.lst ys))(e:ys.length<1000000):uM fo fe ρ Z=.ok (.fz .none) (Y.set i (.lst (ys++[x]))):=by
 let j:gm U (.rf i)=R (i,xs):=by ext gm;dsimp only;rw[g]
 let h:gm Y (.rf i)=R (i,ys):=by ext gm;dsimp only;rw[c]
 ext uM;rw[a,eH,j];show((fe ρ U).bind _)=_;rw[f,eH,h];show(if ys.length<1000000 then _ else _)=_;rw[av e]
def on(h:Z[i]?=R (.dct o)):i4 Z (.rf i)=R (i,o):=by ext i4;dsimp only;rw[h]
def Cf(a:o ρ Z=.ok x U)(hd:fd ρ U=.ok (.rf i) Y)(e:vK x=R k)(c:Y[i]?=R (.dct C)):zV neg o fd ρ Z=.ok (.fz (.bool ((kL C k).isSome !=neg))) Y:=by ext zV;rw[a,eH,hd,eH,e];show((RS.V4 Y (i4 Y (.rf i))).bind _)=_;rw[on c];rfl
def NA(hd:fd ρ Z=.ok (.rf i) U)(a:C ρ U=.ok x Y)(f:vK x=R k)(c:Y[i]?=R (.dct o))(e:kL o k=R y):wN fd C ρ Z=.ok y Y:=by ext wN;rw[hd,eH,a,eH,f];show((RS.V4 Y (i4 Y (.rf i))).bind _)=_;rw[on c];show RS.V4 Y (kL o k)=_;rw[e];rfl
def MY(a:C ρ Z=.ok y U)(hd:fd ρ U=.ok (.rf i) Y)(f:J ρ Y=.ok x T)(g:vK x=R k)(c:T[i]?=R (.dct o))(e:o.length<1000000):Av fd J C ρ Z=.ok (.nx ρ) (T.set i (.dct (k7 o k y))):=by ext Av;rw[a,eH,hd,eH,f,eH,g];show((RS.V4 T (i4 T (.rf i))).bind _)=_;rw[on c];show(if o.length<1000000 then _ else _)=_;rw[av e]
def Nw(hd:fd ρ Z=.ok (.rf i) U)(h0:U[i]?=R (.dct J))(a:C ρ U=.ok x Y)(f:vK x=R k)(c:Y[i]?=R (.dct o))(e:kL o k=R y):AN fd C ρ Z=.ok y (Y.set i (.dct (oz o k))):=by ext AN;rw[hd,eH,on h0];show((C ρ U).bind _)=_;rw[a,eH,f];show((RS.V4 Y (i4 Y (.rf i))).bind _)=_;rw[on c];show((RS.V4 Y (kL o k)).bind _)=_;rw[e];rfl
def Mu(hd:fd ρ Z=.ok (.rf i) U)(h:U[i]?=R (.dct o)):Dk fd ρ Z=.ok (.rf U.length) (U++[.lst (o.map (·.2))]):=by ext Dk;rw[hd,eH,on h];rfl
def Lr(hd:fd ρ Z=.ok (.rf i) U)(h:U[i]?=R (.dct o))(e:aJ CN (o.map (·.1))=R ns)(a:ns.length<64):wU fd ρ Z=.ok (.rf U.length) (U++[.lst ((l9 ns).map λi=>SV.fz (.int i))]):=by ext wU;rw[hd,eH,on h];show((RS.V4 U (aJ CN (o.map (·.1)))).bind _)=_;rw[e];show(if ns.length<64 then _ else _)=_;rw[av a]
def LW(a:C ρ Z=.ok x U)(h:xZ x=R o):zy C ρ Z=.ok (.rf U.length) (U++[.dct (oa [] o)]):=by ext zy;rw[a,eH,h];rfl
variable{J:FlS}{r:RS FlS}
def dk(h:f ρ Z=.ok (.nx ρ1) U)(k:g ρ1 U=r):aZ f g ρ Z=r:=by ext aZ;rw[h,eH];show k
def qV(h:f ρ Z=.ok (.rt x) U):aZ f g ρ Z=.ok (.rt x) U:=by ext aZ;rw[h];rfl
def gl(h:c ρ Z=.ok P U)(k:f ρ U=r):cH c f g ρ Z=r:=by ext cH;rw[h,eH,av W,k]
def jg(h:c ρ Z=.ok U0 U)(k:g ρ U=r):cH c f g ρ Z=r:=by ext cH;rw[h,eH,ax Vg,k]
def jM(h:f ρ Z=.ok x U):fR f ρ Z=.ok (.rt x) U:=by ext fR;rw[h];rfl
def gB(h:f ρ Z=.ok x U):b6 f ρ Z=.ok (.nx ρ) U:=by ext b6;rw[h];rfl
def qE(h:f ρ Z=.ok x U)(e:ρ.set i (R x)=ρ1):dI f (fT i) ρ Z=.ok (.nx ρ1) U:=by subst e;ext dI;rw[h];rfl
theorem iH:cL ρ Z=.ok (.nx ρ) Z:=W
def qN(h:fe ρ Z=.ok x U)(a:o ρ U=.ok (.rf i) Y)(j:Y[i]?=R (.obj C fs))(g:fs.length<100):gj C f o fe ρ Z=.ok (.nx ρ) (Y.set i (.obj C (fM f x fs))):=by
 let e:Hm Y C (.rf i)=R (i,fs):=by ext Hm;dsimp only;rw[j];dsimp only;rw[av W]
 ext gj;rw[h,eH,a,eH,e];show(if fs.length<100 then _ else _)=_;rw[av g]
def tT(h:f ρ Z=.ok x U)(k:frz 4 U x=R (d,Y)):sd f ρ Z=.ok (.fz d) Y:=by ext sd;rw[h,eH];ext O0;rw[k]
def kY(e:xs.map R++U8 (N - xs.length) S=ρ)(h:g ρ Z=.ok (.rt x) U):dL N g xs Z=.ok x U:=by subst e;ext dL;rw[h];rfl
def pS(e:xs.map R++U8 (N - xs.length) S=ρ)(h:g ρ Z=.ok (.nx ρ1) U):dL N g xs Z=.ok (.fz .none) U:=by subst e;ext dL;rw[h];rfl
end
section
variable{ρ U L:bC}{Z X Y J A:bh}{x y z:SV}{i n:Nat}{d u t:D}{ds:bg D}{b:Bool}
theorem mz(e:α->D)(f:α->SV)(Z:bh)(I:bC->Prop):∀(xs:G α) (ρ:bC) (a:G SV),I ρ->a.length+xs.length<=1000000->(∀x∈xs,∀ρ,I ρ->∃c,gt (.fz (e x)) ρ Z=.ok c Z/\ft c Z=.ok P Z/\fe c Z=.ok (f x) Z/\I c)->eU gt ft fe (xs.map e) ρ Z a=.ok (a++xs.map f) Z
 |[],ρ,a,_,_,_=>by show RS.ok a Z=_;rw[Yz,Vz]
 |x::r,ρ,a,h0,p,o=>by let(c,m,l,j,h):=o x U5 ρ h0;rw[Vd]at p;show((gt (.fz (e x)) ρ Z).bind _)=_;rw[m,eH,l,eH,av W,j,eH,av (),mz e f Z I r c _ h (by rw[UZ,YR];ext) λy g=>o y (U6 _ g),Vw];rfl
def xY(c:fi ρ Z=.ok ds X)(a:eU gt o fe ds (jq n C ρ) X []=.ok xs Y):oJ n C fi gt o fe ρ Z=.ok (.rf Y.length) (Y++[.lst xs]):=by ext oJ;rw[c,eH,a,lV,eH]
theorem xP(m:Nat):∀(ds:G D),sj (frz m) Z (ds.map .fz)=R (ds,Z)
 |[]=>rfl
 |d::r=>by rw[Vf];ext sj;rw[show frz m Z (.fz d)=R (d,Z) by ext m<;>rfl];dsimp only;rw[xP m r]
def sK(h:Z[i]?=R (.lst (ds.map .fz))):frz 4 Z (.rf i)=R (.list ds,Z.set i .dead):=by ext frz;rw[h];dsimp only;rw[xP]
def Bu(h:o ρ Z=.ok (.rf i) X)(a:X[i]?=R (.lst (ds.map .fz))):lC o ρ Z=.ok ds (X.set i .dead):=by ext lC;rw[h,eH,sK a];rfl
def Tv(N C:bC->bh->Prop)(T:SV->bh->Prop):RS FlS->Prop
 |.ok (.nx ρ) Z=>N ρ Z
 |.ok (.ct ρ) Z=>C ρ Z
 |.ok (.rt v) Z=>T v Z
 |_=>False
structure Zq(r:RS FlS)(N C:bC->bh->Prop)(T:SV->bh->Prop):Prop where
 out:Tv N C T r
variable{f g:eK}{Q:cZ}{N C:bC->bh->Prop}{T:SV->bh->Prop}
def Zq.eq(e:r=r')(h:Zq r' N C T):Zq r N C T:=by rw[e];show h
def uK(h:Zq (f ρ Z) (λr o=>Zq (g r o) N C T) C T):Zq (aZ f g ρ Z) N C T:=by
 show#[?_];let h:=h.out;ext aZ;cases q:f ρ Z with
 |bad=>rw[q]at h;show h.elim
 |er x o=>rw[q]at h;show h.elim
 |ok a o=>
  rw[q]at h;cases a with
  |nx r=>show(show Zq (g r o) N C T from h).out
  |ct r=>show h
  |rt v=>show h
  |bk r=>show h.elim
def AZ(h:c ρ Z=.ok b X)(a:b=P->Zq (f ρ X) N C T)(e:b=U0->Zq (g ρ X) N C T):Zq (cH c f g ρ Z) N C T:=by
 ext cH;rw[h,eH];cases b with
 |true=>show a W
 |false=>show e W
theorem uy(e:c ρ Z=.ok P X)(a:Zq (f ρ X) N C T):Zq (cH c f g ρ Z) N C T:=AZ e (λ_=>a) λh=>by ext h
theorem eZ(e:c ρ Z=.ok U0 X)(a:Zq (g ρ X) N C T):Zq (cH c f g ρ Z) N C T:=AZ e (λh=>by ext h) λ_=>a
def PF(e:Q ρ Z=.ok x X)(a:gt x ρ X=.ok U Y)(h:N U Y):Zq (dI Q gt ρ Z) N C T:=by show#[?_];ext dI;rw[e,eH,a,eH];show h
theorem pP(a:f ρ Z=.ok (.nx U) X)(h:N U X):Zq (f ρ Z) N C T:=#[by rw[a];show h]
theorem RY(a:f ρ Z=.ok (.rt x) X)(h:T x X):Zq (f ρ Z) N C T:=#[by rw[a];show h]
theorem jw(a:Q ρ Z=.ok x X)(h:N ρ X):Zq (b6 Q ρ Z) N C T:=pP (gB a) h
theorem PZ(a:Q ρ Z=.ok x X)(h:T x X):Zq (fR Q ρ Z) N C T:=RY (jM a) h
theorem Lc(h:T (.fz .none) Z):Zq (wO ρ Z) N C T:=#[h]
theorem mF(h:N ρ Z):Zq (cL ρ Z) N C T:=#[h]
theorem kK{gt:wb}(e:Q ρ Z=.ok x X)(a:gt x ρ X=.ok U Y)(h:Zq (g U Y) N C T):Zq (aZ (dI Q gt) g ρ Z) N C T:=uK (PF e a h)
theorem E1(a:f ρ Z=.ok (.nx U) X)(h:Zq (g U X) N C T):Zq (aZ f g ρ Z) N C T:=uK (pP a h)
theorem mH(a:Q ρ Z=.ok x X)(h:Zq (g ρ X) N C T):Zq (aZ (b6 Q) g ρ Z) N C T:=uK (jw a h)
def zC{h a:eK}(m:c ρ Z=.ok b X)(j:b=P->Zq (aZ h g ρ X) N C T)(l:b=U0->Zq (aZ a g ρ X) N C T):Zq (aZ (cH c h a) g ρ Z) N C T:=by
 let e:aZ (cH c h a) g ρ Z=if b=P then aZ h g ρ X else aZ a g ρ X:=by unfold aZ cH;rw[m,eH];ext b<;>rfl
 show .eq e ?_;cases b with
 |true=>show j W
 |false=>show l W
theorem yF{a l:eK}(j:c ρ Z=.ok P X)(e:Zq (aZ a g ρ X) N C T):Zq (aZ (cH c a l) g ρ Z) N C T:=zC j (λ_=>e) λh=>by ext h
theorem vf{l a:eK}(j:c ρ Z=.ok U0 X)(e:Zq (aZ a g ρ X) N C T):Zq (aZ (cH c l a) g ρ Z) N C T:=zC j (λh=>by ext h) λ_=>e
theorem yK(h:T (.fz .none) Z):Zq (aZ wO g ρ Z) N C T:=uK (Lc h)
theorem oU(h:Zq (g ρ Z) N C T):Zq (aZ cL g ρ Z) N C T:=uK (mF h)
def Pf{a e:eK}(h:Zq (aZ a (aZ e g) ρ Z) N C T):Zq (aZ (aZ a e) g ρ Z) N C T:=by
 show .eq ?_ h;ext aZ;cases a ρ Z with
 |bad=>rfl
 |er x o=>rfl
 |ok j o=>ext j<;>rfl
def OT(a:xs.map R++U8 (n - xs.length) S=ρ)(h:Zq (g ρ Z) (λ_ c=>T (.fz .none) c) (λ_ _=>False) T):∃x c,dL n g xs Z=.ok x c/\T x c:=by
 let h:=h.out;ext dL;rw[a];cases q:g ρ Z with
 |bad=>rw[q]at h;show h.elim
 |er x o=>rw[q]at h;show h.elim
 |ok e o=>
  rw[q]at h;cases e with
  |nx r=>show#[_,_,W,h]
  |ct r=>show h.elim
  |rt v=>show#[_,_,W,h]
  |bk r=>show h.elim
def jF{W:bh->Prop}(a:xs.map R++U8 (n - xs.length) S=ρ)(h:Zq (g ρ Z) (λ_ c=>SV.fz .none=v/\W c) (λ_ _=>False) (λr c=>r=v/\W c)):∃c,dL n g xs Z=.ok v c/\W c:=by let(x,c,l,j,e):=OT (T:=λr c=>r=v/\W c) a h;show#[c,by rw[l,j],e]
end
def Tf(Z:bh):AV->I D
 |.fz d=>R d
 |.rf i=>sh Z (.rf i)
def SC(F:jr):FN:=λds=>match F (ds.map .fz) []with
 |.ok (.fz d) _=>.ok (.fz d)
 |.ok (.rf i) Z=>(match sh Z (.rf i)with
  |some (.list ds)=>.ok (.ow ds)
  |_=>.bad)
 |.ok (.tp l) Z=>(match aJ (Tf Z) l with
  |some ds=>.ok (.fz (.tuple ds))
  |none=>.bad)
 |.er x _=>.er x
 |.bad=>.bad
section
variable{B O O':cg}{K:UN}{E:XK}{H T H1 H2:Hp}{U Y α1 α2:bg UX}{Z X Z1 Z2:bh}{σ:L2.St}{ρ:bC}{v:V}
def RA(s:VD B K H U Z)(h:AOk (ow B U Z) K H U v x)(e:Tf Z x=R d):L3.DV B K H v d:=by
 let sub:∀b,B b->ow B U Z b:=λb z=>.inl z;cases x with
 |fz n=>ext e;show DV.ev (Ev.sub sub) h
 |rf i=>
  let(a,p,rfl):=h;let f:sh Z (.rf i)=R d:=e;let:∃ds,d=.list ds:=by
   unfold sh at f;dsimp only at f;split at f
   .rename_i xs _
    cases q:aJ xy xs with
    |none=>rw[q]at f;ext f
    |some ds=>rw[q]at f;ext f;show#[_,W]
   .ext f
  let(ds,rfl):=this;let(o,r,g,l,j,m):=i8 s f;rw[p]at g;ext g;show .lst #[Zp.of l,λz=>a6 p (s.ba a z i)] (j.ev (Ev.sub sub))
def QP(h:pG K n (SC F) vs H Q E):ei K n F vs H Q E:=by
 let(I,B,ds,L,P,w):=h;show#[I,B,[],[],ds.map .fz,CO L,mn _ _ (P.ev (Ev.sub λb z=>z.elim id λ#[i,c,q,_]=>by simp at q)),?_];unfold SC at w;cases qF:F (ds.map .fz) []with
 |bad=>rw[qF]at w;show w.elim
 |er x X=>rw[qF]at w;intro c dx Y T g m k;show w c dx T (λb o h=>g.kp b o h λ#[i,c,q,_]=>by simp at q) (XOk.sub (λb z=>.inl z) k)
 |ok x X=>
  rw[qF]at w;intro Y T g m v p;let j:=λb o h=>g.kp b o h λ#[i,c,q,_]=>by simp at q
  cases x with
  |fz d=>show w v T j (DV.ev (Ev.sub λb z=>.inl z) p)
  |tp l=>
   dsimp only at w;cases qs:aJ (Tf X) l with
   |none=>rw[qs]at w;show w.elim
   |some N=>rw[qs]at w;let(a,xs,rfl,A,C):=p;show w (.ref a) T j (.tup (A.ev (Ev.sub λb z=>.inl z)) (lU (dz (R:=AOk (ow B Y X) K T Y) (λv x y r e=>RA m r e) C qs)))
  |rf i=>
   dsimp only at w;cases qs:sh X (.rf i)with
   |none=>rw[qs]at w;show w.elim
   |some d=>
    rw[qs]at w;cases d with
    |list N=>let(a,t,ha,M,J,G):=i8 m qs;let(xs,u,_):=sX qs;let(S,f,rfl):=p;rw[ha]at f;ext f;show w a t T j ((g.lv a #[i,_,ha,u,by intro z;ext z]).elim (λ#[i,c,q,_]=>by simp at q) id) M (J.ev (Ev.sub λb z=>z.elim (λz=>.inl z) λz=>by rw[z];show G))
    |_=>show w.elim
end
end L10
namespace L10
open PySem PyProof.Rows L2 L3
section
variable{B O L:cg}{K:UN}{E:XK}{H J C A:Hp}{u T Q N:bg UX}{Z t U Y:bh}{r:L2.St}{X:bC}{v:V}
def qS{c fb:cZ}{y z:SV}{i:Nat}{n:Int}{xs:G SV}(f:c X Z=.ok (.rf i) U)(d:fb X U=.ok y Y)(e:FU y=R n)(a:Y[i]?=R (.lst xs))(b:lA xs n=R z):d6 c fb X Z=.ok z Y:=by ext d6;rw[f,eH,d,eH];ext Nm;simp only[a,e];show RS.V4 Y (lA xs n)=_;rw[b];rfl
end
end L10
namespace L10
open PySem PyProof.Rows L2 L3
section
variable{O Z:cg}{K:UN}{H X:Hp}{a b:UX}{U:bg V}{Y:Heap->Prop}
def Tm(a:M)(O:cg)(H:Hp)(Z:cg)(X:Hp):Prop:=∀b o,b≠a->H b=R o->¬O b->X b=R o/\¬Z b
def abX.evx(g:H a=R (.ext Y))(h:abX O K H b U)(e:Tm a O H Z X):abX Z K X b U:=by
 let(h,k):=h;by_cases z:O b
 .show#[Zp.same (mK X) (k z),λ_=>k z]
 .rcases h with(h|⟨o,h⟩)|h
  .let(f,d):=e b _ (λy=>by rw[y,g]at h;ext h) h z;show#[.inl (.inl f),λy=>a6 y d]
  .let(f,d):=e b _ (λy=>by rw[y,g]at h;ext h) h z;show#[.inl (.inr #[o,f]),λy=>a6 y d]
  .show#[.inr h,λ_=>.inr h]
def aay.evx(g:H a=R (.ext Y))(h:aay O K H b U)(e:Tm a O H Z X):aay Z K X b U:=by
 let(h,k):=h;by_cases z:O b
 .show#[(mK X).tup (k z),λ_=>k z]
 .rcases h with(h|⟨o,h⟩)|h
  .let(f,d):=e b _ (λy=>by rw[y,g]at h;ext h) h z;show#[.inl (.inl f),λy=>a6 y d]
  .let(f,d):=e b _ (λy=>by rw[y,g]at h;ext h) h z;show#[.inl (.inr #[o,f]),λy=>a6 y d]
  .show#[.inr h,λ_=>.inr h]
mutual
theorem DV.evx(f:H a=lD (.ext Y))(e:Tm a O H Z X):∀{v:V} {d:D},L3.DV O K H v d->L3.DV Z K X v d
 |_,_,.XN=>.XN
 |_,_,.bl b=>.bl b
 |_,_,.int i=>.int i
 |_,_,.str x=>.str x
 |_,_,.tup h hs=>.tup (aay.evx f h e) (WO.evx f e hs)
 |_,_,.lst h hs=>.lst (abX.evx f h e) (WO.evx f e hs)
theorem WO.evx(d:H a=lD (.ext Y))(e:Tm a O H Z X):∀{vs:bg V} {ds:bg D},L3.WO O K H vs ds->L3.WO Z K X vs ds
 |_,_,.nil=>.nil
 |_,_,.cons h hs=>.cons (DV.evx d e h) (WO.evx d e hs)
end
end
end L10
namespace L10
open PySem PyProof.Rows L2 L3
section
variable{B O A:cg}{K:UN}{E:XK}{H y L u:Hp}{Y J X C:bg UX}{Z Z' U Z2:bh}{N:L2.St}{T:bC}{v:V}
def si(n:String)(a:cZ):cZ:=λT Z=>(a T Z).bind λx U=>(RS.V4 U (k9 6 U x)).bind λd U=>(RS.V4 U (Ga d)).bind λt U=>.ok (.fz (.bool (KZ n t))) U
def pT(c:n= "int"\/n= "bool"\/n= "str"\/n= "list"\/n= "tuple")(i:cX K E o fa):cX K E (IK (NP K) (jb o (jb (tC (.ty n)) pK))) (si n fa):=by intro B N H Y Z T Q s f w;show i B N H Y Z T _ s f (w.bind.imp λx X U L h b a v g=>?_);let(d,q,a):=WS.V4 a;let(t,e,a):=WS.V4 a;show#[v,n,t,KZ n t,W,RZ (DV.x (kZ b 6 g q)) e,LS c e,WS.now b a (.bl _) (.bl _)]
def xf(h:o T Z=.ok x U)(hd:k9 6 U x=R d)(a:Ga d=R t):si n o T Z=.ok (.fz (.bool (KZ n t))) U:=by ext si;rw[h,eH,hd];show((RS.V4 U (Ga d)).bind _)=_;rw[a];rfl
def VD.ahf(s:VD (bV B p) K H Y Z)(l:c≠.dead)(g:H p≠S)(f:COk (ow (bV B p) Y Z) K H Y p c)(m:¬B p):VD B K H (Y++[p]) (Z++[c]):=by
 let r:ow (bV B p) Y Z=ow B (Y++[p]) (Z++[c]):=zP s.len l;let Q:=s.ba p (.inr W);let ev:Ev (ow (bV B p) Y Z) H (ow B (Y++[p]) (Z++[c])) H:=by rw[r];show λb o h n=>#[h,n]
 show#[by rw[UZ,UZ,s.len];rfl,λi j a d e=>?_,λa h=>s.bn a (.inl h),λa h i z=>?_,λi a h=>?_,λi a t d e=>?_]
 .rcases bM d with g1|⟨e1,e2⟩<;>rcases bM e with g2|⟨e3,e4⟩
  .show s.nd i j a g1 g2
  .rw[e4]at g1;show a6 g1 (Q i)
  .rw[e2]at g2;show a6 g2 (Q j)
  .omega
 .rcases bM z with z|⟨_,rfl⟩
  .show s.ba a (.inl h) i z
  .show m h
 .rcases bM h with h|⟨_,rfl⟩
  .show s.al i a h
  .show g
 .rcases bM e with e|⟨e2,rfl⟩
  .rcases bM d with d|⟨e1,rfl⟩
   .show(s.cel i a t d e).ev ev (λ_ _ h=>e9 h) λ_ q=>q
   .let:=(UP.mp e).1;rw[<-s.len]at this;ext
  .rcases bM d with d|⟨e1,rfl⟩
   .let:=(UP.mp d).1;rw[s.len]at this;ext
   .show f.ev ev (λ_ _ h=>e9 h) λ_ q=>q
end
end L10
namespace L3
open PySem L2
structure NI(K:UN)(f:M)(n:Str)(t:Xx):Prop where
 a:Vp K Vj n=R (R (.ref f))
 F:∃fd,Yp K n n t f fd
structure MI(K:UN)(C f:M)(m q:Str)(t:Xx):Prop where
 a:VP K (.ref C) m=R (R (.ref f))
 i:Ya K (.ref f)=P
 F:∃fd,Yp K m q t f fd
structure CI(K:UN)(C:M)(n:Str)(fs:G Str):Prop where
 a:Vp K Vj n=R (R (.ref C))
 pg:YF K C Str.empty=P
 hd:XS K C=P
 po:abi K C=P
 sa:VP K (.ref C) "__setattr__"=R (R (.builtin "object.__setattr__"))
 mm:abS K C=P
 kc:WM K (.ref C)=P
 fl:∀x∈fs,ZL K C x
def BA(n q:Str)(t:Xx)(c:G Str):Prop:=∀(kV b d:B) (e:I M) (f ct:B) (a:G B),a.length=c.length->bindArgs (Wz n q (gu t) (cI t) (aI t) .none kV b d e f ct) #[a,[]]=pure (c.zip a)
section
variable{P:Vn}{w:VJ}{K:UN}{Y:Str->br UQ}{base h:Heap}{f C:UX}{n m q:Str}{t:Xx}{U fs:bg Str}{Z k:Nat}{T Q:Sp}
theorem CI.cls(c:CI K C n fs):Cls K C:=#[c.pg,c.hd,c.po,c.sa]
theorem CI.cf(c:CI K C n fs):L10.ib K n fs:=#[C,c.a,c.cls,c.fl]
theorem NI.cal(i:NI K f n t)(X:K.In h)(G:h.Ns Vj Y)(b:BA n n t U)(ok:∀fd,Yp K n n t f fd->FnOk P w K Y base dR Z f fd U T):zm P w K Y base Z n U T:=
 let#[fd,z]:=i.F;#[f,fd,ok fd z,z.binds b,z.kp,Xl X G i.a]
def NI.law(i:NI K f "law" t)(X:K.In h)(G:h.Ns Vj Y)(b:Y "law"=R (.ref fa))(o:BA "law" "law" t [x])(ok:∀base fd,Yp K "law" "law" t f fd->FnOk P w K Y base dR Z f fd [x] T):∃fd:We,(∀(s:UY) (v:B),aaZ s fd #[[v],[]] [(x,v)])/\∀base:Heap,K.In base->base.Ns Vj Y->FnOk P w K Y base dR Z fa fd [x] T:=by let e:=b.symm.trans (Xl X G i.a);ext e;let(fd,z):=i.F;let(y,u,kV,d,g,p,r,ct,j,rfl,A,l):=z.ex;show#[_,λs v=>.of_eq (o kV d g p r ct [v] W),λbase _ _=>ok base _ z]
def El(a:Xu k A):A.units+65<cLine:=by let:=a.un;ext
theorem Dj(p:SO K E u g)(h:PSs X b u):∃t,PSs X b t/\SO K E t g:=#[_,h,p]
theorem Bm(p:L10.nr K E u g)(h:PSs X b u):∃t,PSs X b t/\L10.nr K E t g:=#[_,h,p]
theorem mY{x a:Str}{b:Xx}{fd:We}{N:G Str}{n m:Nat}{g:FS}{i:FN}(F:Yp K x a b f fd)(S:XU N U (aI b))(c:U.length=n)(hm:N.length=m)(j:i=gG m g)
  (l:∀(d:B) (A:Vx) (outer:G Env) (s:UY) (H:Hp) (E:XK),N.Nodup->Xu k (A.deeper (Vv a (aI b) s.heap.objs.size f d))->(A.deeper (Vv a (aI b) s.heap.objs.size f d)).units+64<cLine->(A.deeper (Vv a (aI b) s.heap.objs.size f d)).units+1<cLine->(A.deeper (Vv a (aI b) s.heap.objs.size f d)).units+65<cLine->
   ∃t,PSs (gM dR P w K Y base N a (aI b) f d A outer s H E).nox (cI b) t/\SO K E t g):FnOk P w K Y base dR (k+1) f fd U (pG K n i):=
 Uv F S c hm j λd A outer s H E e=>l d A outer s H E S.nd e e.units (D6 e) (El e)
theorem jR{n m:Nat}(F:Yp K x qual st f fd)(S:XU N U (aI st))(c:U.length=n)(hm:N.length=m)(d:o=L10.dL m g)
  (e:∀(a:B) (A:Vx) (outer:G Env) (s:UY) (H:Hp) (E:XK),N.Nodup->Xu k (A.deeper (Vv qual (aI st) s.heap.objs.size f a))->(A.deeper (Vv qual (aI st) s.heap.objs.size f a)).units+64<cLine->(A.deeper (Vv qual (aI st) s.heap.objs.size f a)).units+1<cLine->(A.deeper (Vv qual (aI st) s.heap.objs.size f a)).units+65<cLine->
   ∃t,PSs (gM dR P w K Y base N qual (aI st) f a A outer s H E).nox (cI st) t/\L10.nr K E t g):FnOk P w K Y base dR (k+1) f fd U (L10.ei K n o):=
 L10.UB F S c hm d λa A outer s H E b=>e a A outer s H E S.nd b b.units (D6 b) (El b)
theorem Ly{W:M}{a:Array B}{d:Nat}{ss:Array (I B)}{xs:G V}{ds:G D}(l:K.lookup W=R #[.type "tuple",S,.seq a d,ss])(c:a.size<=Vb)(b:Vals xs a.toList)(hd:∀O H,WO O K H xs ds):∀O H,DV O K H (.ref W) (.tuple ds):=λO H=>
 .tup (xs:=xs) #[.inr #[_,_,_,l,#[rfl,rfl],rfl,c,b],λ_=>.inr #[_,_,_,l,#[rfl,rfl],rfl,c,b]] (hd O H)
end
end L3
namespace L10R
open PySem PySem.Calls PyProof.Rows
def QY:typeLookup (.type "list_reverseiterator") "__len__"=pure S:=by rw[abe,Zd];kernel_rfl
def Gb:typeLookup (.type "list_reverseiterator") "__length_hint__"=pure (R (.builtin "list_reverseiterator.__length_hint__")):=by rw[abe,Zd];kernel_rfl
section
variable{Y:Vn}{w:VJ}{A:Vx}{E:UQ->UY->Prop}{s:UY}{r l:UX}{items:Array UQ}
def Kx{Q:Bool->UY->Prop}(d:s.TypeIs (.ref r) "list_reverseiterator")(h:Q U0 s):wpAny (model Y w) A (Builtin.List.listLengthHint (.ref r)) Q E s:=by
 ext Builtin.List.listLengthHint;show Ld (ZH d QY ?_);dsimp only;show YC (λa=>a6 a ()) (λ_=>?_);show YC (λa=>a6 a ()) (λ_=>?_);show Ld (ZH d Gb ?_);generalize e:("list_reverseiterator.__length_hint__":String)=f
 wp_delta
 rw[show splitId f=R ("list_reverseiterator","__length_hint__")from by subst e;left];subst e;show Ld (aaO (T:= "list_reverseiterator") (b:=P) d (by rw[akq];kernel_rfl) ?_);show YC (λa=>a6 a ()) (λ_=>?_);show YC (λ_=>?_) (λa=>a6 (by left) a);show YC (λa=>a6 a (by left)) (λ_=>?_);show UT h
def Ch{R:aaY->UY->Prop}(C:A.handled=UO)(m:l≠r)(B:s.heap.IsList l items)(h:s.heap.IsRevIter r l ((items.size:Int) - 1))(S:M)(g:S≠r)(t:S≠l)(res:UQ)(a:Nat)(H:s.heap.get? S=lD {cls:=.type "list",data:=.seq #v[] a})
  (I:∀D F c x,(∀b o,b≠S->b≠r->s.heap.get? b=lD o->D.get? b=lD o)->D.get? S=lD {cls:=.type "list",dict:=UO,data:=.seq c x,slots:= #v[]}->aaQ (λi v=>items[items.size - 1 - i]?=lD v) c items.size->R (.ok (.ret res)) {s with heap:=D,toks:=F}) (N:items.size<=Vb):
  wpAny (model Y w) A.in1 (Builtin.List.listExtendWith (.ref S) (.ref r) res)
   (λfin k=>match fin with|.done f=>R (.ok f) k|.again x=>x.quiet=P/\codeAny (model Y w) A x R k) (λe k=>R (.error e) k) s:=by
 let q:S∉[r,l]:=by simp only[Vm,Ww,or_false,not_or];show#[g,t]
 let W:=afN.listRev (prog:=Y) (w:=w) (A:=A.in1) C r l m items;let z:0<=items.size/\s.heap.IsRevIter r l ((items.size:Int) - 1 - ((0:Nat):Int))/\s.heap.IsList l items:=#[VF _,by rw[show(items.size:Int) - 1 - ((0:Nat):Int)=(items.size:Int) - 1 by ext];show h,B];let j:codeAny (model Y w) A (.builtin "list.extend.loop" #[[.ref S,.ref r,res],[]]) R s:=by
  show codeAny_extend_loopS W.toS N S q res items.size 0 _ #v[] a rfl (VF _) z H (aaQ.nil _) λk c x hm u y=>?_;rw[Moved.eq_with hm];show I k.heap k.toks c x (λb o G n e=>hm.heap b o (λd=>?_) e) u y;rcases Vm.mp d with Q|d
  .show G Q
  .show n (U9.mp d)
 ext Builtin.List.listExtendWith;show Ld (XZ (T:= "list_reverseiterator") h.typeIs ?_);let L:Builtin.List.listSameRef (.ref S) (.ref r)=U0:=by simp[Builtin.List.listSameRef,g]
 let K:(UQ.type "list_reverseiterator"==UQ.type "list")=U0:=by left
 let J:(UQ.type "list_reverseiterator"==UQ.type "tuple")=U0:=by left
 simp only[L,K,J,ac5,VN,if_false];show Ld (wpAny_pyIter_revIter h ?_);show Ld (Wa (Kx h.typeIs ?_));show YC (λp=>a6 p (by left)) (λ_=>UT #[W9 PySem.F.plain_extend_loop _,j])
def Ic{R:aaY->UY->Prop}(B:A.handled=UO)(m:l≠r)(y:s.heap.IsList l items)(u:s.heap.IsRevIter r l ((items.size:Int) - 1))(S:M)(g:S≠r)(h:S≠l)(q:s.heap.get? S=lD {cls:=.type "list",data:=.seq #v[]})
  (C:∀x F c k,(∀b o,b≠S->b≠r->s.heap.get? b=lD o->x.get? b=lD o)->x.get? S=lD {cls:=.type "list",dict:=UO,data:=.seq c k,slots:= #v[]}->aaQ (λi v=>items[items.size - 1 - i]?=lD v) c items.size->R (.ok (.ret .none)) {s with heap:=x,toks:=F}) (J:items.size<=Vb):
  wpAny (model Y w) A.in1 (Builtin.«list.__init__» #[[.ref S,.ref r],[]])
   (λfin D=>match fin with|.done f=>R (.ok f) D|.again k=>k.quiet=P/\codeAny (model Y w) A k R D) (λe D=>R (.error e) D) s:=by
 show wpAny _ _ (do let old<-Builtin.List.listItems (.ref S);Builtin.List.listUpdate (.ref S) (λ_=> #v[]);letGo old.toList.reverse;Builtin.List.listExtendWith (.ref S) (.ref r) .none) _ _ s;show Ld ?_;ext Builtin.List.listItems;show Ld (Wj q W (UT ?_));show wpAny _ _ (updateSeq S (λ_=> #v[])>>=λ_=>letGo (#v[]:Array UQ).toList.reverse>>=λ_=>Builtin.List.listExtendWith (.ref S) (.ref r) .none) _ _ s;show Ld (abf q W ?_);let d:=da (Obj.mapSeq (λ_=>(#v[]:Array UQ))) q W
 let a:∀b o,b≠S->s.heap.get? b=lD o->(s.heap.update S (Obj.mapSeq (λ_=>(#v[]:Array UQ)))).get? b=lD o:=
  λb o j e=>(cw _ _ (ef j)).trans e
 show Ld (Ym ?_);show Ch B m (y.at λo e=>a l o h.symm e) (u.at λo e=>a r o g.symm e) S g h .none _ d (λx F c k z p t=>?_) J;show C x F c k (λb o j n e=>z b o j n (a b o j e)) p t
def ae8{Q:B->UY->Prop}(u:A.handled=S)(f:l≠r)(m:s.heap.IsList l items)(j:s.heap.IsRevIter r l ((items.size:Int) - 1))(D:items.size<=Vb)
  (z:∀k x c C,(∀b o,b≠r->s.heap.get? b=R o->k.get? b=R o)->k.get? s.heap.objs.size=R {cls:=.type "list",dict:=S,data:=.seq c C,slots:= #v[]}->aaQ (λi v=>items[items.size - 1 - i]?=R v) c items.size->Q (.ref s.heap.objs.size) {s with heap:=k,toks:=x}):
  wpAny (model Y w) A (call (.type "list") [.ref r]) Q E s:=by
 show aks (Q₁:=λobj a=>obj=.ref s.heap.objs.size/\a={s with heap:=s.heap.push {cls:=.type "list",data:=.seq #v[]}}) PySem.F.called_list (PySem.F.typeCall_list_1 _) PySem.F.entry_list_init
  (code_list_new _ #[W,W]) λobj a d=>?_
 let(rfl,rfl):=d;let n:(s.heap.push {cls:=.type "list",data:=.seq #v[]}).get? s.heap.objs.size=R {cls:=.type "list",data:=.seq #v[]}:=cv _ W;let p:r<s.heap.objs.size:=by let(o,e,_):=j;show cn e
 let q:l<s.heap.objs.size:=by let(o,e,_):=m;show cn e
 show#[#[_,n,W],PySem.F.args_list_init_2 _ _,Ic (A:=A.in1) u f (m.at λo e=>bP _ e) (j.at λo e=>bP _ e) _ (Wd p) (Wd q) n (λk x c C t g h=>?_) D];show#[W,z k x c C (λb o y e=>t b o (Vk (cn e)) y (bP _ e)) g h]
end
end L10R
namespace L2
open PySem PySem.Spec PyProof.Rows
section
variable{X:Cx}{e:V8}{Z:TE}{p q p1 Y:Pos}
def AG(K:UN)(Z:TE):TE:=λd H Q=>Z d H λx b=>∃a xs,x=.ref a/\Y4 K b a xs/\∀l,b l=S->Q (.ref l) (bJ b l (.lst xs.reverse))
def B5:Wb "reversed"=R (.type "reversed"):=by rfl
def FC{xs:G V}{us:G B}(h:Vals xs us):Vals xs.reverse us.reverse:=by
 induction h with
 |nil=>show .nil
 |cons h _ a=>rw[WE,WE];show a.append (.cons h .nil)
def FY{items a:Array B}(h:aaQ (λi v=>items[items.size - 1 - i]?=R v) a items.size):a.toList=items.toList.reverse:=by
 apply List.ext_getElem?;intro j;by_cases b:j<items.size
 .let d:j<a.size:=by rw[h.1];show b
  let e:=h.2 j _ (Xd d);rw[VU,Xd d,List.getElem?_reverse (by rw[Vl];show b),Vl,VU];show e.symm
 .rw[aaK (by rw[Vl,h.1];ext),aaK (by rw[Xz,Vl];ext)]
def Ht{a:G (M×Obj)}{i:St}{H:Hp}{s:UY}{e:M}{o:HO}(I:Inv X a i H s)(f:oZ X a H e)(v:X.s₀.heap.get? e=S)(new:ObjOk X.prog X.w (bJ H e o) s.heap e o):Inv X a i (bJ H e o) s:=by
 let(ne,m,_,_,t,h):=f;let l:∀b o,X.s₀.heap.get? b=R o->b≠e:=λb o z y=>by rw[y,v]at z;ext z
 let d:∀b o,H b=R o->b≠e:=λb o z y=>by rw[y,ne]at z;ext z
 let B:=I.base;show#[I.ok,I.os,I.bare,#[B.keep,B.slot,λb o z n x=>?_,B.there,λb xs z=>?_,λb o u z=>?_,λb A z=>?_],I.loc,I.cell,?_,λx c z=>?_,λp j=>?_,λb u z=>?_,I.len]
 .rw[aF (l b o z)];show B.free b o z n x
 .let:=B.abI b xs z;rw[aF (d b _ this)];show this
 .let:=B.abp b o u z;rw[aF (d b _ this)];show this
 .let(g,y):=B.abH b A z;show#[g,by rw[aF (d b _ y)];show y]
 .rw[aF m.symm];show I.free
 .rw[aF (t x c z)];show I.YE x c z
 .let(z,n,r):=I.pin p j;show#[z,by rw[aF (h p j)];show n,r]
 .by_cases y:b=e
  .subst y;rw[aO]at z;ext z;show new
  .rw[aF y]at z;show(I.Wn b u z).aaf (λ_ _ _ y=>y) (λc y=>by rw[aF (d c _ y)];show y) λc xs y=>by rw[aF (d c _ y)];show y
def Cs(T:X.calm=US)(B:Gl X "list")(y:X.mg "list"=UO)(A:Gl X "reversed")(w:X.mg "reversed"=UO)(S:PE X e Z)
  (G:Vt [.Call (.Name "reversed" q) [e] [] Y] X.env=[(U0,eval (.Call (.Name "reversed" q) [e] [] Y) X.env)]:=by rfl) (k:Vt [e] X.env=[(U0,eval e X.env)]:=by rfl):
  PE X (.Call (.Name "list" p) [.Call (.Name "reversed" q) [e] [] Y] [] p1) (AG X.K Z):=by
 intro f s t H Q I h;show Xk (lX I B y uZ ?_);show WW ?_ G W;rw[G];show wpAny _ _ (spliced ((U0,eval (.Call (.Name "reversed" q) [e] [] Y) X.env)::[])) _ _ s;show Calls.spliced_cons ?_;show Xk (lX I A w B5 ?_);show WW ?_ k W;rw[k];show wpAny _ _ (spliced ((U0,eval e X.env)::[])) _ _ s;show Calls.spliced_cons (cT (S f s t H _ I h) λu d a=>?_);let(x,n,j,L,a,xs,ex,Pz0,Mz0):=a;show Calls.spliced_nil ?_;subst ex;obtain rfl:u=UQ.ref a:=L;let(g,rv,pl,F):=j.list Pz0;let v:=pl.isList;show call_reversed_list v (Calls.spliced_nil ?_);let O:a<d.heap.objs.size:=by let(o,e,_):=v;show cn e
 let m:Inv X f t n {d with heap:=d.heap.push (revObj a ((g.toArray.size:Int) - 1))}:=j.kept (t':=d.toks) λb o e=>bP _ e;let i:g.toArray.size<=Vb:=by rw[Va,<-rv.length];show F
 show L10R.ae8 (r:=d.heap.objs.size) (l:=a) (items:=g.toArray) (j.ok.hd T) (Vk O) (v.at λo e=>bP _ e) #[_,cv _ W,W,W] i λh' E C c R hL hi=>?_;let(f0,f1,J,f3,f4,f5):=j.adu (U1 d.heap.objs.size) (j.Wn.fresh (U1 _));let I3:Inv X f t n {d with heap:=h',toks:=E}:=Inv.turned (s:={d with heap:=d.heap.push (revObj a ((g.toArray.size:Int) - 1))}) (t':=E) (it:=d.heap.objs.size) m (λb o U e=>R b o U e) f0 f1 f3 f4 f5;let ea:=FY hi;let hn:n (d.heap.push (revObj a ((g.toArray.size:Int) - 1))).objs.size=UO:=m.Wn.fresh (U1 _);show#[.ref (d.heap.push (revObj a ((g.toArray.size:Int) - 1))).objs.size,_,?_,W,Mz0 _ hn];let J:=m.adu (H':=n) (U1 (d.heap.push (revObj a ((g.toArray.size:Int) - 1))).objs.size) hn;let N:X.s₀.heap.get? (d.heap.push (revObj a ((g.toArray.size:Int) - 1))).objs.size=UO:=by
  cases z:X.s₀.heap.get? (d.heap.push (revObj a ((g.toArray.size:Int) - 1))).objs.size with
  |none=>rfl
  |some o=>show a6 (Vo (cn z) m.sz) (Wi _)
 show Ht I3 J N #[by rw[Xz];show F,C.toList,c,by rw[ea];show FC rv,by rw[adL];show hL]
end
end L2
namespace L10
open PySem PySem.Spec PyProof.Rows L2 L3
section
variable{B O O':cg}{K:UN}{E:XK}{H H' U H2:Hp}{L C Y A:bg UX}{Z Z' T X:bh}{J:L2.St}{N:bC}{v:V}
def D7(a:cZ):cZ:=λN Z=>(a N Z).bind λx T=>(RS.V4 T (gm T x)).bind λp X=>.ok (.rf X.length) (X++[.lst p.2.reverse])
def OM{a:Type}{R:V->a->Prop}{c:G V}{xs:G a}(h:Paired R c xs):Paired R c.reverse xs.reverse:=by
 induction h with
 |nil=>show .nil
 |cons h t b=>rw[WE,WE];show tq b h
def GH{h:TE}{c:cZ}(o:cX K E h c):cX K E (AG K h) (D7 c):=by intro B J H L Z N Q s m w;show o B J H L Z N _ s m (w.bind.imp λx Y T U y b f u n=>?_);let((i,xs),q,f):=WS.V4 f;let(t,a,z,ha,rfl,r,p):=sV b n q;show#[a,z,W,Y4.of r,λl g=>?_];let j:WY U (bJ U l (.lst z.reverse)):=bO g _;let e:WJ Y T U (Y++[l]) (T++[.lst xs.reverse]) (bJ U l (.lst z.reverse)):=WJ.acz b.len j g;show f _ _ e (b.acz j g (by rw[aO];simp) #[_,aO,Paired.Zt (OM p) λ_ _ d=>d.Xt e]) _ #[l,by rw[<-b.len];show a9,W]
def MF{i:Nat}{c:cZ}{xs:G SV}(h:c N Z=.ok (.rf i) T)(a:T[i]?=R (.lst xs)):D7 c N Z=.ok (.rf T.length) (T++[.lst xs.reverse]):=by
 let b:gm T (.rf i)=R (i,xs):=by ext gm;dsimp only;rw[a]
 ext D7;rw[h,eH,b];rfl
def P1{i:Nat}{f:D->D->I RV}{c:cZ}{x y:SV}{z:SV}{Z3:bh}(a:N[i]?=R (R x))(d:c N Z=.ok y T)(b:m9 f x y T=.ok z X):Jb i f c N Z=.ok (.nx (N.set i (R z))) X:=by ext Jb;rw[bf a,eH,d,eH,b,eH]
end
end L10
namespace LD
open PySem PyProof.Rows L2 L3
def sr(xs:G (KD×M×V))(k:KD):I V:=(xs.find? λx=>decide (x.1=k)).map (·.2.2)
def oi(xs:G (KD×M×V))(k:KD)(b:M)(v:V):G (KD×M×V):=
 if(xs.find? λx=>decide (x.1=k)).isSome=P then xs.map (λx=>if x.1=k then(x.1,x.2.1,v)else x)else xs++[(k,b,v)]
abbrev RX:G (KD×M×V)->G (KD×M×B)->Prop:=Paired λx y=>x.1=y.1/\x.2.1=y.2.1/\RelV x.2.2 y.2.2
def Dr:∀{xs:G (KD×M×V)} {a:G (KD×M×B)},RX xs a->xs.map (·.1)=a.map (·.1):=by
 intro _ _ b
 induction b with
 |nil=>show W
 | @cons _ _ _ _ h t d=>rw[Vf,Vf,h.1,d]
def Ba:∀{xs:G (KD×M×V)} {a:G (KD×M×B)},RX xs a->ZJ (sr xs k) ((atKey a k).map (·.2)):=by
 intro _ _ b
 induction b with
 |nil=>unfold sr atKey;show trivial
 | @cons x y xs a h t d=>
  unfold sr atKey;rw[VY,VY,h.1];by_cases e:y.1=k
  .rw[aP e];show h.2.2
  .rw[a4 e];show d
def LZ:∀{xs:G (KD×M×V)} {a:G (KD×M×B)},RX xs a->(xs.find? λx=>decide (x.1=k)).isSome=(atKey a k).isSome:=by
 intro _ _ b
 induction b with
 |nil=>show W
 | @cons x y xs a h t d=>
  ext atKey;rw[VY,VY,h.1];by_cases e:y.1=k
  .rw[aP e];rfl
  .rw[a4 e];show d
def QH(r:RelV v u):∀{xs:G (KD×M×V)} {a:G (KD×M×B)},RX xs a->RX (xs.map λx=>if x.1=k then(x.1,x.2.1,v)else x) (a.map (putAt k u)):=by
 intro _ _ b
 induction b with
 |nil=>show .nil
 | @cons x y xs a h t d=>
  rw[Vf,Vf];show .cons ?_ (d);ext putAt;by_cases e:y.1=k
  .rw[av (h.1.trans e),av e];show#[h.1,h.2.1,r]
  .rw[ax (by rw[h.1];show e),ax e];show h
def MH(h:x.1=y.1/\x.2.1=y.2.1/\RelV x.2.2 y.2.2):∀{xs:G (KD×M×V)} {a:G (KD×M×B)},RX xs a->RX (xs++[x]) (a++[y]):=by
 intro _ _ b
 induction b with
 |nil=>show .cons h .nil
 | @cons _ _ _ _ g t d=>show .cons g (d)
def GM(r:RelV v u)(h:RX xs ys):RX (oi xs k b v) (storedH ys k b u):=by
 unfold oi storedH;rw[LZ h];split
 .show QH r h
 .show MH #[W,W,r] h
def rT(xs:G (KD×M×V))(k:KD)(b:M)(v:V):(oi xs k b v).length<=xs.length+1:=by
 ext oi;split
 .rw[UR];ext
 .rw[UZ];show U1 _
def xT(K:UN)(H:Hp)(xs:G (KD×M×V)):Prop:=∀x∈xs,L2.DV K H (.ref x.2.1) x.1.1
section
variable{X:Cx}{Z:bg (UX×Obj)}{Y:L2.St}{H:Hp}{s:UY}{a b:UX}{U:bg (KD×UX×V)}{k:KD}{v:V}{u r:UQ}{A:Vx}{E:UQ->UY->Prop}
def SH:∀{U:G (KD×M×V)} {c:G YN},Paired (λ(x:KD×M×V) (e:YN)=>e.hash=tU w x.1.1/\e.key=.ref x.2.1/\RelV x.2.2 e.val) U c->∃ys,RX U ys/\c=ys.map (entryOfKey (bB n w)):=by
 intro _ _ g
 induction g with
 |nil=>show#[[],.nil,W]
 | @cons x e _ _ o t p=>let(f,d,h):=o;let(ys,j,i):=p;show#[(x.1,x.2.1,e.val)::ys,.cons #[W,W,h] j,?_];rw[Vf,<-i];let(m,l,ev):=e;dsimp only at f d;subst f d;rfl
def Sc:∀{U:G (KD×M×V)} {d:G (KD×M×B)},RX U d->Paired (λ(x:KD×M×V) (e:YN)=>e.hash=tU w x.1.1/\e.key=.ref x.2.1/\RelV x.2.2 e.val) U (d.map (entryOfKey (bB g w))):=by
 intro _ _ f
 induction f with
 |nil=>show .nil
 | @cons _ _ _ _ h t i=>show .cons #[by rw[h.1];rfl,by rw[h.2.1];rfl,h.2.2] (i)
theorem oo(I:L2.Inv X Z Y H s)(h:L2.DV X.K H (.ref b) k.1):(bB X.prog X.w).is s.heap k b:=L2.DV.reads I h W
def zM(I:L2.Inv X Z Y H s)(e:H a=R (DkO a U))(i:xT X.K H U):U.length<=Vb/\(a==Xi)=U0/\∃ys,RX U ys/\s.heap.DictOfH (bB X.prog X.w) a ys:=by
 let(((z,j,nd),o,J,L,F,C,B,n),_):=(show ObjOk X.prog X.w H s.heap a (DkO a U)from I.Wn a _ e);let(ys,f,G):=SH n;show#[z,j,ys,f,o,J,L,F,C,B,G,?_,by rw[<-Dr f];show nd];let all:∀{l:bg (KD×M×V)} {m:bg (KD×M×UQ)},RX l m->(∀x∈l,L2.DV X.K H (.ref x.2.1) x.1.1)->∀y∈m,(bB X.prog X.w).is s.heap y.1 y.2.1:=by
  intro l m q
  induction q with
  |nil=>intro _ y d;show nomatch d
  | @cons p q ps T N t Q=>
   intro g y d;rcases Vm.mp d with e|d
   .subst e;let:=oo I (g p (U5 ..));rw[N.1,N.2.1]at this;show this
   .show Q (λx h=>g x (U6 _ h)) y d
 show all f i
def x4(z:U.length<=Vb)(hd:(a==Xi)=U0)(d:RX U ys)(dd:J.DictOfH (bB C w) a ys):ObjOk C w H' J a (DkO a U):=by let(o,e,f,g,m,l,j,t,i):=dd;show#[#[#[z,hd,by rw[Dr d];show i],o,e,f,g,m,l,by rw[j];show Sc d],#[o,g],?_];rintro B y ⟨q,o,e,f,p,n⟩ h;show#[q,o,e,f,h o p,n]
def sT(d:A.units+64<cLine):(bB X.prog X.w).room A.in1:=by show A.in1.units+8<cLine;rw[Vx.in1_units];ext
def Px(l:A.units+64<cLine)(I:L2.Inv X Z Y H s)(e:H a=R (DkO a U))(n:xT X.K H U)(o:L2.DV X.K H (.ref b) k.1)(g:sr U k=R v)(h:∀c x,L2.Inv X Z Y H x->RelV v c->Q c x):
  wpAny (model X.prog X.w) A (getItem (.ref a) (.ref b)) Q E s:=by
 let(z,t,q,f,dd):=zM I e n;let(c,j,d):=ZJ.some_of (by rw[<-g];show Ba f);let(p,m,i):=ac6.mp j;show agE (sT l) (oo I o) dd m ?_;rw[i];show h c _ (I.tok _) d
def SZ(f:A.units+64<cLine)(I:L2.Inv X Z Y H s)(e:H a=R (DkO a U))(g:xT X.K H U)(j:L2.DV X.K H (.ref b) k.1)(h:∀c,L2.Inv X Z Y H c->Q (.bool (sr U k).isSome) c):
  wpAny (model X.prog X.w) A (W2 .In (.ref b) (.ref a)) Q E s:=by
 let(z,i,l,d,dd):=zM I e g;show amn (sT f) (oo I j) i dd ?_;let q:=(Ba (k:=k) d).ZR;rw[ZG]at q;rw[<-q];show h _ (I.tok _)
def Q0(f:A.units+64<cLine)(I:L2.Inv X Z Y H s)(e:H a=R (DkO a U))(g:xT X.K H U)(j:L2.DV X.K H (.ref b) k.1)(h:∀c,L2.Inv X Z Y H c->Q (.bool (!(sr U k).isSome)) c):
  wpAny (model X.prog X.w) A (W2 .NotIn (.ref b) (.ref a)) Q E s:=by
 let(z,i,l,d,dd):=zM I e g;show wpAny_notIn_heap (sT f) (oo I j) i dd ?_;let q:=(Ba (k:=k) d).ZR;rw[ZG]at q;rw[<-q];show h _ (I.tok _)
def QS(l:A.units+64<cLine)(I:L2.Inv X Z Y H s)(e:H a=R (DkO a U))(n:xT X.K H U)(t:L2.DV X.K H (.ref b) k.1)(x:RelV v r)(B:U.length<Vb)(h:∀c,L2.Inv X Z Y (bJ H a (DkO a (oi U k b v))) c->Q ⟨⟩ c):
  wpAny (model X.prog X.w) A (setItem (.ref a) (.ref b) r) Q E s:=by
 let(z,p,i,d,dd):=zM I e n;let j:i.length<=Vb:=by rw[<-Paired.length d];show z
 let g:(oi U k b v).length<=Vb:=by let:=rT U k b v;ext
 show agF (hsz:=j) (sT l) (oo I t) dd λy f m=>h _ ?_;let o:∃q,y.get? a=R q:=let#[q,_,_,C,_]:=f;#[q,C]
 show pX I (by rw[e];show True.intro) m o (x4 g p (GM x d) f)
def L7(I:L2.Inv X Z Y H s)(e:H a=R (DkO a U)):s.TypeIs (.ref a) "dict"/\(∀b,UQ.ref a=.ref b->∃c,s.heap.get? b=R c/\c.dict=S)/\(a==Xi)=U0:=by let(((z,g,nd),o,j,l,f,d,i,h),_):=(show ObjOk X.prog X.w H s.heap a (DkO a U)from I.Wn a _ e);show#[#[o,f,d.1],λb q=>?_,g];ext q;show#[o,f,d.2.1]
end
section
variable(K:UN)
def Ik(neg:Bool)(ty f:TE):TE:=λe H Q=>ty e H λy g=>f e g λx d=>∃a b xs k,x=.ref a/\y=.ref b/\d a=R (DkO a xs)/\xT K d xs/\L2.DV K d (.ref b) k.1/\Q (.bl ((sr xs k).isSome !=neg)) d
def Ig(f ty:TE):TE:=λe H Q=>f e H λx g=>ty e g λy d=>∃a b xs k v,x=.ref a/\y=.ref b/\d a=R (DkO a xs)/\xT K d xs/\L2.DV K d (.ref b) k.1/\sr xs k=R v/\Q v d
def HH(g ty f:TE):TS:=λD d H=>f d H λv i=>g d i λx h=>ty d h λy e=>∃a b xs k,x=.ref a/\y=.ref b/\e a=R (DkO a xs)/\xT K e xs/\L2.DV K e (.ref b) k.1/\xs.length<Vb/\D.nx d (bJ e a (DkO a (oi xs k b v)))
def JV:TE:=λ_ H Q=>∀p,H p=S->Q (.ref p) (bJ H p (DkO p []))
end
section
variable{X:Cx}{o i e f Z:V8}{U Y tx tv:TE}{pos T apos Yx:Pos}
def pc_ddin(t:X.A.units+64<cLine)(c:PE X i Y)(v:PE X o U):PC X .In i o (Ik X.K U0 Y U):=by intro d s g H Q I h;show cT (c d s g H _ I h) λM l #[y,G,E,m,p]=>cT (v d l g G _ E p) λu L a=>?_;let(x,F,C,n,a,b,xs,k,z,w,e,q,r,j):=a;subst z w;obtain rfl:=n;obtain rfl:=m;rw[agl]at j;show SZ t C e q r λJ B=>#[.bl _,F,B,W,j]
def pc_ddnin(t:X.A.units+64<cLine)(c:PE X i Y)(v:PE X o U):PC X .NotIn i o (Ik X.K P Y U):=by intro d s g H Q I h;show cT (c d s g H _ I h) λM l #[y,G,E,m,p]=>cT (v d l g G _ E p) λu L a=>?_;let(x,F,C,n,a,b,xs,k,z,w,e,q,r,j):=a;subst z w;obtain rfl:=n;obtain rfl:=m;rw[Bool.bne_true]at j;show Q0 t C e q r λJ B=>#[.bl _,F,B,W,j]
def pe_ddget(B:X.A.units+64<cLine)(C:PE X o U)(D:PE X i Y)(c:Q4 i):PE X (.Subscript o i pos) (Ig X.K U Y):=by intro d s l H Q I h;show DF acj.lookup c (cT (C d s l H _ I h) λu n #[x,A,J,q,t]=>cT (D d n l A _ J t) λR P a=>?_);let(y,L,m,p,a,b,xs,k,v,F,E,e,w,z,g,r):=a;subst F E;obtain rfl:=q;obtain rfl:=p;show#[(L7 m e).1,Px B m e w z g λN O G j=>#[v,L,G,j,r]]
def ps_ddput(C:X.A.units+64<cLine)(E:PE X o U)(V:PE X i Y)(B:PE X Z tv)(c:WI Z (lD (.Subscript o i T)) pos.line X.env=pure U0):
  PS X (.Assign [.Subscript o i T] Z pos) (HH X.K U Y tv):=by
 intro d s g H D I h;show aeY (cT (B d s g H _ I h) λr l #[v,Q,O,rv,t]=>cT (E d l g Q _ O t) λu j #[x,Pz0,N,n,q]=>cT (V d j g Pz0 _ N q) λiv S a=>?_) c;let(y,H3,A,m,a,b,xs,k,J,G,e,w,z,F,p):=a;subst J G;obtain rfl:=n;obtain rfl:=m;show QS C A e w z rv F λR L=>#[g,_,L,p]
theorem pe_ddnew:PE X (.Dict [] [] pos) JV:=λa s b H Q I h=>
 wpAny_Dict_empty #[.ref s.heap.objs.size,_,I.laid (λ_ _ q=>bP _ q) (U1 _) (x4 (VF _) (beq_eq_false_iff_ne.mpr (ef (Vk I.big))) .nil (Heap.DictOfH.new s.heap)),W,h _ (I.Wn.fresh (U1 _))]
end
mutual
def Rp:UU->UU->br Bool
 |.int i,.int j=>lD (decide (i<j))
 |.str x,.str y=>lD (decide (x.cps.toList<y.cps.toList))
 |.tuple xs,.tuple ys=>Sm xs ys
 |_,_=>UO
def Sm:bg UU->bg UU->br Bool
 |[],[]=>lD U0
 |[],_::_=>lD US
 |_::_,[]=>lD U0
 |x::xs,y::ys=>if UU.eqv x y=US then Sm xs ys else Rp x y
end
end LD
namespace LD
open PySem PyProof.Rows
structure VE(es:G YN)(Vy:G (Unit×B)):Prop where
 vals:es.map (·.val)=Vy.map (·.2)
end LD
namespace L10
open PySem PyProof.Rows L2 L3 LD
def lh:SV->I D
 |.fz d=>if keyD d=P then R d else S
 |_=>S
def Ro:SV->I D
 |.fz d=>R d
 |_=>S
def vX(Z:bh):SV->I (Nat×G (D×D))
 |.rf i=>match Z[i]? with
  |some (.dd a)=>R (i,a)
  |_=>S
 |_=>S
def iA(b:G (D×D))(k:D):I D:=(b.find? λa=>UU.eqv a.1 k).map (·.2)
def jX(b:G (D×D))(k v:D):G (D×D):=if(b.find? λa=>UU.eqv a.1 k).isSome=P then b.map (λa=>if UU.eqv a.1 k=P then(a.1,v)else a)else b++[(k,v)]
section
variable{B O O':cg}{K:UN}{E:XK}{H H' R P:Hp}{X α' U S:bg UX}{Z Z' Z1 Y:bh}{T:L2.St}{ρ:bC}{v:V}{k:KD}
def oH(e:lh x=lD d)(h:Yw O K H X v x):∃(k:KD) (b:M),k.1=d/\v=.ref b/\L3.DV O K H (.ref b) d:=by
 cases x with
 |fz z=>
  let e:(if keyD z=US then lD z else UO)=lD d:=e;by_cases a:keyD z=US
  .rw[av a]at e
   ext e;let h:=h;cases d with
   |tuple xs=>cases h with
    |tup g f=>show#[#[_,a],_,W,W,.tup g f]
   |_=>simp[keyD]at a
  .rw[ax a]at e;ext e
 |rf i=>ext e
 |tp l=>ext e
def HP(s:VD B K H X Z)(b:Yw (ow B X Z) K H X v x)(h:vX Z x=lD (i,o)):Z[i]?=lD (.dd o)/\∃a xs,X[i]?=lD a/\v=.ref a/\H a=lD (DkO a xs)/\PrD (ow B X Z) K H xs o:=by
 cases x with
 |fz d=>ext h
 |tp l=>ext h
 |rf j=>
  let(a,n,rfl):=b;unfold vX at h;dsimp only at h;cases q:Z[j]? with
  |none=>rw[q]at h;ext h
  |some c=>
   rw[q]at h;cases c with
   |dd m=>let e:=Vi h;ext e;let(ws,g,f):=s.cel i a _ n q;show#[q,a,ws,n,W,g,f]
   |_=>ext h
def Ku:∀{xs:G (KD×M×V)} {c:G (D×D)},PrD O K H xs c->xT K H xs:=by
 intro _ _ b
 induction b with
 |nil=>show λ_ h=>nomatch h
 | @cons x f xs c h t d=>
  intro y a;rcases Vm.mp a with e|a
  .subst e;rw[h.1];show h.2.1.plain
  .show d y a
def yh{x:KD×M×V}{a:D×D}(h:x.1.1=a.1):decide (x.1=k)=UU.eqv a.1 k.1:=by
 rw[<-h]
 haveI:Decidable (x.1.1=k.1):=Classical.propDecidable _
 rw[Gu (keyD_kd x.1.2).1 (keyD_kd k.2).1];by_cases e:x.1=k
 .rw[aP e,aP (et Subtype.val e)]
 .rw[a4 e,a4 λz=>e (Subtype.ext z)]
def zX:∀{xs:G (KD×M×V)} {b:G (D×D)},PrD O K H xs b->(∀d,iA b k.1=lD d->∃v,sr xs k=lD v/\L3.DV O K H v d)/\(iA b k.1=UO->sr xs k=UO):=by
 intro _ _ a
 induction a with
 |nil=>show#[λx e=>(by ext e),λ_=>W]
 | @cons x f xs b h t g=>
  unfold iA sr;rw[VY,VY,yh h.1];cases UU.eqv f.1 k.1 with
  |true=>show#[λd e=>#[x.2.2,W,by ext e;show h.2.2],λe=>by ext e]
  |false=>show g
def B9(h:PrD O K H xs o):(sr xs k).isSome=(iA o k.1).isSome:=by
 let(b,a):=zX h;cases q:iA o k.1 with
 |none=>rw[a q];rfl
 |some x=>let(u,e,_):=b x q;rw[e];rfl
def P7:∀{xs:G (KD×M×V)} {c:G (D×D)},PrD O K H xs c->(xs.find? λx=>decide (x.1=k)).isSome=(c.find? λb=>UU.eqv b.1 k.1).isSome:=by
 intro _ _ a
 induction a with
 |nil=>show W
 | @cons x b xs c h t d=>
  rw[VY,VY,yh h.1];cases UU.eqv b.1 k.1 with
  |true=>rfl
  |false=>show d
def Rz(b:L3.DV O K H v d):∀{xs:G (KD×M×V)} {f:G (D×D)},PrD O K H xs f->PrD O K H (xs.map λx=>if x.1=k then(x.1,x.2.1,v)else x) (f.map λc=>if UU.eqv c.1 k.1=US then(c.1,d)else c):=by
 intro _ _ a
 induction a with
 |nil=>show .nil
 | @cons x c xs f h t g=>
  rw[Vf,Vf];show .cons ?_ (g);let e:=yh (k:=k) h.1;by_cases z:x.1=k
  .rw[av z,av (by rw[<-e];show aP z)];show#[h.1,h.2.1,b]
  .rw[ax z,ax (by rw[<-e,a4 z];simp)];show h
def Hr(r:x.1.1=o.1/\L3.DV O K H (.ref x.2.1) o.1/\L3.DV O K H x.2.2 o.2):∀{xs:G (KD×M×V)} {b:G (D×D)},PrD O K H xs b->PrD O K H (xs++[x]) (b++[o]):=by
 intro _ _ a
 induction a with
 |nil=>show .cons r .nil
 | @cons _ _ _ _ g t d=>show .cons g (d)
def Aw(e:L3.DV O K H (.ref b) k.1)(a:L3.DV O K H v d)(h:PrD O K H xs o):PrD O K H (oi xs k b v) (jX o k.1 d):=by
 unfold oi jX;rw[P7 h];split
 .show Rz a h
 .show Hr #[W,e,a] h
theorem QX(e:Ev O H O' H')(h:PrD O K H xs o):PrD O' K H' xs o:=Paired.Zt h λ_ _ q=>#[q.1,q.2.1.ev e,q.2.2.ev e]
def wI(neg:Bool)(a fd:cZ):cZ:=λρ Z=>(a ρ Z).bind λx Z1=>(fd ρ Z1).bind λo Y=>(RS.V4 Y (lh x)).bind λk Y=>(RS.V4 Y (vX Y o)).bind λp Y=>.ok (.fz (.bool ((iA p.2 k).isSome !=neg))) Y
def vF(r:cX K E C fk)(hd:cX K E J fd):cX K E (Ik K neg C J) (wI neg fk fd):=by intro B T H X Z ρ Q s f w;show r B T H X Z ρ _ s f (w.bind.imp λx U Z1 R A l j v p=>?_);show hd B T R U Z1 ρ _ l (f.Xt A) (j.bind.imp λo S Y P z g e u q=>?_);let(d,n,e):=WS.V4 e;let((i,N),m,e):=WS.V4 e;let(_,a,xs,L,rfl,y,h):=HP g q m;let(k,b,rfl,rfl,t):=oH n (p.Xt z);show#[a,b,xs,k,W,W,y,Ku h,t.plain,?_];rw[B9 h];show WS.now g e _ (.bl _)
def rD(fd a:cZ):cZ:=λρ Z=>(fd ρ Z).bind λo Z1=>(a ρ Z1).bind λx Y=>(RS.V4 Y (lh x)).bind λk Y=>(RS.V4 Y (vX Y o)).bind λp Y=>(RS.V4 Y (iA p.2 k)).bind λd Y=>.ok (.fz d) Y
def wK(hd:cX K E td fd)(C:cX K E tk fk):cX K E (Ig K td tk) (rD fd fk):=by intro B T H X Z ρ Q s f w;show hd B T H X Z ρ _ s f (w.bind.imp λo U Z1 R J m j u A=>?_);show C B T R U Z1 ρ _ m (f.Xt J) (j.bind.imp λx S Y P I g e v t=>?_);let(d,q,e):=WS.V4 e;let((i,N),p,e):=WS.V4 e;let(_,a,xs,L,rfl,G,h):=HP g (A.Xt I) p;let(k,b,rfl,rfl,F):=oH q t;let(y,n,e):=WS.V4 e;let(z,r,l):=(zX h).1 y n;show#[a,b,xs,k,z,W,W,G,Ku h,F.plain,r,WS.now g e z l]
def vh(fd c b:cZ):eK:=λρ Z=>(b ρ Z).bind λy Z1=>(fd ρ Z1).bind λo Y=>(c ρ Y).bind λx a=>(RS.V4 a (lh x)).bind λk a=>(RS.V4 a (vX a o)).bind λp a=>(RS.V4 a (Ro y)).bind λd a=>if p.2.length<1000000 then .ok (.nx ρ) (a.set p.1 (.dd (jX p.2 k d)))else .bad
def G0(e:Ro x=lD d)(h:Yw O K H X v x):L3.DV O K H v d:=by
 cases x with
 |fz z=>ext e;show h
 |rf i=>ext e
 |tp l=>ext e
def v9(hd:cX K E td fd)(hk:cX K E tk fk)(c:cX K E tv fv):nr K E (HH K td tk tv) (vh fd fk fv):=by
 intro B T H X Z ρ D s g w;show c B T H X Z ρ _ s g (WS.imp (WS.bind w) λy U Z1 R r L I t m=>?_);show hd B T R U Z1 ρ _ L (g.Xt r) (WS.imp (WS.bind I) λo S Y P q J G u hu=>?_);show hk B T P S Y ρ _ J (g.Xt (r.trans q)) (WS.imp (WS.bind G) λx e h j p A f z hz=>?_);let(kd,Q,f):=WS.V4 f;let((i,Vy),N,f):=WS.V4 f;let(d,M,f):=WS.V4 f;let(l,a,xs,ha,rfl,g1,n):=HP A (hu.Xt p) N;let(k,b,rfl,rfl,C):=oH Q hz;let hy:=G0 M (m.Xt (q.trans p));dsimp only at f;by_cases hn:Vy.length<1000000
 .rw[av hn]at f;let ev:Ev (ow B e h) j (ow B e h) (bJ j a (DkO a (oi xs k b t))):=vx ha l (by nofun);let F:WJ e h j e (h.set i (.dd (jX Vy k.1 d))) (bJ j a (DkO a (oi xs k b t))):=WJ.put ha l (by nofun) (by nofun);let hl:=Paired.length n;show#[a,b,xs,k,W,W,g1,Ku n,C.plain,vi (),?_];show f e _ F (A.put ha l (by nofun) (by nofun) #[_,aO,Aw (C.ev ev) (hy.ev ev) (QX ev n)]) T ((g.Xt (r.trans (q.trans p))).Xt F)
 .rw[ax hn]at f;show f.elim
def Cd:cZ:=λ_ Z=>.ok (.rf Z.length) (Z++[.dd []])
def Fy:cX K E JV Cd:=by intro B T H X Z ρ Q s b w;show λp a=>l8 s a w λ_=>#[[],aO,.nil]
end
end L10
namespace L3
open PySem PyProof.Rows L2
structure ac0(K:UN)(x qual:Str)(st:Xx)(f:M)(fd:We)(T:M)(VW:Array B):Prop where
 ex:∃(oc:B) (od:I M) (kV doc pm:B) (an:I M) (Wt ct:B) (osl:Array (I B)),
  fd=Wz x qual (gu st) (cI st) (aI st) (.ref T) kV doc pm an Wt ct/\K.lookup f=R #[oc,od,.func fd,osl]/\Zg K Wt qual=P
 kp:WM K (.ref f)=P
 tp:∃o n,K.lookup T=R o/\o.data=.seq VW n
section
variable{P:Vn}{w:VJ}{K:UN}{J:Str->br UQ}{base:Heap}{x Z:Str}{Y:Xx}{f:UX}{U:We}{T:UX}{A:Array UQ}{N ps:bg Str}{k n m:Nat}{L:Sp}{Q:bg UQ}
def ac0.binds(F:ac0 K x Z Y f U T A)
  (h:∀(kV a b:B) (d:I M) (e ct:B) (us:G B),(us++Q).length=ps.length->∃k:I (Array B)->Sem (G (Str×B)),bindArgs (Wz x Z (gu Y) (cI Y) (aI Y) (.ref T) kV a b d e ct) #[us,[]]=seqItems? (.ref T)>>=k/\k (R A)=pure (ps.zip (us++Q))):Binds K U ps Q:=by
 let(u,t,kV,a,b,d,e,ct,g,rfl,v,j):=F.ex;let(o,n,p,l):=F.tp;intro s us X i;let(k,r,q):=h kV a b d e ct us i;show aaZ.of_defaults (fd:=Wz x Z (gu Y) (cI Y) (aI Y) (.ref T) kV a b d e ct) W (X _ _ p) l r q
def Gg(P:Vn)(w:VJ)(K:UN)(J:Str->I B)(base:Heap)(a:yw)(k:Nat)(x:Str)(ps:G Str)(b:G V)(L:Sp):Prop:=
 ∃(f:M) (U:We) (Q:G B),FnOk P w K J base a k f U ps L/\Binds K U ps Q/\Vals b Q/\WM K (.ref f)=US/\J x=R (.ref f)
def EG(C:Gg X.prog X.w X.K X.mg X.base CX k x ps dvs L)(l:Xu j X.A)(i:gF CX X E)(c:PA X (e::es) t)(d:k<=j:=by decide)(o:Gl X x:=by rfl)
  (g:(x==("__debug__":Str))=U0:=by decide) (q:Vt (e::es) X.env=(U0,eval e X.env)::Vt es X.env:=by rfl) (a:(backTo pos (Vt es X.env)).any (·.1)=U0:=by rfl):
  PE X (.Call (.Name x p) (e::es) [] pos) (nG L dvs E t):=by
 let(f,U,Q,F,b,v,h,m):=C;show EX F (l.mono d) o m h b v i c g q a
end
end L3
namespace L10
open PySem PyProof.Rows L2 L3
section
variable{P:Vn}{w:VJ}{K:UN}{U:Str->br UQ}{base:Heap}{x Z:Str}{Y:Xx}{f:UX}{L:We}{T:UX}{C:Array UQ}{N X:bg Str}{k n m:Nat}{g:eK}{J:jr}
def S0(F:ac0 K x Z Y f L T C)(S:XU N X (aI Y))(c:X.length=n)(hm:N.length=m)(p:J=dL m g)
  (r:∀(a:B) (A:Vx) (outer:G Env) (s:UY) (H:Hp) (E:XK),Xu k (A.deeper (Vv Z (aI Y) s.heap.objs.size f a))->
   ∃t,PSs (gM (L4.nw P w) P w K U base N Z (aI Y) f a A outer s H E) (cI Y) t/\nr K E t g):FnOk P w K U base (L4.nw P w) (k+1) f L X (ei K n J):=by
 subst p hm;let(y,v,kV,q,u,z,a,ct,e,rfl,i,d):=F.ex;show JM i d S (λvs H Q E h=>h.1.trans c.symm) λA outer s H vs Q E o b=>?_;let(t,j,l):=r a A outer s H E o;show#[t,j,Bx (xs:=[]) l b]
end
section
variable{K:UN}{E:XK}
theorem IW:∀{c ws:G V} {xs b:G SV},W7 O K H α c xs->W7 O K H α ws b->W7 O K H α (c++ws) (xs++b)
 |_,_,_,_,.nil,h=>h
 |_,_,_,_,.cons a t,h=>.cons a (IW t h)
end
end L10
namespace L3
open PySem L2
section
variable{P:Vn}{w:VJ}{K:UN}{T:Str->br UQ}{base h:Heap}{f C:UX}{n m q:Str}{t:Xx}{U fs:bg Str}{Z k:Nat}{Q N:Sp}{Y:yw}
theorem MI.aiv(i:MI K C f m q t)(c:CI K C n fs)(b:BA m q t U)(ok:∀fd,Yp K m q t f fd->FnOk P w K T base Y Z f fd U Q):L10.cD P w K T base Y Z n m U Q:=
 let#[fd,z]:=i.F;#[C,f,fd,c.a,c.cls,#[i.a,i.i,z.kp],ok fd z,z.binds b]
theorem MI.ak9(i:MI K C f "__init__" q t)(c:CI K C n fs)(X:K.In h)(G:h.Ns Vj T)(b:BA "__init__" q t U)(ok:∀fd,Yp K "__init__" q t f fd->FnOk P w K T base Y Z f fd U Q):L10.zr P w K T base Y Z n U Q:=
 let#[fd,z]:=i.F;#[C,f,fd,c.a,Xl X G c.a,#[c.mm,i.a,i.i,c.kc],ok fd z,z.binds b]
end
end L3
namespace L10
open PySem PySem.Spec PyProof.Rows L2 L3
section
variable{B O O':cg}{K:UN}{E:XK}{H H' X H2:Hp}{α α' Y α2:bg UX}{Z Z' T Z2:bh}{σ:L2.St}{U:bC}{v:V}
def sZ(c f:Str)(a:cZ):eK:=λU Z=>(a U Z).bind λx T=>match x with
 |.fz d=>if L9.RE d=P then .er #[c,[(f,d)]] T else .bad
 |_=>.bad
def CC(M:Vp K Vj c=R (R (.ref C)))(L:cX K E te fe):nr K E (L9.Di C (L9.yu C f) E (jb te pK)) (sZ c f fe):=by
 intro B σ H α Z U D s G w;show L B σ H α Z U _ s G (WS.imp (WS.bind w) λx Y T X Q I a v h=>?_)
 match x,h,a with
 |.fz d,h,a=>
  let h:=h;dsimp only at a;by_cases r:L9.RE d=US
  .rw[av r]at a
   let j:L9.Tr v/\∀(O':cg) (H':Hp),L3.DV O' K H' v d:=by
    cases d with
    |none=>ext h;show#[.inl W,λ_ _=>.XN]
    |int i=>ext h;show#[.inr #[i,W,a5 r],λ_ _=>.int i]
    |_=>ext r
   show#[by show 1<=Vb;decide,λe hn=>#[e,v,W,j.1,aO,λp F g=>#[W,p,?_,?_]]]
   .rw[aF (ef g),aO]
   .let u:X p=S:=by rw[aF g]at F;show F
    let A:WY X (L9.Rj (bJ (bJ (bJ X e (.ext (L9.Mi C e))) e (.ext (L9.RH C e p))) p (.xd [(f,v)])) e):=λb o z=>by
     let t:b≠e:=λy=>by rw[y,hn]at z;ext z
     let J:b≠p:=λy=>by rw[y,u]at z;ext z
     rw[L9.kA t,aF J,aF t,aF t];show z
    show a (.ref C) (R p) Y _ (WJ.same A) (I.grow A) #[#[C,W,M],[(f,v)],λP q=>?_,λm N l=>#[(λz=>nomatch z),?_]]
    .ext q;rw[L9.kA g,aO]
    .let n:(match m==f with|true=>R d|false=>XM m [])=R N:=l
     cases hb:m==f with
     |true=>rw[hb]at n;ext n;show#[v,?_,j.2 _ _];show(match m==f with|true=>R v|false=>XM m [])=R v;rw[hb]
     |false=>rw[hb]at n;ext n
  .rw[ax r]at a;show a.elim
 |.rf _,_,a=>show a.elim
 |.tp _,_,a=>show a.elim
end
end L10
namespace L10
open PySem L2 L3
section
variable{P:Vn}{w:VJ}{K:UN}{Q:Str->br UQ}{base:Heap}{x Z:Str}{Y:Xx}{f:UX}{L:We}{T:UX}{J:Array UQ}{N U:bg Str}{k n m:Nat}{g:eK}{X:jr}
theorem Om(F:Yp K x Z Y f L)(S:XU N U (aI Y))(c:U.length=n)(hm:N.length=m)(d:X=dL m g)
  (e:∀(a:B) (A:Vx) (outer:G Env) (s:UY) (H:Hp) (E:XK),N.Nodup->Xu k (A.deeper (Vv Z (aI Y) s.heap.objs.size f a))->(A.deeper (Vv Z (aI Y) s.heap.objs.size f a)).units+64<cLine->(A.deeper (Vv Z (aI Y) s.heap.objs.size f a)).units+1<cLine->(A.deeper (Vv Z (aI Y) s.heap.objs.size f a)).units+65<cLine->
   ∃t,PSs (gM (L4.nw P w) P w K Q base N Z (aI Y) f a A outer s H E) (cI Y) t/\nr K E t g):FnOk P w K Q base (L4.nw P w) (k+1) f L U (ei K n X):=
 TF F S c hm d λa A outer s H E b=>e a A outer s H E S.nd b b.units (D6 b) (El b)
theorem QT(F:ac0 K x Z Y f L T J)(S:XU N U (aI Y))(c:U.length=n)(hm:N.length=m)(d:X=dL m g)
  (e:∀(a:B) (A:Vx) (outer:G Env) (s:UY) (H:Hp) (E:XK),N.Nodup->Xu k (A.deeper (Vv Z (aI Y) s.heap.objs.size f a))->(A.deeper (Vv Z (aI Y) s.heap.objs.size f a)).units+64<cLine->(A.deeper (Vv Z (aI Y) s.heap.objs.size f a)).units+1<cLine->(A.deeper (Vv Z (aI Y) s.heap.objs.size f a)).units+65<cLine->
   ∃t,PSs (gM (L4.nw P w) P w K Q base N Z (aI Y) f a A outer s H E) (cI Y) t/\nr K E t g):FnOk P w K Q base (L4.nw P w) (k+1) f L U (ei K n X):=
 S0 F S c hm d λa A outer s H E b=>e a A outer s H E S.nd b b.units (D6 b) (El b)
end
end L10
namespace LD
open PySem PySem.Spec PyProof.Rows L2
def Sa(K:UN)(f e:TE):TE:=λd H Q=>∀p,H p=S->f d (bJ H p (DkO p [])) λy g=>e d g λv a=>∃b k,y=.ref b/\a p=R (DkO p [])/\L2.DV K a (.ref b) k.1/\Q (.ref p) (bJ a p (DkO p (oi [] k b v)))
def pe_dd1(T:X.A.units+64<cLine)(F:PE X k tk)(C:PE X v tv):PE X (.Dict [lD k] [v] pos) (Sa X.K tk tv):=by
 intro a s l H Q I q;let hn:=I.Wn.fresh (U1 s.heap.objs.size);let N:=I.laid (t':=s.toks) (λ_ _ q=>bP _ q) (U1 _) (x4 (VF _) (beq_eq_false_iff_ne.mpr (ef (Vk I.big))) .nil (Heap.DictOfH.new s.heap));show wpAny_Dict_any W W (ab1 _ _) (show 1<=15 by decide) (pairTrees_cons_walk (cT (F a _ l _ _ N (q _ hn)) λu o #[x,O,j,r,w]=>cT (C a o l O _ j w) λP R #[y,U,i,p,b,m,Y,e,A,t]=>pairTrees_nil_walk ?_));subst Y;obtain rfl:=r;let(z,J,n,d,dd):=zM i e (λ_ h=>nomatch h);let S:n.length<=Vb:=by rw[<-Paired.length d];show z
 let g:(oi [] m b y).length<=Vb:=by let:=rT [] m b y;rw[WK];simp only[WG]at this;ext
 ext storeAll;simp only[Zb,aaT];show Ld (Ld (wpAny_dictSet_heap (show X.A.units+8<cLine by ext) (oo i A) dd λL f E=>UT (UT ?_)));let G:∃q,L.get? s.heap.objs.size=lD q:=let#[q,_,_,hq,_]:=f;#[q,hq]
 show#[.ref s.heap.objs.size,_,pX i (by rw[e];show True.intro) E G (x4 g J (GM p d) f),W,t]
end LD
namespace L10
open PySem PyProof.Rows L2 L3 LD
section
variable{B O O':cg}{K:UN}{E:XK}{H H' H1 H2:Hp}{Y α' α1 α2:bg UX}{Z Z' Z1 X:bh}{U:L2.St}{ρ:bC}{v:V}
def JA(b a:cZ):cZ:=λρ Z=>(jB (b ρ Z)).bind λx Z1=>(jB (a ρ Z1)).bind λy X=>match lh x,Ro y with
 |some k,R d=>.ok (.rf X.length) (X++[.dd (jX [] k d)])
 |_,_=>.bad
def Lg(hk:cX K E tk fk)(D:cX K E tv fv):cX K E (Sa K tk tv) (JA fk fv):=by
 intro B U H Y Z ρ Q s P w p g;let hB:=λz=>s.bn p z g;let R:VD (bV B p) K (bJ H p (DkO p [])) Y Z:=s.hide g;let l:XJ (ow (bV B p) Y Z) K (bJ H p (DkO p [])) Y U ρ:=by
  let ev:Ev (ow B Y Z) H (ow (bV B p) Y Z) (bJ H p (DkO p [])):=λb o h n=>by
   let r:b≠p:=λz=>by rw[z,g]at h;ext h
   show#[by rw[aF r];show h,λz=>?_];rcases z with(z|z)|z
   .show n (.inl z)
   .show r z
   .show n (.inr z)
  show#[P.1,λj x hx=>let#[v,h1,h2]:=P.2 j x hx;#[v,h1,h2.ev ev λ_ _ h=>h]]
 unfold JA at w;show hk (bV B p) U _ Y Z ρ _ R l ?_;cases qk:fk ρ Z with
 |er x f=>rw[qk]at w;show w.elim
 |bad=>rw[qk]at w;show w.elim
 |ok x L=>
  rw[qk]at w;intro t Hk G T v0 F;show D (bV B p) U Hk t L ρ _ T (l.Xt G) ?_;let w:WS K E B H Y Z (PQ B K Q) ((jB (fv ρ L)).bind λy X=>match lh x,Ro y with|some k,lD d=>.ok (.rf X.length) (X++[.dd (jX [] k d)])|_,_=>.bad):=w;cases qv:fv ρ L with
  |er x f=>rw[qv]at w;show w.elim
  |bad=>rw[qv]at w;show w.elim
  |ok y f=>
   rw[qv]at w;intro e M I u N C;let w:WS K E B H Y Z (PQ B K Q) (match lh x,Ro y with|some k,lD d=>.ok (.rf f.length) (f++[.dd (jX [] k d)])|_,_=>.bad):=w;cases q1:lh x with
   |none=>rw[q1]at w;show w.elim
   |some kd=>
    cases q3:Ro y with
    |none=>rw[q1,q3]at w;show w.elim
    |some d=>rw[q1,q3]at w;let(k,b,rfl,rfl,r):=oH q1 (F.Xt I);let hy:=G0 q3 C;let m:=(G.trans I).kp p _ aO λ#[i,c,q,_]=>R.ba p (.inr W) i q;show#[b,k,W,m,r.plain,?_];let S:Ev (ow (bV B p) e f) M (ow (bV B p) e f) (bJ M p (DkO p (oi [] k b N))):=Ev.mut (.inl (.inr W)) _;let A:=Aw (r.ev S) (hy.ev S) .nil;let s3:=(u.ahb m).ahf (c:=.dd (jX [] k.1 d)) (by nofun) (by rw[aO];simp) #[_,aO,A] hB;let J:WJ Y Z H e f (bJ M p (DkO p (oi [] k b N))):=((WJ.same (bO g _)).trans (G.trans I)).dd g;show w (e++[p]) _ #[λi a h=>e9 (J.pre i a h),J.kp,λb z=>(qY u.len z).elim (J.lv b) λz=>.inr (by rw[z];show g)] s3 (.ref p) #[p,by rw[<-u.len];show a9,W]
end
end L10
namespace L3
open PySem L2
theorem PN{X:Cx}{P:Vn}{w:VJ}:gF (L4.nw P w) X E0:=λ_ _ _ _ _ _ _ h=>by let(_,_,_,_,_,_,_,_,_,_,_,_,_,_,_,_,h):=h;show h.elim
end L3
namespace L10
open PySem PyProof.Rows L2 L3
section
variable{B O A:cg}{K:UN}{E:XK}{H z T y:Hp}{N J Y C:bg UX}{Z u X t:bh}{L:L2.St}{U:bC}{v:V}
def ym(F:jr)(n:Nat)(a:G D)(b:Az):cZ:=λU Z=>(b U Z).bind λxs X=>if(xs++a.map SV.fz).length=n then jB (F (xs++a.map SV.fz) X)else .bad
def BO(hd:∀O H,L3.WO O K H o es)(c:yt K E ta fa):cX K E (nG (ei K n F) o E0 ta) (ym F n es fa):=by
 intro B L H N Z U Q s d w;show c B L H N Z U _ s d (w.bind.imp λxs Y X T g e b h f=>?_);by_cases hn:(xs++es.map SV.fz).length=n
 .rw[av hn]at b;let a:=IW f (mn (ow B Y X) Y (hd (ow B Y X) T));show#[a.length.trans hn,B,Y,X,_,e,a,WS.e0 b]
 .rw[ax hn]at b;show b.elim
end
end L10
namespace L10
open PySem L2 L3
def Tt(T:A->bh->Prop)(X:Xc->Prop):RS A->Prop
 |.ok a Z=>T a Z
 |.er x _=>X x
 |.bad=>False
structure Out{A:Type}(r:RS A)(T:A->bh->Prop)(X:Xc->Prop):Prop where
 out:Tt T X r
section
variable{A B:Type}{r Y:RS A}{T Q:A->bh->Prop}{U:B->bh->Prop}{X:Xc->Prop}{Z:bh}
def Out.eq(e:r=Y)(h:Out Y T X):Out r T X:=by rw[e];show h
def Out.imp(h:Out r T X)(k:∀a Z,T a Z->Q a Z):Out r Q X:=by
 show#[?_];let h:=h.out;cases r with
 |bad=>show h
 |er x o=>show h
 |ok a o=>show k a o h
def Out.bind(h:Out r (λa o=>Out (f a o) U X) X):Out (r.bind f) U X:=by
 show#[?_];let h:=h.out;cases r with
 |bad=>show h
 |er x o=>show h
 |ok a o=>show(show Out (f a o) U X from h).out
def Out.all(h:Out r T λ_=>False):∃a o,r=.ok a o/\T a o:=by
 let h:=h.out;cases r with
 |bad=>show h.elim
 |er x o=>show h.elim
 |ok a o=>show#[a,o,W,h]
end
section
variable{ρ ρ1 U:bC}{Z Z1 Y J:bh}{x y z:SV}{i n:Nat}{d:D}{L:bg D}{b:Bool}{f g:eK}{Q:cZ}{N:bC->bh->Prop}{T:SV->bh->Prop}{X:Xc->Prop}
def Uz(N:bC->bh->Prop)(T:SV->bh->Prop):FlS->bh->Prop
 |.nx ρ,Z=>N ρ Z
 |.rt v,Z=>T v Z
 |_,_=>False
abbrev mO(r:RS FlS)(N:bC->bh->Prop)(T:SV->bh->Prop)(X:Xc->Prop):Prop:=Out r (Uz N T) X
def kN(h:mO (f ρ Z) (λr o=>mO (g r o) N T X) T X):mO (aZ f g ρ Z) N T X:=by
 show Out.bind (h.imp λa o k=>?_);cases a with
 |nx r=>show k
 |rt v=>show#[k]
 |ct r=>show k.elim
 |bk r=>show k.elim
theorem zF(a:f ρ Z=.ok (.nx ρ1) Z1)(h:mO (g ρ1 Z1) N T X):mO (aZ f g ρ Z) N T X:=kN (.eq a #[h])
theorem xt(a:f ρ Z=.ok (.nx ρ1) Z1)(h:N ρ1 Z1):mO (f ρ Z) N T X:=.eq a #[h]
theorem di(e:Q ρ Z=.ok x Z1)(a:gt x ρ Z1=.ok ρ1 Y)(h:mO (g ρ1 Y) N T X):mO (aZ (dI Q gt) g ρ Z) N T X:=zF (by ext dI;rw[e,eH,a,eH]) h
theorem Gz(a:Out (Q ρ Z) (λ_ Z1=>N ρ Z1) X):mO (b6 Q ρ Z) N T X:=Out.bind (a.imp λ_ _ k=>#[k])
def Bs{a j:eK}(e:c ρ Z=.ok P Z1)(h:mO (aZ a g ρ Z1) N T X):mO (aZ (cH c a j) g ρ Z) N T X:=by show .eq ?_ h;unfold aZ cH;rw[e,eH,av W]
def ig{j a:eK}(e:c ρ Z=.ok U0 Z1)(h:mO (aZ a g ρ Z1) N T X):mO (aZ (cH c j a) g ρ Z) N T X:=by show .eq ?_ h;unfold aZ cH;rw[e,eH,ax Vg]
theorem fO(h:mO (g ρ Z) N T X):mO (aZ cL g ρ Z) N T X:=kN #[h]
def Be{a e:eK}(h:mO (aZ a (aZ e g) ρ Z) N T X):mO (aZ (aZ a e) g ρ Z) N T X:=by
 show .eq ?_ h;ext aZ;cases a ρ Z with
 |bad=>rfl
 |er x o=>rfl
 |ok j o=>ext j<;>rfl
theorem nQ(a:Q ρ Z=.ok x Z1)(h:T x Z1):mO (fR Q ρ Z) N T X:=.eq (jM a) #[h]
theorem yT(a:Q ρ Z=.ok x Z1)(h:T x Z1):mO (aZ (fR Q) g ρ Z) N T X:=kN (nQ a h)
def rz(a:xs.map R++U8 (n - xs.length) S=ρ)(h:mO (g ρ Z) (λ_ c=>T (.fz .none) c) T X):Out (dL n g xs Z) T X:=by
 ext dL;rw[a];show Out.bind (h.imp λe o k=>?_);cases e with
 |nx r=>show#[k]
 |rt v=>show#[k]
 |ct r=>show k.elim
 |bk r=>show k.elim
theorem Kt{b:eK}(I:Nat->bC->bh->Prop)(M:Nat)(p:∀n ρ Z,I n ρ Z->(∃Z1,c ρ Z=.ok U0 Z1/\N ρ Z1)\/(n<M/\∃Z1,c ρ Z=.ok P Z1/\mO (b ρ Z1) (I (n+1)) T X)):∀(m n:Nat) (ρ:bC) (Z:bh),M - n<m->I n ρ Z->mO (vV c b m ρ Z) N T X
 |0,n,_,_,h,_=>by ext
 |m+1,n,ρ,Z,h,h0=>by
  rcases p n ρ Z h0 with⟨Z1,e,l⟩|⟨q,Z1,e,j⟩
  .show .eq (show vV c b (m+1) ρ Z=.ok (.nx ρ) Z1 from ?_) #[l];show((c ρ Z).bind _)=_;rw[e,eH,ax Vg]
  .show .eq (show vV c b (m+1) ρ Z=(b ρ Z1).bind λa Y=>match a with
    |.nx U=>vV c b m U Y
    |.ct U=>vV c b m U Y
    |.bk U=>.ok (.nx U) Y
    |.rt x=>.ok (.rt x) Y from ?_) (Out.bind (j.imp λa o k=>?_))
   .show((c ρ Z).bind _)=_
    rw[e,eH,av W]
    all_goals (cases b ρ Z1 with
     |bad=>rfl
     |er x o=>rfl
     |ok a o=>ext a<;>rfl)
   .cases a with
    |nx r=>show Kt I M p m (n+1) r o () k
    |rt v=>show#[k]
    |ct r=>show k.elim
    |bk r=>show k.elim
theorem ul{b:eK}(I:Nat->bC->bh->Prop)(M:Nat)(a:M<1000000)(h0:I 0 ρ Z)(e:∀n ρ Z,I n ρ Z->(∃Z1,c ρ Z=.ok U0 Z1/\N ρ Z1)\/(n<M/\∃Z1,c ρ Z=.ok P Z1/\mO (b ρ Z1) (I (n+1)) T X)):mO (uN c b ρ Z) N T X:=Kt I M e 1000000 0 ρ Z () h0
theorem EC{b:eK}(I:Nat->bC->bh->Prop):∀(L:G D) (k:Nat) (ρ:bC) (Z:bh),I k ρ Z->(∀i d ρ Z,L[i]?=R d->I (k+i) ρ Z->∃ρ1 Z1,gt (.fz d) ρ Z=.ok ρ1 Z1/\mO (b ρ1 Z1) (I (k+i+1)) T X)->mO (lQ gt b L ρ Z) (I (k+L.length)) T X
 |[],k,ρ,Z,h0,_=>#[h0]
 |d::r,k,ρ,Z,h0,C=>by
  let(ρ1,Z1,w,u):=C 0 d ρ Z W h0;let l:∀a p,I (k+1) a p->mO (lQ gt b r a p) (I (k+(r.length+1))) T X:=λa p h=>by
   let e:k+(r.length+1)=k+1+r.length:=by ext
   rw[e];show EC I r (k+1) a p h λi A j q hi t=>?_;let e:k+1+i=k+(i+1):=by ext
   rw[e]at t⊢;show C (i+1) A j q (by simpa using hi) t
  show .eq (show lQ gt b (d::r) ρ Z=(b ρ1 Z1).bind λm Y=>match m with
   |.nx U=>lQ gt b r U Y
   |.ct U=>lQ gt b r U Y
   |.bk U=>.ok (.nx U) Y
   |.rt x=>.ok (.rt x) Y from ?_) (Out.bind (u.imp λm o k=>?_))
  .show((gt (.fz d) ρ Z).bind _)=_
   rw[w,eH]
   all_goals (cases b ρ1 Z1 with
    |bad=>rfl
    |er x o=>rfl
    |ok m o=>ext m<;>rfl)
  .cases m with
   |nx r=>show l _ _ k
   |rt v=>show#[k]
   |ct r=>show k.elim
   |bk r=>show k.elim
def JY{b:eK}(I:Nat->bC->bh->Prop)(l:C ρ Z=.ok L Z1)(h0:I 0 ρ Z1)(j:∀i d ρ Z,L[i]?=R d->I i ρ Z->∃ρ1 Z1,gt (.fz d) ρ Z=.ok ρ1 Z1/\mO (b ρ1 Z1) (I (i+1)) T X)(a:∀c h,I L.length c h->N c h):mO (A3 C gt b ρ Z) N T X:=by
 let:=EC I L 0 ρ Z1 h0 (by simpa using j);rw[W4]at this;show .eq ?_ (this.imp λe o k=>?_)
 .ext A3;rw[l,eH]
 .cases e with
  |nx r=>show a _ _ k
  |rt v=>show k
  |ct r=>show k.elim
  |bk r=>show k.elim
def Ek(a:fo ρ Z=.ok (.rf i) Z1)(h:Z1[i]?=R (.obj C fs))(hm:fs.lookup m=S)(j:fa ρ Z1=.ok xs Y)(c:(SV.rf i::xs).length=n):t9 C m F n fo fa ρ Z=F (.rf i::xs) Y:=by
 let e:nM Z1 C m (.rf i)=P:=by ext nM;dsimp only;rw[h];dsimp only;rw[hm];simp
 ext t9;rw[a,eH,av e,j,eH,av c]
def Ra(c:fa ρ Z=.ok xs Z1)(a:(SV.rf Z1.length::xs).length=n):G5 C F n fa ρ Z=(F (.rf Z1.length::xs) (Z1++[.obj C []])).bind λr Y=>(if FB r=P then .ok (.rf Z1.length) Y else .bad):=by ext G5;rw[c,eH];ext wx;rw[av a]
def Ft(e:o ρ Z=.ok xs Z1)(c:(xs++es.map SV.fz).length=n)(a:F (xs++es.map SV.fz) Z1=.ok x Y):ym F n es o ρ Z=.ok x Y:=by ext ym;rw[e,eH,av c,a];rfl
def F6{c f:Str}(h:Q ρ Z=.ok (.fz d) Z1)(hd:L9.RE d=P):sZ c f Q ρ Z=.er #[c,[(f,d)]] Z1:=by ext sZ;rw[h,eH];dsimp only;rw[av hd]
end
end L10
namespace L3
open PySem PyProof.Rows L2
section
variable{P:Vn}{w:VJ}{K:UN}{U:Str->br UQ}{base h:Heap}{f T:UX}{n:Str}{t:Xx}{Y:bg Str}{Q:Nat}{N:Sp}{L:yw}{Z:Array UQ}
structure DI(K:UN)(f T:M)(n:Str)(t:Xx)(Z:Array B):Prop where
 a:Vp K Vj n=R (R (.ref f))
 F:∃fd,ac0 K n n t f fd T Z
theorem Ny{x a:Str}{b:Xx}{q:B}{p:I M}{kV d i:B}{j:I M}{g ct:B}{e:Array (I B)}{o:B}{m:I M}{k:Nat}{l:Array (I B)}
  (r:K.lookup f=R #[q,p,.func (Wz x a (gu b) (cI b) (aI b) (.ref T) kV d i j g ct),e]) (v:Zg K g a=US) (u:WM K (.ref f)=US) (lt:K.lookup T=R #[o,m,.seq Z k,l]):ac0 K x a b f (Wz x a (gu b) (cI b) (aI b) (.ref T) kV d i j g ct) T Z:=
 #[#[_,_,_,_,_,_,_,_,_,W,r,v],u,_,_,lt,W]
def BD(n:Str)(t:Xx)(T:M)(Z:Array B)(Y:G Str)(ds:G B):Prop:=∀(kV b d:B) (e:I M) (g ct:B) (a:G B),(a++ds).length=Y.length->∃k:I (Array B)->Sem (G (Str×B)),bindArgs (Wz n n (gu t) (cI t) (aI t) (.ref T) kV b d e g ct) #[a,[]]=seqItems? (.ref T)>>=k/\k (R Z)=pure (Y.zip (a++ds))
theorem DI.cal{ds:bg B}{a:bg V}(i:DI K f T n t Z)(X:K.In h)(G:h.Ns Vj U)(d:BD n t T Z Y ds)(b:Vals a ds)(ok:∀fd,ac0 K n n t f fd T Z->FnOk P w K U base L Q f fd Y N):Gg P w K U base L Q n Y a N:=
 let#[fd,z]:=i.F;#[f,fd,ds,ok fd z,z.binds d,b,z.kp,Xl X G i.a]
end
structure Tp(P:Vn)(w:VJ)(K:UN)(mg:Str->I B)(base h:Heap):Prop where
 X:K.In h
 G:h.Ns Vj mg
section
variable{P:Vn}{w:VJ}{K:UN}{X:Str->br UQ}{base h:Heap}{f C T:UX}{n m q:Str}{t:Xx}{Q fs:bg Str}{Z:Nat}{N:Sp}{Y:yw}{U:Array UQ}
theorem NI.c(i:NI K f n t)(W:Tp P w K X base h)(ok:∀fd,Yp K n n t f fd->FnOk P w K X base dR Z f fd Q N)(a:BA n n t Q:=by ext:16):zm P w K X base Z n Q N:=i.cal W.X W.G a ok
theorem MI.mt(i:MI K C f m q t)(c:CI K C n fs)(W:Tp P w K X base h)(ok:∀fd,Yp K m q t f fd->FnOk P w K X base Y Z f fd Q N)(a:BA m q t Q:=by ext:16):L10.cD P w K X base Y Z n m Q N:=i.aiv c a ok
theorem MI.k(i:MI K C f "__init__" q t)(c:CI K C n fs)(W:Tp P w K X base h)(ok:∀fd,Yp K "__init__" q t f fd->FnOk P w K X base Y Z f fd Q N)(a:BA "__init__" q t Q:=by ext:16):L10.zr P w K X base Y Z n Q N:=i.ak9 c W.X W.G a ok
theorem DI.c{ds:G B}{dvs:G V}(i:DI K f T n t U)(W:Tp P w K X base h)(a:Vals dvs ds)(ok:∀fd,ac0 K n n t f fd T U->FnOk P w K X base Y Z f fd Q N)(b:BD n t T U Q ds:=by ext:33):Gg P w K X base Y Z n Q dvs N:=i.cal W.X W.G b a ok
end
end L3
namespace LD
open PySem PyProof.Rows L2 L3 L10
def lstAt(Z:bh):SV->I (G SV)
 |.rf i=>match Z[i]? with
  |some (.lst xs)=>R xs
  |_=>S
 |_=>S
section
variable{K:UN}{E:XK}{B:cg}{H:Hp}{Y:bg UX}{Z:bh}{v:V}
def lst_at{x:SV}{xs:G SV}(s:VD B K H Y Z)(b:Yw (ow B Y Z) K H Y v x)(h:lstAt Z x=R xs):∃a i,v=.ref a/\H a=R (.lst i)/\W7 (ow B Y Z) K H Y i xs:=by
 cases x with
 |fz d=>ext h
 |tp l=>ext h
 |rf j=>
  let(a,m,rfl):=b;unfold lstAt at h;dsimp only at h;cases q:Z[j]? with
  |none=>rw[q]at h;ext h
  |some c=>
   rw[q]at h;cases c with
   |lst g=>ext h;let(ws,f,e):=s.cel j a _ m q;show#[a,ws,W,f,e]
   |_=>ext h
end
end LD
namespace L10
open PySem PySem.Spec PyProof.Rows L2 L3
def SD:D->D->I RV:=fI λi j=>i+j
def Ol:R2:=Uf λi j=>i+j
theorem Mp{X:Cx}:TQ X .Add Ol:=Qw
def Gf{K:UN}:nO K Ol SD:=by intro O H x y g d f Q n b a e q;let(i,j,rfl,rfl,rfl):=yY e;ext b;ext a;show#[_,_,W,W,q.at (.int _)]
end L10
namespace L10
open PySem PySem.Spec PyProof.Rows L2 L3
def HM(c:cZ):cZ:=λb Z=>(c b Z).bind λo a=>(RS.V4 a (gm a o)).bind λp a=>.ok (.fz .none) (a.set p.1 (.lst []))
def Dc{K:UN}{E:XK}{to:TE}{c:cZ}(m:cX K E to c):cX K E (Ps K "list" JB to) (HM c):=by intro B h H α Z z Q s j w;show m B h H α Z z _ s j (w.bind.imp λo b r t p e d v l=>?_);let((i,xs),q,d):=WS.V4 d;let(f,a,u,y,rfl,g,n):=sV e l q;show#[.inl #[W,u,Y4.of g],a,u,W,W,g,?_];show d b _ (WJ.put y f (by nofun) (by nofun)) (e.put y f (by nofun) (by nofun) #[_,aO,.nil]) _ .XN
def IG{c:bC}{Z b:bh}{i:Nat}{d:cZ}{xs:G SV}(h:d c Z=.ok (.rf i) b)(a:b[i]?=R (.lst xs)):HM d c Z=.ok (.fz .none) (b.set i (.lst [])):=by ext HM;rw[h,eH,show gm b (.rf i)=R (i,xs) by ext gm;dsimp only;rw[a]];rfl
end L10
namespace L10
open PySem PyProof.Rows L2 L3
abbrev Sr:=bC->bh->RS (I Int)
def zB:Sr:=λ_ Z=>.ok S Z
def zE(c:cZ):Sr:=λb Z=>(c b Z).bind λx a=>match x with
 |.fz (.int i)=>.ok (R i) a
 |_=>.bad
section
variable{K:UN}{E:XK}
def Tj(K:UN)(E:XK)(t:TO)(f:Sr):Prop:=∀(B:cg) (a:L2.St) (H:Hp) (α:G M) (Z:bh) (g:bC) (Q:I Int->Hp->Prop),VD B K H α Z->XJ (ow B α Z) K H α a g->WS K E B H α Z (λi b e d=>Q i d) (f g Z)->t a H Q
theorem Ap:Tj K E xq zB:=λB a H α Z d Q s b w=>w α H WJ.refl s
def zH{f:TE}{c:cZ}(k:cX K E f c):Tj K E (Dh f) (zE c):=by
 intro B h H α Z o Q s j w;show k B h H α Z o _ s j (w.bind.imp λx a m g n l b v e=>?_);cases x with
 |rf _=>show b.elim
 |tp _=>show b.elim
 |fz d=>
  cases d with
  |int i=>let e:L3.DV (ow B a m) K g v (.int i):=e;ext e;show#[i,W,b a g WJ.refl l]
  |_=>show b.elim
end
end L10
namespace PySem
namespace SetTable
def KJ(xs:Array Nat):Prop:=xs.toList.Pairwise (·<·)
theorem tX(xs:Array Nat)(j:Nat)(h:KJ xs):∀(n lo s:Nat),lo<=s->s<=xs.size->s - lo<=n->(∀(i v:Nat),xs[i]?=R v->i<lo->v<j)->(∀(i v:Nat),xs[i]?=R v->s<=i->j<=v)->∃k,below.go xs j n lo s=k/\k<=xs.size/\(∀(i v:Nat),xs[i]?=R v->i<k->v<j)/\(∀(i v:Nat),xs[i]?=R v->k<=i->j<=v)
 |0,lo,s,h1,y,A,u,t=>#[lo,W,by ext,u,λi v e b=>t i v e ()]
 |n+1,lo,s,h1,y,A,u,t=>by
  ext below.go;by_cases q:lo<s
  .rw[av q]
   let g:(lo+s)/2<xs.size:=by ext
   let a:xs[(lo+s)/2]?=R xs[(lo+s)/2]:=by rw[Xd g]
   let mono:∀(i k v w:Nat),xs[i]?=R v->xs[k]?=R w->i<k->v<w:=λi k v w f d p=>by rw[<-VU]at f d;let(m,rfl):=UP.mp f;let(l,rfl):=UP.mp d;show Xh.mp h i k m l p
   let r:xs.getD ((lo+s)/2) j=xs[(lo+s)/2]:=by rw[XX,a];rfl
   dsimp only;rw[r];split
   .rename_i c
    show tX xs j h n _ s () y () (λi v e o=>?_) t;by_cases z:i=(lo+s)/2
    .subst z;rw[a]at e;ext e;show c
    .let:=mono i _ v _ e a ();ext
   .rename_i c
    show tX xs j h n lo _ () () () u λi v e o=>?_;by_cases z:i=(lo+s)/2
    .subst z;rw[a]at e;ext e;ext
    .let:=mono _ i _ v a e ();ext
  .rw[ax q];show#[lo,W,by ext,u,λi v e b=>t i v e ()]
def II{xs:Array Nat}(h:KJ xs)(j:Nat):below xs j<=xs.size/\(∀(i v:Nat),xs[i]?=R v->i<below xs j->v<j)/\(∀(i v:Nat),xs[i]?=R v->below xs j<=i->j<=v):=by let(k,b,a):=tX xs j h xs.size 0 xs.size (VF _) (U1 _) () (λi v _ d=>a6 d (Xr _)) (λi v e d=>by rw[Array.getElem?_eq_none d]at e;ext e);ext below;rw[b];show a
def MS{xs:Array Nat}(h:KJ xs){j:Nat}(c:xs[below xs j]?≠R j):KJ (insertAt xs (below xs j) j):=by
 let(q,o,f):=II h j;ext KJ;rw[toList_insertAt];let p:∀x∈xs.toList.take (below xs j),x<j:=λx a=>by let(i,u):=V9.mp a;let n:=(UP.mp u).1;rw[V5]at n;rw[ZT (),VU]at u;show o i x u ()
 let g:∀x∈xs.toList.drop (below xs j),j<x:=λx a=>by
  let(i,u):=V9.mp a;rw[List.getElem?_drop,VU]at u;let:=f _ x u ();by_cases z:i=0
  .subst z;let:x≠j:=λe=>c (u.trans (et R e));ext
  .let le:below xs j<xs.size:=by
    let:=(V1.mp u).1;ext
   let e0:xs[below xs j]?=R xs[below xs j]:=Xd le;let:=f _ _ e0 (U1 _);rw[<-VU]at e0 u;let(m,t):=UP.mp e0;let(l,r):=UP.mp u;let:=Xh.mp h _ _ m l ();ext
 let b:=h;unfold KJ at b;rw[<-List.take_append_drop (below xs j) xs.toList,Y3]at b;rw[Y3];show#[b.1,Yr.mpr #[g,b.2.1],λx a y d=>by
  let:=p x a;rcases Vm.mp d with rfl|d
  .show this
  .let:=g y d;ext]
structure TI(b:Bool)(t:SetTable):Prop where
 led:t.led=b
 dm:t.dummies= #v[]
 ris:KJ t.place
end SetTable
end PySem
namespace PySem
open SetTable
section
variable{prog:Vn}{w:VJ}{K:Type}[DecidableEq K]{knd:KeyKind prog w K}{A:Vx}{E:UQ->UY->Prop}{s:UY}{b:Bool}{a:UX}{es:Array (Int×UQ)}
structure SetX(knd:KeyKind prog w K)(b:Bool)(h:Heap)(a:M)(es:Array (Int×B)):Prop where
 x:∃o ep t,h.get? a=R o/\o.ExactSet/\o.data=.set es ep t/\t.fits es.size=P/\TI b t
 el:ElemsOf knd es.toList
 sz:es.size<scanBound
end
end PySem
namespace PySem
open SetTable
def Ka(w:VJ):Bool:=w.params.followText "set-order"
end PySem
namespace L10
open PySem PySem.SetTable PySem.Spec PyProof.Rows L2 L3
section
variable{Y:Vn}{w:VJ}{A:Vx}{E:UQ->UY->Prop}{s:UY}
def JH(a:B){Q₁:B->UY->Prop}(h:Q₁ (.ref s.heap.objs.size) {s with heap:=s.heap.push (nA (!Ka w))}):codeAny (model Y w) A (.call (.builtin "set.__new__") #[[.type "set",a],[]]) (wants Q₁ E) s:=by
 show adk ?_;show wpAny _ A.in1 (do checkBuiltinCall "set.__new__" #[[.type "set",a],[]];again (.builtin "set.__new__" #[[.type "set",a],[]])) _ _ s;show Ld (aao (PySem.F.newCall_set_1 a) (UT #[W9 ac8 _,WL PySem.F.entry_set_new ?_]));rw[Vx.under_plainId ac8 _];unfold Builtin.«set.__new__» Builtin.Frozenset.newClass;let b:=sub_set_self;let(i,g,d,e,f):=s;dsimp only
 wp_walk
 show wpAny_askSetting (UT ?_);dsimp only;simp only[newObj];show Ld (wpAny_alloc (UT ?_));show UT h
variable{K:Type}[DecidableEq K]{X:KeyKind Y w K}
end
end L10
namespace L10
open PySem PyProof.Rows L2 L3
def Cm(xs:G SV)(lo a:I Int):G SV:=(xs.drop (HT.sIx xs.length 0 lo)).take (HT.sIx xs.length xs.length a - HT.sIx xs.length 0 lo)
def JZ(i:cZ)(c d:Sr):cZ:=λg Z=>(i g Z).bind λx f=>(c g f).bind λl e=>(d g e).bind λh b=>(RS.V4 b (LD.lstAt b x)).bind λxs a=>.ok (.rf a.length) (a++[.lst (Cm xs l h)])
section
variable{K:UN}{E:XK}
theorem Eh{O:cg}{H:Hp}{α:G M}:∀{n:Nat} {b:G V} {xs:G SV},W7 O K H α b xs->W7 O K H α (b.take n) (xs.take n)
 |0,_,_,_=>.nil
 |_+1,_,_,.nil=>.nil
 |_+1,_,_,.cons a t=>.cons a (Eh t)
theorem CU{O:cg}{H:Hp}{α:G M}:∀{n:Nat} {b:G V} {xs:G SV},W7 O K H α b xs->W7 O K H α (b.drop n) (xs.drop n)
 |0,_,_,h=>h
 |_+1,_,_,.nil=>.nil
 |n+1,_,_,.cons a t=>CU (n:=n) t
def Qg{O:cg}{H:Hp}{α:G M}{a:G V}{xs:G SV}{lo b:I Int}(h:W7 O K H α a xs):W7 O K H α (yW a lo b) (Cm xs lo b):=by unfold Cm yW;rw[h.length];show Eh (CU h)
def Dv{o:TE}{m n:TO}{k:cZ}{c t:Sr}(D:cX K E o k)(J:Tj K E m c)(L:Tj K E n t):cX K E (TJ (OS K) o m n) (JZ k c t):=by intro B b H α Z Y Q s i w;show D B b H α Z Y _ s i (w.bind.imp λx f R T y G C v j=>?_);show J B b T f R Y _ G (i.Xt y) (C.bind.imp λl d P S u F A=>?_);show L B b S d P Y _ F ((i.Xt y).Xt u) (A.bind.imp λh z U X O r g=>?_);let j:=(j.Xt u).Xt O;let(xs,q,g):=WS.V4 g;let(a,vs,rfl,N,M):=LD.lst_at r j q;show .inl (.inl #[a,vs,W,Y4.of N,λp I=>l8 r I g λe=>#[_,aO,Qg (M.Xt e)]])
end
end L10
namespace PySem
namespace SetTable
def SL(N i:Nat):Nat:=(i*5+1) % N
def lL(N:Nat):Nat->Nat->Nat
 |0,i=>i
 |n+1,i=>lL N n (SL N i)
theorem vd(N:Nat):∀(a b i:Nat),lL N (a+b) i=lL N b (lL N a i)
 |0,b,i=>by rw[W4];rfl
 |a+1,b,i=>by rw[adM];show vd N a b (SL N i)
def bk:Nat->Nat
 |0=>1
 |k+1=>2*bk k*(2*bk k+1)
theorem NH:∀k,∃q,bk k=2^k*(2*q+1)
 |0=>#[0,W]
 |k+1=>by
  let(q,h):=NH k;show#[q*(2*bk k+1)+bk k,?_];show 2*bk k*(2*bk k+1)=_;let:2*(q*(2*bk k+1)+bk k)+1=(2*q+1)*(2*bk k+1):=by rw[aer,ack,Nat.one_mul,Xw];ext
  rw[this,<-Xw];congr 1;rw[h,Xs];rw[<-Xw,adH 2 (2^k)]
theorem xn{N:Nat}(a:0<N):∀(n:Nat) {i:Nat},i<N->lL N n i<N
 |0,_,h=>h
 |n+1,i,_=>xn a n (aax _ a)
theorem uP(N:Nat):∀(k i:Nat),lL N (2^k) i % N=(i+bk k*(4*i+1)) % N
 |0,i=>by show(i*5+1) % N % N=(i+1*(4*i+1)) % N;rw[acm];congr 1;ext
 |k+1,i=>by
  let e:lL N (2^(k+1)) i=lL N (2^k) (lL N (2^k) i):=by rw[Xs,Nat.mul_two,vd]
  rw[e,uP N k];let h:=uP N k i;generalize lL N (2^k) i=y at h;let c:∀y z:Nat,y % N=z % N->(y+bk k*(4*y+1)) % N=(z+bk k*(4*z+1)) % N:=λy z h=>by
   let a:(4*y+1) % N=(4*z+1) % N:=by rw[ZX,ZY,h,<-ZY,<-ZX]
   rw[ZX,ZY,h,a,<-ZY,<-ZX]
  rw[c y _ h];congr 1;show _=i+2*bk k*(2*bk k+1)*(4*i+1);generalize bk k=b;generalize j:4*i+1=z;let g:4*(i+b*z)+1=z+4*(b*z):=by ext
  rw[g,ack,WU];congr 1;let f:2*b*(2*b+1)*z=4*(b*(b*z))+2*(b*z):=by rw[ack,aje,aer];rw[show 2*b*(2*b)=4*(b*b) by rw[Nat.mul_mul_mul_comm]];rw[Xw,Xw,Xw]
  let d:b*(4*(b*z))=4*(b*(b*z)):=Nat.mul_left_comm _ _ _;rw[f,d];ext
def Ub{k y j:Nat}(b:y<2^(k+1))(d:j<2^(k+1))(h:y % 2^k=j % 2^k)(c:y≠j):(y+bk k*(4*y+1)) % 2^(k+1)=j:=by
 let(q,f):=NH k;let e:bk k*(4*y+1)=2^k+2^(k+1)*(q*(4*y+1)+2*y):=by
  rw[f,Xs,Xw,Xw];let:(2*q+1)*(4*y+1)=1+2*(q*(4*y+1)+2*y):=by rw[aer,Xw];ext
  rw[this,ack,aje]
 rw[e,<-WU,Nat.add_mul_mod_self_left];let p:2^(k+1)=2^k+2^k:=by rw[Xs];ext
 let g:0<2^k:=Zi k;rw[p]at b d⊢;generalize 2^k=H at*;let a:∀x,x<H+H->x % H=if x<H then x else x - H:=λx i=>by
  split
  .show YZ ‹_›
  .rw[ae2 (),YZ ()]
 rw[a y b,a j d]at h;split at h<;>split at h
 .omega
 .rw[YZ ()];ext
 .rw[ae2 (),YZ ()];ext
 .omega
theorem Ab{N M:Nat}(h:M∣N):∀(n i a:Nat),i % M=a % M->lL N n i % M=lL M n a % M
 |0,_,_,e=>e
 |n+1,i,a,e=>Ab h n _ _ (by show(i*5+1) % N % M=(a*5+1) % M % M;rw[Nat.mod_mod_of_dvd _ h,acm,ZX,ZY,e,<-ZY,<-ZX])
theorem Rv:∀(k i j:Nat),i<2^k->j<2^k->∃n,n<2^k/\lL (2^k) n i=j
 |0,i,j,h,g=>#[0,Nat.one_pos,by show i=j;let:i<1:=h;let:j<1:=g;ext]
 |k+1,i,j,h,g=>by
  let d:0<2^k:=Zi k;let p:2^(k+1)=2^k+2^k:=by rw[Xs];ext
  let f:2^k∣2^(k+1):=#[2,Xs ..];let(n,l,e):=Rv k (i % 2^k) (j % 2^k) (aax _ d) (aax _ d);let m:=Ab f n i (i % 2^k) (acm _ _).symm;rw[e,acm]at m;let b:=xn (Zi (k+1)) n h;by_cases z:lL (2^(k+1)) n i=j
  .show#[n,by ext,z]
  .show#[n+2^k,by ext,?_];rw[vd];let a:=uP (2^(k+1)) k (lL (2^(k+1)) n i);rw[Ub b g m z,YZ (xn (Zi (k+1)) _ b)]at a;show a
theorem Hh{α:Type}[DecidableEq α]:∀{l m:G α},l.Nodup->(∀x∈l,x∈m)->l.length<=m.length
 |[],_,_,_=>VF _
 |a::l,m,h,k=>by let(g,f):=Wf.mp h;let d:=k a U5;let:=Hh (m:=m.erase a) f λx b=>(List.mem_erase_of_ne (λe:x=a=>g (e▸b))).mpr (k x (U6 _ b));rw[List.length_erase_of_mem d]at this;let:=List.length_pos_of_mem d;rw[Vd];ext
def im(m:Nat):Nat->Nat×Nat->Nat×Nat
 |0,q=>q
 |n+1,q=>im m n (leap m q.1 q.2)
theorem yC(m:Nat):∀(a b:Nat) (q:Nat×Nat),im m (a+b) q=im m b (im m a q)
 |0,b,q=>by rw[W4];rfl
 |a+1,b,q=>by rw[adM];show yC m a b _
theorem DB(m:Nat):∀(n:Nat) (q:Nat×Nat),(im m n q).2=q.2/32^n
 |0,q=>by show q.2=q.2/1;rw[Nat.div_one]
 |n+1,q=>by show(im m n (leap m q.1 q.2)).2=_;rw[DB m n,Xs,adH,<-Nat.div_div_eq_div_mul];rfl
theorem zb(m:Nat):∀(n:Nat) (q:Nat×Nat),q.2=0->(im m n q).1=lL (m+1) n q.1
 |0,q,_=>rfl
 |n+1,q,h=>by
  let e:leap m q.1 q.2=(SL (m+1) q.1,0):=by unfold leap SL;rw[h]
  show(im m n (leap m q.1 q.2)).1=lL (m+1) n (SL (m+1) q.1);rw[e];show zb m n _ W
def ES{m k:Nat}(hm:m+1=2^k){q:Nat×Nat}(a:q.2<2^64){j:Nat}(b:j<=m):∃n,n<=m/\(im m (13+n) q).1=j:=by
 let z:(im m 13 q).2=0:=by rw[DB];show Nat.div_eq_of_lt (Vo a ())
 let l:(im m 13 q).1<m+1:=by rw[show 13=12+1 from rfl,yC];show aax _ (adN _)
 rw[hm]at l;let(n,d,e):=Rv k (im m 13 q).1 j l ();show#[n,by ext,?_];rw[yC,zb m n _ z,hm];show e
def kB(t:SetTable):Nat->Probe->Probe
 |0,p=>p
 |n+1,p=>kB t n (t.advance p)
theorem An(t:SetTable):∀(a b:Nat) (p:Probe),kB t (a+b) p=kB t b (kB t a p)
 |0,b,p=>by rw[W4];rfl
 |a+1,b,p=>by rw[adM];show An t a b _
def NN(t:SetTable)(p:Probe):Probe:={p with j:=(leap t.mask p.i p.perturb).1,more:=runEnd t.mask (leap t.mask p.i p.perturb).1 - (leap t.mask p.i p.perturb).1,i:=(leap t.mask p.i p.perturb).1,perturb:=(leap t.mask p.i p.perturb).2}
theorem C5(t:SetTable):∀(r:Nat) (p:Probe),p.more=r->kB t (r+1) p=NN t p
 |0,p,h=>by show t.advance p=_;ext advance;rw[ax ()];rfl
 |r+1,p,h=>by
  show kB t (r+1) (t.advance p)=_;let e:t.advance p={p with j:=p.j+1,more:=p.more - 1}:=by ext advance;rw[av ()]
  rw[e,C5 t r _ (by show p.more - 1=r;ext)];rfl
def tJ(m i:Nat):runEnd m i - i<=9:=by ext runEnd;split<;>ext
theorem wH(t:SetTable):∀(L:Nat) (p:Probe),p.more<=9->∃n,n<=10*L/\(kB t n p).more<=9/\((kB t n p).i,(kB t n p).perturb)=im t.mask L (p.i,p.perturb)/\(0<L->(kB t n p).j=(kB t n p).i)
 |0,p,h=>#[0,VF _,h,W,λz=>a6 z (Wi _)]
 |L+1,p,h=>by
  let(n,e,d,b,a):=wH t L (NN t p) (tJ _ _);show#[(p.more+1)+n,by ext,?_];rw[An,C5 t p.more p W];show#[d,b,λ_=>?_];by_cases z:0<L
  .show a z
  .obtain rfl:L=0:=by ext
   obtain rfl:n=0:=by ext
   rfl
structure TT(t:SetTable)(n:Nat):Prop where
 k:∃k,t.mask+1=2^k
 dm:t.dummies= #v[]
 ris:KJ t.place
 le:∀v∈t.place.toList,v<=t.mask
 sz:t.place.size=n
 few:n*5<t.mask*3
section
variable{t:SetTable}{n:Nat}{p:Probe}
def tt(h:t.dummies= #v[])(j:Nat):t.slot j=if t.place[below t.place j]? ==R j then .live (below t.place j)else .empty:=by ext slot;dsimp only;rw[show has t.dummies j=U0 by rw[h];rfl];rfl
def TT.free(h:TT t n):∃j,j<=t.mask/\t.slot j=.empty:=by
 show Classical.byContradiction λc=>?_;let c:∀j,j<=t.mask->t.slot j≠.empty:=λj a e=>c #[j,a,e];let:=Hh (l:=Vc (t.mask+1)) (m:=t.place.toList) List.nodup_range λj a=>by
  let:=c j (by let:=Wh.mp a;ext);rw[tt h.dm]at this;split at this
  .rename_i q;let q:=eq_of_beq q;rw[<-VU]at q;show Ve q
  .show a6 W this
 rw[VS,Vl,h.sz]at this;let:=h.few;ext
structure PI(t:SetTable)(p:Probe):Prop where
 nine:p.more<=9
 jm:p.j+p.more<=t.mask
 pt:p.perturb<2^64
 dm:p.dummy=S
def Jj{m i:Nat}(h:i<=m):i+(runEnd m i - i)<=m:=by ext runEnd;split<;>ext
def PI.adv(h:PI t p):PI t (t.advance p):=by
 ext advance;split
 .show#[by show p.more - 1<=9;let:=h.nine;ext,by show p.j+1+(p.more - 1)<=_;let:=h.jm;ext,h.pt,h.dm]
 .show#[tJ _ _,Jj (abW (aax _ (adN _))),ZF (Nat.div_le_self _ _) h.pt,h.dm]
def DM(h:Int):bits h<2^64:=by ext bits;let b:=acw h (show(2^64:Int)≠0 by decide);let a:=abA h (show(0:Int)<2^64 by decide);ext
theorem PI.start(h:Int):PI t (t.probeStart h):=#[tJ _ _,Jj (abW (aax _ (adN _))),DM h,W]
def TT.meets(h:TT t n)(a:PI t p):∃m,m<10*turns t.mask/\t.slot (kB t m p).j=.empty:=by let(j,d,e):=h.free;let(k,b):=h.k;let(m,hm,q):=ES b (q:=(p.i,p.perturb)) a.pt d;let(x,o,l,g,f):=wH t (13+m) p a.nine;show#[x,by ext turns;ext,?_];rw[f (),show(kB t x p).i=j from(et (·.1) g).trans q];show e
theorem TT.met(h:TT t n)(f:Nat->Int)(x:Int):∀(m:Nat) (p:Probe) (b:Nat),m<b->PI t p->t.slot (kB t m p).j=.empty->
  (∃j,t.slot j=.empty/\j<=t.mask/\probe.go t f x b p=R (.empty j S))\/(∃a j i q,a<m/\t.slot j=.live i/\f i=x/\probe.go t f x b p=R (.candidate j i q)/\PI t q/\t.slot (kB t a q).j=.empty)
 |m,p,0,hf,_,_=>a6 hf (Xr _)
 |0,p,b+1,_,l,e=>by let e:t.slot p.j=.empty:=e;show .inl #[p.j,e,by let:=l.jm;ext,?_];ext probe.go;rw[e,l.dm]
 |m+1,p,b+1,hf,l,e=>by
  let e:t.slot (kB t m (t.advance p)).j=.empty:=e;let g:=TT.met h f x m (t.advance p) b () l.adv e;let d:=tt h.dm p.j;ext probe.go;cases q:t.slot p.j with
  |empty=>show .inl #[p.j,q,by let:=l.jm;ext,by rw[l.dm]]
  |dummy=>rw[q]at d;split at d<;>ext d
  |live i=>
   dsimp only;by_cases z:f i=x
   .rw[av (beq_iff_eq.mpr z)];show .inr #[m,p.j,i,t.advance p,WN _,q,z,W,l.adv,e]
   .rw[ax (λc=>z (beq_iff_eq.mp c))]
    rcases g with h|⟨a,j,i,r,h1,o⟩
    .show .inl h
    .show .inr #[a,j,i,r,by ext,o]
theorem EB{m:Nat}(a:Array (I Nat)):∀(L b i q:Nat),L<b->a.getD (im m L (i,q)).1 (R 0)=S->∃r,layClean.free m a b i q=R r/\a.getD r (R 0)=S
 |L,0,_,_,h,_=>a6 h (Xr _)
 |L,b+1,i,q,h,e=>by
  ext layClean.free;cases z:(Vc (runEnd m i+1 - i)).find? λk=>(a.getD (i+k) (R 0)).isNone with
  |some k=>let:=afQ z;show#[i+k,W,acv.mp this]
  |none=>
   dsimp only;cases L with
   |zero=>let e:a.getD i (R 0)=S:=e;let:=abt.mp z 0 (Wh.mpr (by ext runEnd;split<;>ext));rw[Nat.add_zero,e]at this;show a6 W this
   |succ L=>show EB a L b _ _ () e
def P4{l:G (I Nat)}{k:Nat}:∀{r:Nat},l[r]?=R S->aai ((l.set r (R k)).filterMap id) (k::l.filterMap id):=by
 induction l with
 |nil=>intro r h;ext h
 |cons a l b=>
  intro r h;cases r with
  |zero=>cases(Vi h:a=S);show aal _
  |succ r=>
   let h:l[r]?=R S:=h;let:=b h;cases a with
   |none=>show this
   |some x=>show(this.cons x).trans (.swap _ _ _)
theorem Dz:∀{l:G (I Nat)},(l.filterMap id).length<l.length->∃j:Nat,l[j]?=R S
 |[],h=>a6 h (Wi _)
 |none::_,_=>#[0,W]
 |some _::l,h=>by let(j,a):=Dz (l:=l) (Nat.lt_of_succ_lt_succ h);show#[j+1,a]
theorem Ie{m k:Nat}(hm:m+1=2^k):∀(l:G Int) (a:Array (I Nat)) (c:Nat),a.size=m+1->aai (a.toList.filterMap id) (Vc c)->c+l.length<=m->∃ow,l.foldl (λ(d:I (Array (I Nat)×Nat)) h=>do
  let(a,k)<-d
  let j<-layClean.free m a (turns m) (bits h % (m+1)) (bits h)
  pure (a.setIfInBounds j (R k),k+1)) (R (a,c))=R (ow,c+l.length)/\ow.size=m+1/\aai (ow.toList.filterMap id) (Vc (c+l.length))
 |[],a,c,h1,A,_=>#[a,W,h1,A]
 |x::l,a,c,h1,A,C=>by
  rw[Vd]at C⊢;let(j,f):=Dz (l:=a.toList) (by rw[A.length_eq,VS,Vl];ext);let i:=(UP.mp f).1;rw[Vl]at i;let(n,J,e):=ES hm (q:=(bits x % (m+1),bits x)) (DM x) (j:=j) ();let(r,o,b):=EB (m:=m) a (13+n) (turns m) (bits x % (m+1)) (bits x) (by ext turns;ext) (by rw[e,XX,<-VU,f];rfl);let g:a.toList[r]?=R S:=by
   rw[XX,<-VU]at b;cases z:a.toList[r]? with
   |none=>rw[z]at b;ext b
   |some y=>rw[z]at b;cases(b:y=S);rfl
  let(ow,w,v,u):=Ie hm l (a.setIfInBounds r (R c)) (c+1) (by rw[Array.size_setIfInBounds];show h1) (by rw[Array.toList_setIfInBounds];show(P4 g).trans ?_;rw[afR];show(A.cons c).trans (List.perm_append_comm (l₁:=[c]))) ();show#[ow,?_,v,?_]
  .rw[Za];show l.foldl _ ((layClean.free m a (turns m) (bits x % (m+1)) (bits x)).bind λj=>R (a.setIfInBounds j (R c),c+1))=_;rw[o];show(show _=_ from w).trans ?_;rw[WU,YG 1]
  .rw[<-WU,ae3];show u
def Pn{m k:Nat}(hm:m+1=2^k)(c:Array Int)(f:c.size<=m):∃ow,layClean m c=R ow/\ow.size=m+1/\aai (ow.toList.filterMap id) (Vc c.size):=by
 let(ow,b,e,a):=Ie hm c.toList (Array.replicate (m+1) S) 0 Array.size_replicate (by
  rw[Array.toList_replicate]
  let:∀n,(U8 n (S:I Nat)).filterMap id=[]:=λn=>by induction n with
   |zero=>rfl
   |succ n d=>show d
  rw[this];show .nil) (by rw[Vl,W4];show f)
 rw[W4,Vl]at b a;show#[ow,?_,e,a];ext layClean;rw[<-Array.foldl_toList];show et (ahr (·.1)) b
def two_fm{ow:Array (I Nat)}{N:Nat}(h:ow.size=N):((Vc N).filterMap λj=>(ow.getD j S).map (j,·)).map (·.2)=ow.toList.filterMap id:=by
 let e:(Vc ow.toList.length).filterMap (λi=>ow.toList[i]?)=ow.toList:=List.filterMap_getElem?_range_length ow.toList;rw[abu]
 conv=>rhs;rw[<-e]
 rw[List.filterMap_filterMap,Vl,h];show et (λf=>List.filterMap f (Vc N)) (funext λj=>?_);rw[XX,<-VU];cases ow.toList[j]? with
 |none=>rfl
 |some y=>ext y<;>rfl
def HV{ow:Array (I Nat)}(N:Nat):(((Vc N).filterMap λj=>(ow.getD j S).map (j,·)).map (·.1)).Pairwise (·<·)/\∀v∈((Vc N).filterMap λj=>(ow.getD j S).map (j,·)).map (·.1),v<N:=by
 let d:∀{a x:Nat},((ow.getD a S).map (a,·)).map (·.1)=R x->x=a:=λ{a x} h=>by
  cases z:ow.getD a S with
  |none=>rw[z]at h;ext h
  |some v=>rw[z]at h;ext h;rfl
 rw[abu];show#[(List.pairwise_filterMap).mpr (aaq.imp λ{a b} m x l y i=>?_),λv f=>?_]
 .rw[d l,d i];show m
 .let(j,g,e):=Yq.mp f;rw[d e];show Wh.mp g
theorem Ah(n:Nat):∀(f k:Nat),∃c,sizeAbove.go n f (2^k)=2^c/\k<=c/\(n<2^(k+f)->n<2^c)/\(2^c<=2^k\/2^c<=2*n)
 |0,k=>#[k,W,U1 _,λh=>h,.inl (U1 _)]
 |f+1,k=>by
  ext sizeAbove.go;by_cases q:2^k<=n
  .rw[av q,<-Xs];let(c,d,e,b,a):=Ah n f (k+1);show#[c,d,by ext,λh=>b (by rw[ae3];show h),.inr ?_];let:2^(k+1)=2^k*2:=Xs ..;rcases a with h|h<;>ext
  .rw[ax q];show#[k,W,U1 _,λ_=>by ext,.inl (U1 _)]
def G1{n:Nat}(h:n<=1000000):∃k,sizeAbove n=2^k/\3<=k/\n<2^k/\(2^k<=8\/2^k<=2*n):=by let(k,e,d,b,a):=Ah n 64 3;show#[k,e,d,b (ZF h ()),a]
def Fk(t:SetTable){hs:Array Int}(h0:0<hs.size)(m:hs.size<=50000):∃c ord,t.relaid hs (grown hs.size)=R (c,ord)/\TT c hs.size/\c.led=t.led/\c.mask<=8*hs.size+8/\sizeAbove (grown hs.size)<=8*hs.size+8/\aai ord.toList (Vc hs.size):=by
 let g:grown hs.size=hs.size*4:=by ext grown;rw[ax ()]
 let(k,f,l,j,i):=G1 (n:=hs.size*4) ();let a:sizeAbove (hs.size*4) - 1+1=2^k:=by rw[f];let:=Zi k;ext
 let(ow,h,d,b):=Pn a hs ();rw[g];unfold relaid laid;rw[h];show#[_,_,W,#[#[k,a],W,?_,?_,?_,?_],W,by show sizeAbove (hs.size*4) - 1<=_;ext,by ext,?_]
 .show List.Pairwise (·<·) (abL _).toList;rw[Zj];show(HV _).1
 .show∀v∈(abL _).toList,v<=sizeAbove (hs.size*4) - 1;rw[Zj];show λv e=>abW ((HV _).2 v e)
 .show(abL _).size=_;rw[Va,UR];let:=et Y1 (two_fm (N:=sizeAbove (hs.size*4) - 1+1) d);rw[UR,b.length_eq,VS]at this;show this
 .show hs.size*5<(sizeAbove (hs.size*4) - 1)*3;ext
 .show aai (abL _).toList _;rw[Zj,two_fm d];show b
def TT.put(h:TT t n){j:Nat}(d:j<=t.mask)(e:t.slot j=.empty):t.put j=({t with place:=insertAt t.place (below t.place j) j},below t.place j)/\KJ (insertAt t.place (below t.place j) j)/\(∀v∈(insertAt t.place (below t.place j) j).toList,v<=t.mask)/\(insertAt t.place (below t.place j) j).size=n+1:=by
 let z:t.place[below t.place j]?≠R j:=λc=>by rw[tt h.dm,av (by rw[c];show eu _)]at e;ext e
 let a:=insertAt_perm t.place (below t.place j) j;show#[?_,MS h.ris z,λv b=>?_,?_]
 .ext SetTable.put;rw[show has t.dummies j=U0 by rw[h.dm];rfl];rfl
 .let:=a.mem_iff.mp b
  rw[aeK]at this;rcases VH.mp this with q|q
  .show h.le v q
  .rw[U9.mp q];show d
 .let:=a.length_eq;rw[Vl,Vl,Array.size_push,h.sz]at this;show this
theorem TT.fresh(b:Bool):TT (.fresh 0 0 b) 0:=#[#[3,W],W,Y2,λv h=>(by ext h),W,UW W]
def TT.fits(h:TT t n):t.fits n=P:=by let:=h.few;unfold SetTable.fits SetTable.fill;rw[h.sz,h.dm,eu,YW];show aP (by show n+0<=_;ext)
def TT.way(h:TT t n):t.gaveWay=U0:=by
 let(k,a):=h.k;let:=h.few;ext SetTable.gaveWay;cases k with
 |zero=>rw[Nat.pow_zero]at a;ext
 |succ k=>rw[Xs]at a;show beq_eq_false_iff_ne.mpr ()
end
end SetTable
end PySem
namespace LD
open PySem PySem.SetTable PyProof.Rows L2 L3
section
variable{prog:Vn}{w:VJ}{E:UQ->UY->Prop}
theorem GJ:∀(n:Nat) (d:UU) (v:B) (l:G M) (A:Vx) (s:UY) (Q:Bool->UY->Prop),kd d=P->acq s.heap v d l->(∀b,Q b s)->wpAny (model prog w) A (hashByValue n v) Q E s
 |n,.none,_,_,A,s,Q,_,r,h=>by ext r;ext n<;>show UT (h _)
 |n,.int i,_,_,A,s,Q,_,r,h=>by ext r;ext n<;>show UT (h _)
 |n,.str i,_,_,A,s,Q,_,r,h=>by ext r;ext n<;>show UT (h _)
 |0,.tuple xs,_,_,A,s,Q,u,r,h=>by ext r;show UT (h _)
 |n+1,.tuple xs,_,_,A,s,Q,u,r,h=>by
  cases r with
  | @tuple a o N m _ _ h1 L J C=>
   let j:s.TypeIs (.ref a) "tuple":=#[_,h1,L];ext hashByValue;show Ld (ZH j F.slot_tuple_hash.lookup ?_);show Ld (Wj h1 J ?_);show Ld ?_;rw[<-Zs];unfold kd at u;show aaP _ (λe r f=>f=s/\∃ys bs,kds ys=P/\aab s.heap e ys bs) _ ?_ ?_ _ _ #[W,xs,_,u,C]
   .rintro v e r f ⟨rfl,ys,bs,q,z⟩
    cases z with
    | @cons _ _ y t _ _ g1 g2=>
     unfold kds at q;simp only[Vh]at q;show Ld (GJ n y v _ A f _ q.1 g1 λb=>?_);ext b
     .show UT (UT (h _))
     .show UT #[W,t,_,q.2,g2]
   .rintro⟨g,p⟩ f ⟨rfl,_⟩
    ext g
    .show UT (h _)
    .show UT (h _)
 |_,.bool _,_,_,_,_,_,h,_,_|_,.list _,_,_,_,_,_,h,_,_|_,.dict _,_,_,_,_,_,h,_,_=>by simp[kd]at h
theorem Bl:∀(n:Nat) (d:UU) (v:B) (j:G M) (A:Vx) (s:UY) (Q:Bool->UY->Prop),kd d=P->acq s.heap v d j->d.depth<=n->Q U0 s->wpAny (model prog w) A (ofAClassStatement n v) Q E s
 |n,.none,_,_,A,s,Q,_,r,_,h=>by ext r;ext ofAClassStatement;show UT h
 |n,.int i,_,_,A,s,Q,_,r,_,h=>by ext r;ext ofAClassStatement;show UT h
 |n,.str i,_,_,A,s,Q,_,r,_,h=>by ext r;ext ofAClassStatement;show UT h
 |0,.tuple xs,_,_,A,s,Q,z,r,u,h=>by simp only[UU.depth]at u;ext
 |n+1,.tuple xs,_,_,A,s,Q,z,r,u,h=>by
  cases r with
  | @tuple a o U m _ _ h1 T N L=>
   let g:s.TypeIs (.ref a) "tuple":=#[_,h1,T];simp only[UU.depth]at u;ext ofAClassStatement;show Ld (XZ g ?_);show Ld (UT ?_);simp only[Yn,VN,if_false];show Ld (Wj h1 N ?_);show Ld ?_;rw[<-Zs];unfold kd at z;show aaP _ (λb r e=>r.1=S/\e=s/\∃ys bs,kds ys=P/\aab s.heap b ys bs/\UU.depthAll ys<=n) _ ?_ ?_ _ _ #[W,W,xs,_,z,L,by ext]
   .rintro v b r e ⟨f,rfl,ys,bs,q,J,C⟩
    cases J with
    | @cons _ _ y t _ _ g1 g2=>unfold kds at q;simp only[Vh,UU.depthAll]at q C;show Ld (Bl n y v _ A e _ q.1 g1 () ?_);simp only[VN,if_false];show UT #[W,W,t,_,q.2,g2,by ext]
   .rintro⟨p,l⟩ e ⟨f,rfl,_⟩;simp only at f;subst f;show UT h
 |_,.bool _,_,_,_,_,_,h,_,_,_|_,.list _,_,_,_,_,_,h,_,_,_|_,.dict _,_,_,_,_,_,h,_,_,_=>by simp[kd]at h
variable{A:Vx}{s:UY}
def Mm{k:KD}{a:M}(o:(bB prog w).is s.heap k a){m:G B}(j:∀y∈m,∃k b,y=.ref b/\(bB prog w).is s.heap k b){Q:Bool->UY->Prop}(h:Q U0 s):wpAny (model prog w) A (searchCouldBeSeen (.ref a) m) Q E s:=by
 let(n,r):=o;ext searchCouldBeSeen;show Ld ?_;show aaP _ (λd r e=>r.1=S/\e=s/\∀y∈d,∃k b,y=.ref b/\(bB prog w).is s.heap k b) _ ?_ ?_ _ _ #[W,W,j]
 .rintro v d q e ⟨l,rfl,t⟩
  let(f,b,rfl,bs,i):=t _ U5;let g:=λy (j:y∈d)=>t y (U6 _ j);dsimp only;split
  .show UT #[W,W,g]
  .show Ld (ph 8 k.1 _ n A e _ (keyD_kd k.2).1 r (keyD_kd k.2).2 ?_);simp only[Yn,VN,if_false];show Ld (ph 8 f.1 _ bs A e _ (keyD_kd f.2).1 i (keyD_kd f.2).2 ?_);simp only[Yn,VN,if_false];show Ld (Bl 8 k.1 _ n A e _ (keyD_kd k.2).1 r (keyD_kd k.2).2 ?_);simp only[VN,if_false];show Ld (Bl 8 f.1 _ bs A e _ (keyD_kd f.2).1 i (keyD_kd f.2).2 ?_);simp only[VN,if_false];show UT #[W,W,g]
 .rintro⟨p,i⟩ e ⟨l,rfl,_⟩;simp only at l;subst l;show UT h
structure SetH(prog:Vn)(w:VJ)(b:Bool)(h:Heap)(a:M)(es:Array (Int×B))(ks:G (KD×M)):Prop where
 x:∃o ep t,h.get? a=R o/\o.ExactSet/\o.data=.set es ep t/\TT t es.size/\t.led=b/\t.mask<=8*es.size+8
 el:∀e∈es.toList,∃k c,(k,c)∈ks/\e.2=.ref c/\(bB prog w).is h k c
def PY{t:SetTable}{n m b:Nat}{x:Int}{p:Probe}(l:TT t n)(hm:m<b)(o:PI t p)(u:t.slot (kB t m p).j=.empty){f:Nat->Int}{r:I Met}(h:probe.go t f x b p=r):
  (∃j,t.slot j=.empty/\j<=t.mask/\r=R (.empty j S))\/(∃a j i q,a<m/\t.slot j=.live i/\r=R (.candidate j i q)/\PI t q/\t.slot (kB t a q).j=.empty):=by
 rcases l.met f x m p b hm o u with⟨j,g,e,d⟩|⟨a,j,i,q,g,e,_,d,v⟩
 .show .inl #[j,g,e,h.symm.trans d]
 .show .inr #[a,j,i,q,g,e,h.symm.trans d,v]
theorem v8{a:UX}{D:Array (Int×UQ)}{o:Obj}{S:Nat}{t:SetTable}{V:bg (KD×UX)}{k:KD}{c:UX}{x:Int}(f:(bB prog w).room A)(u:s.heap.get? a=lD o)(hd:o.data=.set D S t)(d:TT t D.size)(F:∀e∈D.toList,∃k c,(k,c)∈V/\e.2=.ref c/\(bB prog w).is s.heap k c)(v:(bB prog w).is s.heap k c)(hn:∀p∈V,p.1≠k){Q:SetFound->UY->Prop}(h:∀j,t.slot j=.empty->j<=t.mask->Q (.free j U0) s):
  ∀(m b:Nat) (p:Probe) (C:br Probe),C.getD (t.probeStart x)=p->m<b->PI t p->m<10*turns t.mask->t.slot (kB t m p).j=.empty->wpAny (model prog w) A (setSearchFrom a (.ref c) x US b C) Q E s
 |m,0,_,_,_,hm,_,_,_=>a6 hm (Xr _)
 |m,b+1,p,C,dW,hm,hp,hb,Bz0=>by
  ext setSearchFrom;show Ld (Yf u hd d.fits ?_);dsimp only;rw[d.way,dW];simp only[VN,if_false];show Ld (UT ?_);ext SetTable.probe;generalize hq:SetTable.probe.go t _ x (10*turns t.mask) p=r;rcases PY d hb hp Bz0 hq with⟨j,I,l,rfl⟩|⟨J,j,i,q,I,l,rfl,P,O⟩
  .show UT (h j I l)
  .dsimp only
   obtain⟨e,hi⟩:∃e,D[i]?=lD e:=by
    let n:=tt d.dm j;rw[l]at n;split at n
    .rename_i z;ext n;let:=(V1.mp (eq_of_beq z)).1;rw[d.sz]at this;show#[_,Xd this]
    .ext n
   let(M,Z,K,R,g):=F e (by rw[<-VU]at hi;show Ve hi);let(Y,y):=e;ext R;let G:t.sameMemory t.moves t.mask=lD US:=by ext sameMemory;rw[av (eu _)]
   let ne:¬M=k:=hn _ K;let H:=v8 (x:=x) f u hd d F v hn h J b q (lD q) W () P () O;cases hl:t.led
   .simp only[agm,if_true]
    show Ld (Mm v (λy N=>?_) ?_)
    .let(e,Bz0,rfl):=Vs.mp N;let(L,X,_,U,T):=F e (by rw[Array.toList_filter]at Bz0;show(Xj.mp Bz0).1);show#[L,X,U,T]
    .simp only[VN,if_false];rw[hi];dsimp only;show Ld (Wa ((bB prog w).eqBool f g v ?_));rw[a4 ne];show Ld (Yf u hd d.fits ?_);simp only[acC,VN,if_false,G,if_true,l,hi];show Ld (afB ?_);show Ld (UT ?_);show H
   .simp only[Yn,VN,if_false];rw[hi];dsimp only;show Ld (Wa ((bB prog w).eqBool f g v ?_));rw[a4 ne];show Ld (Yf u hd d.fits ?_);simp only[acC,VN,if_false,G,if_true,l,hi];show Ld (afB ?_);show Ld (UT ?_);show H
mutual
theorem rC{h h':Heap}{x:UX}{e:Obj}(f:h.get? x=lD e)(g:∀vs n,e.data≠.seq vs n)(hs:Heap.SameBut x h h'):∀(d:UU) (v:UQ) (i:bg UX),kd d=US->acq h v d i->acq h' v d i
 |.none,_,_,_,r=>by cases r;exact .none
 |.int _,_,_,_,r=>by cases r;exact .int _ _
 |.str _,_,_,_,r=>by cases r;exact .str _ _
 |.tuple xs,_,_,k,r=>by
  cases r with
  | @tuple a o vs n _ _ h1 h2 h3 h4=>
   have b:a≠x:=by rintro rfl;rw[f]at h1;cases h1;exact g _ _ h3
   unfold kd at k;exact .tuple ((hs.2 a b).trans h1) h2 h3 (uf f g hs xs _ _ k h4)
 |.bool _,_,_,h,_|.list _,_,_,h,_|.dict _,_,_,h,_=>by simp[kd]at h
theorem uf{h h':Heap}{x:UX}{a:Obj}(b:h.get? x=lD a)(e:∀vs n,a.data≠.seq vs n)(hs:Heap.SameBut x h h'):∀(ds:bg UU) (vs:bg UQ) (f:bg UX),kds ds=US->aab h vs ds f->aab h' vs ds f
 |[],_,_,_,r=>by cases r;exact .nil
 |d::ds,_,_,k,r=>by
  cases r with
  |cons i g=>unfold kds at k;rw[Vh]at k;exact .cons (rC b e hs d _ _ k.1 i) (uf b e hs ds _ _ k.2 g)
end
def SetH.put{b:Bool}{h0:Heap}{a:M}{o:Obj}{f:Nat}{t t':SetTable}{u es':Array (Int×B)}{ks:G (KD×M)}(h:h0.get? a=R o)(d:o.ExactSet)(hd:o.data=.set u f t)(i:TT t' es'.size)(j:t'.led=b)(hm:t'.mask<=8*es'.size+8)(q:∀e∈es'.toList,∃k c,(k,c)∈ks/\e.2=.ref c/\(bB prog w).is h0 k c):
  SetH prog w b (h0.update a (Obj.putSet es' t')) a es' ks:=by
 let g:(h0.update a (Obj.putSet es' t')).get? a=R {o with data:=.set es' (f+1) t'}:=
  (da (Obj.putSet es' t') h (by rw[aeL es' t' hd];rfl)).trans (et R (aeL es' t' hd))
 show#[#[_,f+1,t',g,d,W,i,j,hm],λe l=>?_];let(k,c,p,n,r,m):=q e l;show#[k,c,p,n,r,rC h (λ_ _ z=>by rw[hd]at z;ext z) (Heap.SameBut.update h0 a (Obj.putSet es' t')) _ _ _ (keyD_kd k.2).1 m]
def Jk{b:Bool}{a:M}{x:Array (Int×UQ)}{o:Obj}{v:Nat}{t:SetTable}{ks:G (KD×M)}(g:s.heap.get? a=R o)(i:o.ExactSet)(hd:o.data=.set x v t)(r:t.fits x.size=P)(q:t.led=b)(h0:0<x.size)(F:x.size<=1000)(y:∀e∈x.toList,∃k c,(k,c)∈ks/\e.2=.ref c/\(bB prog w).is s.heap k c){Q:Unit->UY->Prop}
  (h:∀J D,Heap.SameBut a s.heap J->SetH prog w b J a D ks->D.size=x.size->Q ⟨⟩ {s with heap:=J}):wpAny (model prog w) A (setRelay a (SetTable.grown x.size)) Q E s:=by
 let f:(x.map (·.1)).size=x.size:=Array.size_map;let(L,d,p,n,C,m,B,l):=Fk t (hs:=x.map (·.1)) (by rw[f];show h0) (by rw[f];ext);rw[f]at p n m B l;let j:aai (d.filterMap (x[·]?)).toList x.toList:=by rw[Array.toList_filterMap,<-filterMap_getElem?_range x];show l.filterMap _
 let z:(d.filterMap (x[·]?)).size=x.size:=by rw[<-Vl,j.length_eq,Vl]
 ext setRelay;show Ld (Yf g hd r ?_);dsimp only;rw[ax (by rw[WK];ext),p];show Ld (aao (show _=pure (d.filterMap (x[·]?),L)from ?_) ?_)
 .show(if((d.filterMap (x[·]?)).size !=x.size)=P then _ else _)=_;rw[ax (by rw[z];simp)]
 .show ahs g hd ?_ (by rw[z,WK];ext);let H:=SetH.put (prog:=prog) (w:=w) (b:=b) (ks:=ks) g i hd (t':=L) (es':=d.filterMap (x[·]?)) (by rw[z];show n) (C.trans q) (by rw[z];show m) λe u=>y e (j.mem_iff.mp u);show h _ _ (Heap.SameBut.update _ _ _) H z
def Q6{b:Bool}{a:UX}{X d:Array (Int×UQ)}{o:Obj}{n N:Nat}{t T:SetTable}{U:bg (KD×UX)}(i:s.heap.get? a=R o)(f:o.ExactSet)(hd:o.data=.set X n t)(q:∃k,T.mask+1=2^k)(l:T.dummies= #v[])(r:KJ T.place)(le:∀v∈T.place.toList,v<=T.mask)(sz:T.place.size=d.size)(M:d.size<=T.mask)(m:T.led=b)(y:T.mask<=8*d.size+8)(V:d.size<=1000)(h0:0<d.size)(H:N=d.size)(p:∀e∈d.toList,∃k c,(k,c)∈U/\e.2=.ref c/\(bB prog w).is s.heap k c){Q:Bool->UY->Prop}
  (h:∀D x,Heap.SameBut a s.heap D->SetH prog w b D a x U->x.size=d.size->Q P {s with heap:=D}):
  wpAny (model prog w) A (do
   storeSet a d T
   if(!U0&&T.tooFull)=P then do
    setRelay a (grown N)
    pure P
   else pure P) Q E s:=by
 subst H;show Ld (ahs i hd ?_ (by rw[WK];ext));let j:=Heap.SameBut.update s.heap a (Obj.putSet d T);split
 .let g:(s.heap.update a (Obj.putSet d T)).get? a=R {o with data:=.set d (n+1) T}:=
   (da (Obj.putSet d T) i (by rw[aeL d T hd];rfl)).trans (et R (aeL d T hd))
  let fits:T.fits d.size=P:=by unfold SetTable.fits SetTable.fill;rw[sz,l,eu,YW];show aP (by show d.size+0<=_;ext)
  show Ld (Jk (prog:=prog) (w:=w) (b:=b) (ks:=U) (s:={s with heap:=s.heap.update a (Obj.putSet d T)}) g f W fits m h0 V (λe G=>?_) λD x F C B=>UT (h D x (j.trans F) C B));let(k,c,K,J,L,I):=p e G;show#[k,c,K,J,L,rC i (λ_ _ z=>by rw[hd]at z;ext z) j _ _ _ (keyD_kd k.2).1 I]
 .rename_i u;show UT (h _ d j (SetH.put i f hd #[q,l,r,le,sz,?_] m y p) W);let:¬T.tooFull=P:=λz=>u (by rw[z];rfl);unfold SetTable.tooFull SetTable.fill at this;rw[sz,l]at this;let:=of_decide_eq_false (eq_false_of_ne_true this);let:¬(d.size+0)*5≥T.mask*3:=this;ext
def SX{b:Bool}{a:UX}{D:Array (Int×UQ)}{ks:bg (KD×UX)}{k:KD}{c:UX}(G:(bB prog w).room A)(Z:SetH prog w b s.heap a D ks)(h9:D.size<1000)(z:(bB prog w).is s.heap k c)(hn:∀p∈ks,p.1≠k){x:Int}{Q:Bool->UY->Prop}
  (h:∀h' V,Heap.SameBut a s.heap h'->SetH prog w b h' a V ((k,c)::ks)->V.size=D.size+1->Q US {s with heap:=h'}):wpAny (model prog w) A (setAddHashed a (.ref c) x) Q E s:=by
 let((o,ep,t,l,B,n,d,U,hm),I):=id Z;unfold setAddHashed setAddHashedIn;show Wa (Ld (Yf l n d.fits ?_));dsimp only;rw[show byScan (.ref c) D=U0 from rfl];simp only[VN,if_false];let(m,H,N):=d.meets (PI.start (t:=t) x);show Ld (v8 G l n d I z hn (λj X S=>?_) m 100000 _ UO W (by unfold turns at H;ext) (PI.start x) H N);dsimp only;show Ld (Yf l n d.fits ?_);let(M,L,K,J):=d.put S X;dsimp only;rw[M];dsimp only;let y:=insertAt_perm D (below t.place j) (x,UQ.ref c);rw[aeK]at y;let f:(insertAt D (below t.place j) (x,UQ.ref c)).size=D.size+1:=by rw[<-Vl,y.length_eq,UZ,Vl];rfl
 let C:∀e∈(insertAt D (below t.place j) (x,UQ.ref c)).toList,∃i g,(i,g)∈(k,c)::ks/\e.2=.ref g/\(bB prog w).is s.heap i g:=λe Y=>by
  rcases VH.mp (y.mem_iff.mp Y)with q|q
  .let(i,g,h1,h2):=I e q;show#[i,g,U6 _ h1,h2]
  .rw[U9.mp q];show#[k,c,U5,W,z]
 let few:=d.few
 let v:∀(T:SetTable),T.mask=t.mask->T.place=insertAt t.place (below t.place j) j->T.dummies=t.dummies->T.led=t.led->wpAny (model prog w) A (do
   storeSet a (insertAt D (below t.place j) (x,UQ.ref c)) T
   if(!U0&&T.tooFull)=US then do
    setRelay a (grown (D.size+1))
    pure US
   else pure US) Q E s:=λT u F e3 e4=>
  Q6 l B n (by rw[u];show d.k) (e3.trans d.dm) (by rw[F];show L) (by rw[u,F];show K) (by rw[F,J,f]) (by rw[u,f];ext) (e4.trans U) (by rw[u,f];ext) (by rw[f];ext) (by rw[f];ext) f.symm C λh' V R P O=>h h' V R P (O.trans f)
 split
 .let(as,r):=z
  show Ld (GJ 8 k.1 _ as A s _ (keyD_kd k.2).1 r λbv=>?_);ext bv
  .show v _ W W W W
  .show v _ W W W W
 .show Ld (UT (v _ W W W W))
end
end LD
namespace LD
open PySem PySem.SetTable PySem.Spec PyProof.Rows L2 L3 L10
section
variable{prog:Vn}{w:VJ}{A:Vx}{R:aaY->UY->Prop}{I:UX}{fp Z:bg UX}{G:Array Zr->Array Zr->Prop}{n:Nat}{P:Nat->UQ->Prop}{St:Nat->UY->Prop}{b:Bool}
def C1{h0 d:Heap}{k:KD}{c:M}(h:(bB prog w).is h0 k c)(e:∀a o,h0.get? a=lD o->d.get? a=lD o):(bB prog w).is d k c:=by let(f,r):=h;show#[f,Reads.keeps e r]
def Se(W:WalksS prog w A.in1 I fp Z G n P St)(S:UX)(y:S∉fp){h0:Heap}(L:h0.get? S=UO)(O:∀b∈Z,h0.get? b=UO)(cs:bg (KD×UX))(hn:cs.length=n)(hP:∀i v,P i v->∃p,cs[i]?=lD p/\v=.ref p.2)(hk:∀p∈cs,(bB prog w).is h0 p.1 p.2)(nd:(cs.map (·.1)).Nodup)(hb:n<=1000)(B:(bB prog w).room A.in1):
  ∀(m i:Nat) (s:UY) (es:Array (Int×UQ)),n - i=m->i<=n->St i s->SetH prog w b s.heap S es (cs.take i).reverse->es.size=i->(∀a o,h0.get? a=lD o->s.heap.get? a=lD o)->
   (∀D V,Moved (S::Z) G s D->SetH prog w b D.heap S V cs.reverse->V.size=n->R (.ok (.ret .none)) D)->
   codeAny (model prog w) A (.builtin "set.update.loop" #[[.ref S,.ref I],[]]) R s:=by
 let u:S∉Z:=λh=>y (W.sub _ h);let up:∀b∈Z,b∈S::Z:=λ_ h=>U6 _ h;let ext:∀{s D:UY},Moved Z G s D->(∀a o,h0.get? a=lD o->s.heap.get? a=lD o)->∀a o,h0.get? a=lD o->D.heap.get? a=lD o:=λ{s D} d k a o e=>d.heap a o (λz=>by rw[O a z]at e;ext e) (k a o e);let at_:∀{r h2:Heap} {es:Array (Int×UQ)} {i:Nat},SetH prog w b r S es (cs.take i).reverse->(∀o,r.get? S=lD o->h2.get? S=lD o)->(∀a o,h0.get? a=lD o->h2.get? a=lD o)->SetH prog w b h2 S es (cs.take i).reverse:=λ{r h2 es i} h e k=>by let((o,ep,t,g1,g2),el):=h;show#[#[o,ep,t,e o g1,g2],λx hx=>?_];let(q,c,r,h2,_):=el x hx;show#[q,c,r,h2,C1 (hk _ (aef (ab2.mp r))) k]
 intro m
 induction m with
 |zero=>
  intro i s es hm hi dW M hz J N;obtain rfl:i=n:=by ext
  show WL ZZ ?_;rw[Vx.under_plainId XT _];show wpAny _ A.in1 (pyNext (.ref I)>>=_) _ _ s;show Ld (W.done s _ _ dW λD d=>?_);let f:=at_ M (h2:=D.heap) (λo e=>d.heap S _ u e) (ext d J);rw[<-hn,W6]at f;show UT (N D es (d.mono up) f hz)
 |succ m ih=>
  intro i s es hm hi dW M hz J N;show WL ZZ ?_;rw[Vx.under_plainId XT _];show wpAny _ A.in1 (pyNext (.ref I)>>=_) _ _ s;show Ld (W.item i s _ _ () dW λv D hv Q d=>?_);let((k,c),l,rfl):=hP i v hv;let g:=ext d J;let f:=at_ M (h2:=D.heap) (λo e=>d.heap S _ u e) g;let kc:=C1 (hk _ (Ve l)) g;let fresh:∀p∈(cs.take i).reverse,p.1≠k:=λp hp z=>by
   let(j,H):=V9.mp (ab2.mp hp);let jl:=(UP.mp H).1;rw[V5]at jl;rw[ZT ()]at H;let e1:(cs.map (·.1))[j]?=lD k:=by rw[U4,H,<-z];rfl
   let e2:(cs.map (·.1))[i]?=lD k:=by rw[U4,l];rfl
   let:=(ae1 (UP.mp e1).1 nd).mp (e1.trans e2.symm);ext
  show wpAny _ A.in1 (holding [.ref c] (setAdd S (.ref c))>>=_) _ _ D;show Ld (Wa ?_);ext setAdd;show Wa (Ld ((bB prog w).pyHash B kc ?_));show SX (s:={D with toks:=D.toks+(bB prog w).draws k}) B f () kc fresh λh' V C X hz'=>?_;let tk:(cs.take (i+1)).reverse=(k,c)::(cs.take i).reverse:=by rw[Xq,l];show(cs.take i++[(k,c)]).reverse=_;rw[List.reverse_append];rfl
  rw[<-tk]at X;show UT #[W9 XT _,ih (i+1) _ V () () (W.frame _ D _ _ Q (aam _ _) λc K o e=>?_) X () (λa o e=>?_) λE T U Y F=>?_]
  .rw[C.2 c λz=>y (by rw[<-z];show K)];show e
  .rw[C.2 a λz=>by rw[z,L]at e;ext e];show g a o e
  .show N E T (Moved.trans W.gtrans ((d.mono up).then_heap (aam _ _) λc o K e=>?_) U) Y F;rw[C.2 c λz=>K (by rw[z];show U5)];show e
end
section
variable{Y:Vn}{w:VJ}{A:Vx}{E:UQ->UY->Prop}{s:UY}
theorem Ln{h0:Heap}{a:M}{b:Bool}(h:h0.get? a=R (nA b)):SetH Y w b h0 a #v[] []:=#[#[_,0,_,h,#[W,W,W],W,TT.fresh b,W,UW W],λe d=>(by ext d)]
end
section
variable{prog:Vn}{w:VJ}{A:Vx}{E:UQ->UY->Prop}{s:UY}
def Fi{l:UX}{items:Array UQ}{Q:UQ->UY->Prop}(hh:A.handled=UO)(G:s.heap.IsList l items)(cs:bg (KD×UX))(m:items.toList=cs.map λp=>.ref p.2)(V:∀p∈cs,(bB prog w).is s.heap p.1 p.2)(nd:(cs.map (·.1)).Nodup)(q:items.size<=1000)(hu:A.units+64<cLine)
  (h:∀k D x,SetH prog w (!Ka w) k s.heap.objs.size x cs.reverse->x.size=items.size->(∀b o,s.heap.get? b=lD o->k.get? b=lD o)->Q (.ref s.heap.objs.size) {s with heap:=k,toks:=D}):wpAny (model prog w) A (call (.type "set") [.ref l]) Q E s:=by
 let(c,tl,aph):=WH.mro;let amW:=WH.made;let air:=WH.sub;show Z8 (adk ?_);show wpAny _ _ (callAny (.type "set") _) _ _ _;show UT #[adi.quiet_builtin _ (by left),WL PySem.F.entry_type_call ?_];rw[Vx.under_plain (weight_type_call_type "set" [.ref l] []) W];let h1:=WH.notType;let h2:=WH.canCreate;let hct:=PySem.F.typeCall_set_1 (.ref l)
 repeat (any_goals (first|assumption|wp_step))
 show YV (JH (.ref l) (E:=E) (Q₁:=λobj O=>obj=.ref s.heap.objs.size/\O={s with heap:=s.heap.push (nA (!Ka w))}) #[W,W]) λr O y=>?_
 match r,y with
 |.error e,y=>show y
 |.ok (.ret obj),#[e1,e2]=>
  subst e1 e2;let P:(s.heap.push (nA (!Ka w))).get? s.heap.objs.size=lD (nA (!Ka w)):=cv _ W;let hT:UY.TypeIs {s with heap:=s.heap.push (nA (!Ka w))} (.ref s.heap.objs.size) "set":=#[_,P,W];let hli:=WH.init.lookup;let hbi:=WH.init.bind (.ref s.heap.objs.size)
  repeat (any_goals (first|assumption|wp_step))
  show YV (XA (R:=wants (λr T=>r=.none/\∃k D x,T={s with heap:=k,toks:=D}/\SetH prog w (!Ka w) k s.heap.objs.size x cs.reverse/\x.size=items.size/\∀b o,s.heap.get? b=lD o->k.get? b=lD o) E) WH.init.plain PySem.F.entry_set_init (check_set_init_1 hT ?_)) λf N a=>?_
  .let g:(s.heap.push (nA (!Ka w))).IsList l items:=G.push _
   let S:l<s.heap.objs.size:=by let(_,e,_):=G;show cn e
   let((aqN,L,amH,M),C,n,Y,j):=id G;simp only at n j;subst n j;let aqR:(s.heap.push (nA (!Ka w))).get? l=lD {cls:=.type "list",dict:=L,data:=.seq items Y,slots:=M}:=bP _ C;let aot:=PySem.F.sub_list_set;let ao0:=PySem.F.sub_list_frozenset;let Z:(UQ.type "list"==UQ.type "dict")=U0:=by decide
   unfold Builtin.«set.__init__» noKeywords Builtin.Frozenset.updateFrom;generalize hPI:pyIter=PI
   wp_walk
   subst hPI;show XW g ?_;show Ld (akp ?_);let H:A.in1.in1.in1.handled=UO:=by simp[hh]
   let K:l≠(s.heap.push (nA (!Ka w))).objs.size:=by rw[dt];show Vk (X8 S)
   let I:s.heap.objs.size∉[(s.heap.push (nA (!Ka w))).objs.size,l]:=λz=>by
    rw[dt]at z;rcases Vm.mp z with z|z
    .show Vk (WN _) z
    .show Wd S (U9.mp z)
   let none_of:∀{h0:Heap} {b:UX},h0.objs.size<=b->h0.get? b=UO:=λ{h0 b} q=>by
    cases z:h0.get? b with
    |none=>rfl
    |some o=>show a6 (cn z) (akr.mpr q)
   show Se ((afN.list H _ l K items).toS) s.heap.objs.size I (h0:=s.heap) (none_of (U1 _)) (λb q=>?w1) cs (by rw[<-Vl,m,UR]) (λi v d=>?w2) V nd (by show q) ?w3 (items.size - 0) 0 _ #v[] W (VF _) #[#[_,cv _ W,W,W],g.push _] (Ln (bP _ P)) W (λb o e=>bP _ (bP _ e)) λU J hm X F=>?w4
   case w1=>
    let:=U9.mp q;subst this;show none_of (by rw[dt];show aa1 _)
   case w2=>
    let d:items[i]?=lD v:=d;rw[<-VU,m,U4]at d;cases z:cs[i]? with
    |none=>rw[z]at d;ext d
    |some p=>rw[z]at d;show#[p,W,(Vi d).symm]
   case w3=>
    show A.in1.in1.in1.units+8<cLine;simp only[Vx.in1_units];ext
   let(k,g',d',t,u):=U;let eg:g'=s.gens:=hm.gens;let ed:d'=s.drawn:=hm.drawn;let eo:u=s.os:=hm.os;subst eg ed eo;show wpAny _ _ _ _ _ _;show UT ?_;show wpAny _ _ (ret UQ.none) _ _ _;show UT #[W,k,t,J,W,X,F,λb o e=>?_];let bl:=cn e;show hm.heap b o (λz=>?_) (bP _ (bP _ e));rcases Vm.mp z with z|z
   .show Vk bl z
   .rw[dt]at z;show Vk (X8 bl) (U9.mp z)
  .match f,a with
   |.error e,a=>show a
   |.ok (.ret r),#[e1,k,D,x,e2,X,F,kp]=>
    subst e1 e2
    repeat (any_goals (first|assumption|wp_step))
    show h _ _ x X F kp
end
end LD
namespace LD
open PySem PySem.SetTable PyProof.Rows L2 L3 L10
def Uk(p:M)(n:Nat)(h:Heap):Prop:=∃(o:Obj) (a:Array (Int×B)) (b:Nat) (t:SetTable),h.get? p=R o/\o.ExactSet/\o.data=.set a b t/\t.fits a.size=P/\a.size=n/\n<=1000
abbrev Tn(p:M)(n:Nat):HO:=.exw λ_=>Uk p n
def Pa{prog:Vn}{w:VJ}{H:Hp}{h:Heap}{p:M}{n:Nat}(x:Uk p n h):ObjOk prog w H h p (Tn p n):=by
 show#[x,?_,λi f a e=>?_]
 .let(o,_,_,_,g,_):=x;show#[o,g]
 .let(o,b,d,t,g,r):=a;show#[o,b,d,t,e o g,r]
def HJ(K:UN):G V->Hp->VK->Prop:=λxs H Q=>∃(a:M) (b:G (KD×M)),xs=[.ref a]/\Y4 K H a (b.map λp=>V.ref p.2)/\b.length<=1000/\(∀p∈b,L2.DV K H (.ref p.2) p.1.1)/\(b.map (·.1)).Nodup/\∀p,H p=S->Q (.ref p) (bJ H p (Tn p b.length))
theorem xD:∀{cs:G (KD×M)} {us:G B},Vals (cs.map λp=>V.ref p.2) us->us=cs.map λp=>UQ.ref p.2
 |[],_,r=>by ext r;rfl
 |p::cs,_,r=>by
  cases r with
  |cons h t=>rw[xD t];ext h;rfl
def call_setN{X:Cx}(y:X.calm=US)(l:X.A.units+64<cLine):Yd X (.type "set") (HJ X.K):=by
 intro b s O H xs P Q I r h;let(a,d,rfl,j,U,w,nd,q):=h;let(u,rfl,g):=kj r;ext g;let(e,A,(o,n,N,M,T,L),R):=I.list j;let v:e.length=d.length:=by rw[xD A,UR]
 show Fi (I.ok.hd y) (items:=e.toArray) #[o,N,M,n,L] d (by rw[Zj];show xD A) (λp m=>oo I (w p m)) nd (by rw[Va];ext) l λS f G z sz i=>?_;rw[Va]at sz;let((o,J,t,F,E,C,B,_),_):=z;show#[.ref s.heap.objs.size,_,I.laid (t':=f) i (U1 _) (Pa #[o,G,J,t,F,E,C,B.fits,sz.trans v,U]),W,q _ (I.Wn.fresh (U1 _))]
def Kj:G V->Hp->VK->Prop:=λxs H Q=>∃(p:M) (n:Nat),xs=[.ref p]/\H p=R (Tn p n)/\Q (.int n) H
def call_lenN{X:Cx}:Yd X (.builtin "len") Kj:=by intro a s l H xs m Q I r h;let(p,n,rfl,d,q):=h;let(u,rfl,b):=kj r;ext b;let((o,y,z,t,j,i,g,f,e,v),_):=(show ObjOk X.prog X.w H s.heap p (Tn p n)from I.Wn p _ d);rw[<-e]at q;show call_len_set j i g f () #[.int _,H,I.tok _,#[_,W],q]
def ndB:G D->Bool
 |[]=>P
 |d::r=>r.all (λe=> !UU.eqv d e)&&ndB r
theorem Hz:∀{ds:G D},(∀d∈ds,keyD d=P)->ndB ds=P->ds.Nodup
 |[],_,_=>Zv
 |d::r,f,h=>by unfold ndB at h;rw[Vh,Wr]at h;show Wf.mpr #[λb=>?_,Hz (λe a=>f e (U6 _ a)) h.2];let:=h.1 d b;rw[SeqAt.eqv_refl d (kd_lay d (keyD_kd (f d U5)).1)]at this;ext this
def setLenN:G D->I RV
 |[.list ds]=>if(decide (ds.length<=1000)&&ds.all keyD&&ndB ds)=P then R (.fz (.int ds.length))else S
 |_=>S
section
variable{K:UN}{E:XK}
theorem Eu{O:cg}{H:Hp}:∀{b:G V} {ds:G D},L3.WO O K H b ds->(∀d∈ds,keyD d=P)->∃cs:G (KD×M),b=cs.map (λp=>V.ref p.2)/\ds=cs.map (·.1.1)/\∀p∈cs,L2.DV K H (.ref p.2) p.1.1
 |_,_,.nil,_=>#[[],W,W,λ_ h=>by ext h]
 |v::b,d::ds,.cons h t,hd=>by
  let(cs,i,g,f):=Eu t λd h=>hd d (U6 _ h);let kd:=hd d U5;cases d with
  |tuple xs=>
   let e:=h.plain;cases h with
   |tup l j=>
    show#[(#[_,kd],_)::cs,by rw[i];rfl,by rw[g];rfl,λp a=>?_];rcases Vm.mp a with rfl|a
    .show e
    .show f p a
  |_=>simp[keyD]at kd
def Ms:Gk K (λxs H Q=>HJ K xs H λv H1=>Kj [v] H1 Q) setLenN:=by
 intro O H xs ds z Q n d e q;unfold setLenN at e;split at e
 .rename_i y
  split at e
  .rename_i g
   rw[Vh,Vh,decide_eq_true_eq,Wr]at g;let((i,f),l):=g;let nd:=Hz f l;ext e;cases d with
   |cons r o=>
    ext o;let(a,w,rfl,u,t):=Bj r;let(j,rfl,rfl,m):=Eu t f;rw[UR]at i q;show#[a,j,W,u.sq,i,m,?_,λp d=>#[p,_,W,aO,q _ _ (bO d _) (.int _)]];let:((j.map (·.1)).map Subtype.val).Nodup:=by rw[VG];show nd
    show aib _ (λa b h e=>h (et Subtype.val e)) this
  .ext e
 .ext e
def eos_lenN{a:TA}{b:Az}(c:yt K E a b):cX K E (IK Kj (jb (IK (HJ K) a) pK)) (nt setLenN b):=by let h:=ez (E:=E) (Ms (K:=K)) c;show h
end
end LD
namespace L10
open PySem PyProof.Rows L2 L3
def fZ(gt:wb)(b:eK)(x:SV):Nat->Nat->eK
 |0,_,_,_=>.bad
 |n+1,i,h,Z=>(RS.V4 Z (LD.lstAt Z x)).bind λxs Z=>match xs[i]? with
  |none=>.ok (.nx h) Z
  |some y=>(gt y h Z).bind λd f=>(b d f).bind λe a=>match e with
   |.nx g=>fZ gt b x n (i+1) g a
   |.ct g=>fZ gt b x n (i+1) g a
   |.bk g=>.ok (.nx g) a
   |.rt z=>.ok (.rt z) a
def Dm(c:cZ)(gt:wb)(b:eK):eK:=λd Z=>(c d Z).bind λx a=>fZ gt b x 1000000 0 d a
section
variable{K:UN}{E:XK}
theorem GC{O:cg}{H:Hp}{α:G M}:∀{b:G V} {xs:G SV} {i:Nat},W7 O K H α b xs->(∀v,b[i]?=R v->∃x,xs[i]?=R x/\Yw O K H α v x)/\(b[i]?=S->xs[i]?=S)
 |_,_,_,.nil=>#[λv h=>(by ext h),λ_=>W]
 |_,_,0,.cons a t=>#[λv h=>(by ext h;show#[_,W,a]),λh=>(by ext h)]
 |_,_,i+1,.cons a t=>GC (i:=i) t
def JQ{U:TE}{g:TG}{X:TS}{c:cZ}{gt:wb}{b:eK}(h:cX K E U c)(k:KI K E g gt)(V:nr K E X b):nr K E (LF (za K U) g X) (Dm c gt b):=by
 intro B σ H α Z ρ D s Y w;show h B σ H α Z ρ _ s Y (WS.imp (WS.bind w) λx r S T e1 s1 O v hv=>?_);obtain⟨a,vs,rfl,g1,g2⟩:∃a vs,v=.ref a/\T a=lD (.lst vs)/\True:=by unfold fZ at O;let(xs,q,_):=WS.V4 O;let(a,vs,h1,h2,_):=LD.lst_at s1 hv q;show#[a,vs,h1,h2,trivial]
 show#[a,W,.inl #[#[vs,Y4.of g1],λi m l j=>∃d f e,WJ r S T d f j/\VD B K j d f/\XJ (ow B d f) K j d l e/\WS K E B j d f (vE B K D) (fZ gt b x m i e f),#[_,r,S,ρ,.refl,s1,Y.Xt e1,O],?_]];rintro i m z H2 ⟨d,f,e,e2,Q,C,p⟩;cases m with
 |zero=>show p.elim
 |succ m=>
  unfold fZ at p;let(xs,q,p):=WS.V4 p;let(a',o,ea,R,k2):=LD.lst_at Q (hv.Xt e2) q;ext ea;let(y1,y2):=GC (i:=i) k2;cases qv:o[i]? with
  |none=>rw[y2 qv]at p;show .inl #[#[o,Y4.of R,Yh.mp qv],WS.now Q p z C]
  |some u=>
   let(y,qx,hy):=y1 u qv;rw[qx]at p;show .inr #[#[o,u,Y4.of R,qv],λl j=>∃d f e,WJ r S T d f j/\VD B K j d f/\XJ (ow B d f) K j d l e/\WS K E B j d f (vE B K D) (fZ gt b x m (i+1) e f),λl j q=>#[m,WN m,q],?_];rintro u' H3 ⟨rfl,hu⟩;let:=(hu o (Y4.of R)).symm.trans qv;ext this;show k B z H3 d f e u y _ Q C hy (WS.imp (WS.bind p) λM N Z4 H4 e4 s4 w3 L P=>?_);show V B L H4 N Z4 M _ s4 P (WS.imp (WS.bind w3) λfl A Z5 H5 e5 I G=>?_);let F:=e2.trans (e4.trans e5);cases fl with
   |nx n=>show λJ t=>#[A,Z5,n,F,I,t,G]
   |ct n=>show λJ t=>#[A,Z5,n,F,I,t,G]
   |bk n=>show WS.now (E:=E) I G
   |rt x=>show WS.now (E:=E) I G
end
def eR(gt:wb)(c:tQ)(g:cZ)(x:SV):Nat->Nat->bC->bh->G SV->RS (G SV)
 |0,_,_,_,_=>.bad
 |m+1,i,h,Z,acc=>match LD.lstAt Z x with
  |none=>.bad
  |some xs=>match xs[i]? with
   |none=>.ok acc Z
   |some y=>(gt y h Z).bind λa f=>(c a f).bind λb d=>if b=P then(g a d).bind λz e=>(if acc.length<1000000 then eR gt c g x m (i+1) a e (acc++[z])else .bad)else eR gt c g x m (i+1) a d acc
def rp(n:Nat)(f:G Nat)(e:cZ)(gt:wb)(c:tQ)(g:cZ):cZ:=λd Z=>(e d Z).bind λx b=>(jB (eR gt c g x 1000000 0 (jq n f d) b [])).bind λxs a=>.ok (.rf a.length) (a++[.lst xs])
section
variable{K:UN}{E:XK}{B:cg}{X:Hp}{Y:bg UX}{Z1:bh}{U:L2.St}{ρ:bC}
def Cz{own:bg Str}{fv:bg (Str×Nat)}{g:TG}{tc:TT}{te:TE}{gt:wb}{V:tQ}{s:cZ}{n j M:Nat}{a:UX}{fj:bg Nat}{Q:VK}(hn:own.length=n)(hf:fv.map (·.2)=fj)
  (hg:KI K E g gt) (ht:yR K E tc V) (he:cX K E te s) (s1:VD B K X Y Z1) (sl1:XJ (ow B Y Z1) K X Y U ρ) (hj:Y[j]?=lD a) (w1:WS K E B X Y Z1 (PQ B K Q) ((eR gt V s (.rf j) M 0 (jq n fj ρ) Z1 []).bind λxs k=>.ok (.rf k.length) (k++[.lst xs]))):
  ∀D,X D=UO->EZ (Tl K a) D (iq own fv U) g tc te X λH'=>Q (.ref D) H':=by
 intro t S;let slc:XJ (ow B Y Z1) K X Y (iq own fv U) (jq n fj ρ):=Db hn hf sl1;generalize qr:eR gt V s (.rf j) M 0 (jq n fj ρ) Z1 []=rr at w1;by_cases A:rr=.bad
 .subst A;show w1.elim
 .
  let hB:¬B t:=λz=>s1.bn t z S;let evH:∀{f:bg UX} {k:bh} {H':Hp},WJ Y Z1 X f k H'->Ev (ow B Y Z1) X (ow (bV B t) f k) H':=λe b o h n=>#[e.kp b o h λz=>n (.inr z),λz=>by
   rcases z with(z|z)|z
   .show n (.inl z)
   .rw[z,S]at h;ext h
   .show(e.lv b z).elim (λq=>n (.inr q)) λq=>by rw[h]at q;ext q]
  show#[λi m σ' H'=>∃f k ρc l C,WJ Y Z1 X f k H'/\VD (bV B t) K H' f k/\XJ (ow (bV B t) f k) K H' f σ' ρc/\H' t=lD (.lst C)/\W7 (ow (bV B t) f k) K H' f C l/\eR gt V s (.rf j) m i ρc k l=rr,
   #[_,Y,Z1,jq n fj ρ,[],[],WJ.same (bO S _),s1.hide S,?_,aO,.nil,qr],?_]
  .show#[slc.1,λj x hx=>let#[v,h1,h2]:=slc.2 j x hx;#[v,h1,h2.ev (evH (WJ.same (bO S _))) λ_ _ h=>h]]
  .rintro i m σ2 H2 ⟨f,k,ρ2,l,C,H,P,sl2,hy,vy,d⟩
   cases m with
   |zero=>show a6 d.symm A
   |succ m=>
   unfold eR at d;cases ql:LD.lstAt k (.rf j)with
   |none=>rw[ql]at d;show a6 d.symm A
   |some xs=>
   rw[ql]at d;dsimp only at d;let(a',G,ea,k1,k2):=LD.lst_at P (v:=.ref a) (x:=.rf j) #[a,H.pre j a hj,W] ql;ext ea;let(y1,y2):=GC (i:=i) k2;cases qv:G[i]? with
   |some u=>
    let(y,qx,hyv):=y1 u qv;rw[qx]at d;dsimp only at d;show .inr #[#[G,u,Y4.of k1,qv],λσ5 J=>∃f k ρc l C,WJ Y Z1 X f k J/\VD (bV B t) K J f k/\XJ (ow (bV B t) f k) K J f σ5 ρc/\J t=lD (.lst C)/\W7 (ow (bV B t) f k) K J f C l/\eR gt V s (.rf j) m (i+1) ρc k l=rr,
     λσ5 J h=>#[m,WN m,h],?_]
    rintro u' H3 ⟨rfl,hu⟩;let:=(hu G (Y4.of k1)).symm.trans qv;ext this;let kD:∀{αx αy:bg UX} {Zx Zy:bh} {Hx Hy:Hp} {o:HO},VD (bV B t) K Hx αx Zx->WJ αx Zx Hx αy Zy Hy->Hx t=lD o->Hy t=lD o:=λsx ex h=>ex.kp _ _ h λ#[i,c,q,_]=>sx.ba t (.inr W) i q;let w:∀{N:bg UX} {Z:bh} {H3:Hp} {z:Xc} {I:bh},WJ Y Z1 X N Z H3->RS.er z I=rr->∀c dx α' H',WJ N Z H3 α' I H'->VD (bV B t) K H' α' I->XOk K (ow (bV B t) α' I) H' c dx z->E c dx H':=λ{N Z H3 z I} e3 q c dx α' H' e s' x'=>by subst q;show w1 c dx α' H' (e3.trans e) s'.afa (XOk.sub (λb y=>y.elim (λy=>.inl (.inl y)) .inr) x')
    show hg (bV B t) σ2 H3 f k ρ2 u y _ P sl2 hyv ?_;cases qg:gt y ρ2 k with
    |er z I=>rw[qg]at d;show w H d
    |bad=>rw[qg]at d;show a6 d.symm A
    |ok p Z4=>
     rw[qg]at d;intro α4 H4 e4 s4 σ4 sl4;show ht (bV B t) σ4 H4 α4 Z4 p _ s4 sl4 ?_;let d:((V p Z4).bind λb k=>if b=US then(s p k).bind λx Z=>(if l.length<1000000 then eR gt V s (.rf j) m (i+1) p Z (l++[x])else .bad)else eR gt V s (.rf j) m (i+1) p k l)=rr:=d;cases qt:V p Z4 with
     |er z I=>rw[qt]at d;show w (H.trans e4) d
     |bad=>rw[qt]at d;show a6 d.symm A
     |ok b Z5=>
      rw[qt]at d;intro α5 J e5 s5;let O:=sl4.Xt e5;let F:=e4.trans e5;cases b with
      |false=>let d:eR gt V s (.rf j) m (i+1) p Z5 l=rr:=d;show#[α5,Z5,p,l,C,H.trans F,s5,O,kD P F hy,W7.Xt F vy,d]
      |true=>
       let d:((s p Z5).bind λx Z=>(if l.length<1000000 then eR gt V s (.rf j) m (i+1) p Z (l++[x])else .bad))=rr:=d;rw[av W];show he (bV B t) σ4 J α5 Z5 p _ s5 O ?_;cases qe:s p Z5 with
       |er z I=>rw[qe]at d;show w (H.trans F) d
       |bad=>rw[qe]at d;show a6 d.symm A
       |ok x6 Z6=>
        rw[qe]at d;intro L H6 e6 s6 v6 hv6;let d:(if l.length<1000000 then eR gt V s (.rf j) m (i+1) p Z6 (l++[x6])else .bad)=rr:=d;by_cases R:l.length<1000000
        .rw[av R]at d;let T:=F.trans e6;let hy6:H6 t=lD (.lst C):=kD P T hy;let vy6:=W7.Xt T vy;let em:Ev (ow (bV B t) L Z6) H6 (ow (bV B t) L Z6) (bJ H6 t (.lst (C++[v6]))):=Ev.mut (.inl (.inr W)) _;let sl6:=O.Xt e6;show#[C,hy6,vi (by rw[vy6.length];show R),L,Z6,p,l++[x6],C++[v6],(H.trans T).dd S,s6.ahb hy6,#[sl6.1,λj x hx=>let#[v,h1,h2]:=sl6.2 j x hx;#[v,h1,h2.ev em λ_ _ h=>h]],aO,tq (Paired.Zt vy6 λ_ _ r=>r.ev em λ_ _ h=>h) (hv6.ev em λ_ _ h=>h),d]
        .rw[ax R]at d;show a6 d.symm A
   |none=>rw[y2 qv]at d;let d:RS.ok l k=rr:=d;subst d;show .inl #[#[G,Y4.of k1,Yh.mp qv],?_];show w1 (f++[t]) H2 #[λi a h=>e9 (H.pre i a h),H.kp,λb z=>(qY P.len z).elim (H.lv b) λz=>.inr (by rw[z];show S)] (P.adopt hy vy hB) (.ref t) #[t,by rw[<-P.len];show a9,W]
def qB{own:bg Str}{r:bg (Str×Nat)}{f:TE}{g:TG}{i:TT}{h:TE}{k:cZ}{gt:wb}{c:tQ}{L:cZ}{n:Nat}{D:bg Nat}(T:own.length=n)(C:r.map (·.2)=D)
  (z:cX K E f k) (A:KI K E0 g gt) (y:yR K E0 i c) (F:cX K E0 h L):cX K E (wB own r (za K f) g i h) (rp n D k gt c L):=by
 intro B U H α Z ρ Q s m w;show z B U H α Z ρ _ s m (WS.imp (WS.bind w) λx Y Z1 X G o t v p=>?_);let b:=Je t;obtain⟨j,rfl,xs,q⟩:∃j,x=.rf j/\∃xs,LD.lstAt Z1 x=R xs:=by
  cases q:LD.lstAt Z1 x with
  |none=>unfold eR at b;rw[q]at b;show b.elim
  |some xs=>
   cases x with
   |rf j=>show#[j,W,xs,W]
   |fz d=>ext q
   |tp l=>ext q
 let(a,N,rfl,u,I):=LD.lst_at o p q;let(J,ha,e):=p;ext e;show#[a,W,.inl #[#[N,Y4.of u],Cz T C A y F o (m.Xt G) ha b]]
end
end L10
namespace L10
open PySem L2 L3
section
variable{ρ:bC}{Z Y:bh}{x:SV}{xs:bg SV}{fe fl:cZ}{gt:wb}{ft:tQ}{N:bC->bh->Prop}{T:SV->bh->Prop}{X:Xc->Prop}{n:Nat}{fj:bg Nat}
theorem FX{b:eK}(m i:Nat):fZ gt b x (m+1) i ρ Z=(RS.V4 Z (LD.lstAt Z x)).bind λxs Z=>match xs[i]? with
  |none=>.ok (.nx ρ) Z
  |some y=>(gt y ρ Z).bind λd Y=>(b d Y).bind λfl a=>match fl with
   |.nx c=>fZ gt b x m (i+1) c a
   |.ct c=>fZ gt b x m (i+1) c a
   |.bk c=>.ok (.nx c) a
   |.rt z=>.ok (.rt z) a:=W
theorem D8{b:eK}(I:Nat->bC->bh->Prop)(d:∀i ρ Z,I i ρ Z->LD.lstAt Z x=R xs)(t:∀i y ρ Z,xs[i]?=R y->I i ρ Z->∃c Y,gt y ρ Z=.ok c Y/\mO (b c Y) (I (i+1)) T X)(f:∀s u,I xs.length s u->N s u):∀(m i:Nat) (ρ:bC) (Z:bh),xs.length - i<m->i<=xs.length->I i ρ Z->mO (fZ gt b x m i ρ Z) N T X
 |0,i,ρ,Z,h,_,_=>a6 h (Xr _)
 |m+1,i,ρ,Z,h,A,h0=>by
  cases q:xs[i]? with
  |none=>let e:i=xs.length:=agn A (Yh.mp q);show .eq (show fZ gt b x (m+1) i ρ Z=.ok (.nx ρ) Z from ?_) #[f _ _ (e▸h0)];ext fZ;rw[d i ρ Z h0];show(match xs[i]? with|none=>RS.ok (FlS.nx ρ) Z|some y=>_)=_;rw[q]
  |some y=>
   let g:=(UP.mp q).1;let(c,Y,l,j):=t i y ρ Z q h0;show .eq (show fZ gt b x (m+1) i ρ Z=(b c Y).bind λfl a=>match fl with
    |.nx p=>fZ gt b x m (i+1) p a
    |.ct p=>fZ gt b x m (i+1) p a
    |.bk p=>.ok (.nx p) a
    |.rt z=>.ok (.rt z) a from ?_) (Out.bind (j.imp λfl o k=>?_))
   .rw[FX,d i ρ Z h0]
    show(match xs[i]? with|none=>RS.ok (FlS.nx ρ) Z|some y=>(gt y ρ Z).bind λc Y=>(b c Y).bind λfl a=>match fl with
     |.nx p=>fZ gt b x m (i+1) p a
     |.ct p=>fZ gt b x m (i+1) p a
     |.bk p=>.ok (.nx p) a
     |.rt z=>.ok (.rt z) a)=_
    rw[q];show((gt y ρ Z).bind λc Y=>(b c Y).bind λfl a=>match fl with
     |.nx p=>fZ gt b x m (i+1) p a
     |.ct p=>fZ gt b x m (i+1) p a
     |.bk p=>.ok (.nx p) a
     |.rt z=>.ok (.rt z) a)=_
    rw[l,eH]
   .cases fl with
    |nx r=>show D8 I d t f m (i+1) r o () g k
    |rt v=>show#[k]
    |ct r=>show k.elim
    |bk r=>show k.elim
def LJ{b:eK}(I:Nat->bC->bh->Prop)(a:fe ρ Z=.ok x Y)(f:xs.length<1000000)(e:∀i ρ Z,I i ρ Z->LD.lstAt Z x=R xs)(h0:I 0 ρ Y)(j:∀i y ρ Z,xs[i]?=R y->I i ρ Z->∃c Y,gt y ρ Z=.ok c Y/\mO (b c Y) (I (i+1)) T X)(d:∀g h,I xs.length g h->N g h):mO (Dm fe gt b ρ Z) N T X:=by show .eq ?_ (D8 I e j d 1000000 0 ρ Y () (VF _) h0);ext Dm;rw[a,eH]
theorem mL{α:Type}(e f:α->SV)(Z:bh)(I:bC->Prop){b:G α}(d:LD.lstAt Z x=R (b.map e))(s:b.length<=999999)(k:∀a∈b,∀ρ,I ρ->∃c,gt (e a) ρ Z=.ok c Z/\ft c Z=.ok P Z/\fe c Z=.ok (f a) Z/\I c):∀(m i:Nat) (ρ:bC),b.length - i<m->i<=b.length->I ρ->eR gt ft fe x m i ρ Z ((b.take i).map f)=.ok (b.map f) Z
 |0,i,ρ,h,_,_=>a6 h (Xr _)
 |m+1,i,ρ,h,r,h0=>by
  ext eR;rw[d];dsimp only;rw[U4];cases q:b[i]? with
  |none=>let e:i=b.length:=agn r (Yh.mp q);show RS.ok ((b.take i).map f) Z=_;rw[e,W6]
  |some a=>let g:=(UP.mp q).1;let(c,p,o,l,j):=k a (Ve q) ρ h0;show((gt (e a) ρ Z).bind _)=_;rw[p,eH,o,eH,av W,l,eH,av (by rw[UR,V5];ext)];let:=mL e f Z I d s k m (i+1) c () g j;rw[Xq,q,Vu]at this;show this
def vp{a:bh}{b:G SV}(c:fl ρ Z=.ok x Y)(d:eR gt ft fe x 1000000 0 (jq n fj ρ) Y []=.ok b a):rp n fj fl gt ft fe ρ Z=.ok (.rf a.length) (a++[.lst b]):=by ext rp;rw[c,eH,d,lV,eH]
end
end L10
namespace M02
inductive Con(E:G (Nat×Nat))(r0:Nat):Bool->Nat->Prop
 |base:Con E r0 P r0
 |col {r c:Nat}:Con E r0 P r->(r,c)∈E->Con E r0 U0 c
 |row {r c:Nat}:Con E r0 U0 c->(r,c)∈E->Con E r0 P r
def has(n c:Nat):Prop:=n.testBit c=P
structure Nums(E:G (Nat×Nat))(R C:Nat)(ns:G Nat):Prop where
 len:ns.length=R
 lt:∀n∈ns,n<2^C
 own:∀r c,(r,c)∈E->has (ns.getD r 0) c
 snd:∀r,r<R->∀c,has (ns.getD r 0) c->Con E r U0 c
abbrev NF:=G Nat×G Nat
structure apd(E:G (Nat×Nat))(r0:Nat)(s:NF):Prop where
 a:r0∈s.1
 n:∀x∈s.1,Con E r0 P x
 f:∀x∈s.2,Con E r0 U0 x
 d:s.2.Nodup
 d1:s.1.Nodup
structure arp(R C:Nat)(ss:G (Nat×Nat)):Prop where
 r1:1<=R
 r6:R<=6
 c1:1<=C
 c6:C<=6
 l1:1<=ss.length
 l12:ss.length<=12
 nd:ss.Nodup
 inn:∀s∈ss,s.1<R/\s.2<C
end M02
local macro_rules(kind:=«term{_}»)|`({$a})=>`(L3.af $a L3.aD)|`({$a,$b})=>`(L3.af $a (L3.af $b L3.aD))|`({$a,$b,$c})=>`(L3.af $a (L3.af $b (L3.af $c L3.aD)))|`({$a,$b,$c,$d})=>`(L3.af $a (L3.af $b (L3.af $c (L3.af $d L3.aD))))
local macro_rules|`(~~~$n)=>`(L3.pC (.int $n))
namespace STP
open PySem L2 L3
def nZ:FS:=(bN (lz (a8 (aY pE (aY bE (ae 0) (~~~2)) (pC .none))) (dH (aY bE (ae 0) (~~~2))) d5)
 (dH (jW (L10.Hj 0) {iC 2 [] (lw (aY bE (ae 0) (~~~0))) (gT 2 (KF (gN 0) (KF (gN 1) RT))) (a8 (aY cY (aY bE (ae 1) (~~~0)) (pC (.str "layer")))) (aY bE (ae 1) (~~~1))})))
def eD:FN:=gG 1 nZ
def mw:FS:=(bN (gc (aY bE (aY bE (aY bE (ae 0) (~~~1)) (ae 1)) (ae 2)) (gN 3))
 (bN (lz (a8 (aY cY (aY bE (ae 3) (~~~0)) (pC (.str "below")))) (dH (aY bE (aY bE (aY bE (ae 0) (~~~1)) (~~~0)) (ae 2))) d5)
 (dH (ae 3))))
def jA:FN:=gG 4 mw
def jN:FS:=(dH (iC 1 [1] (lw (aY bE (ae 0) (~~~2))) (gN 0) (a8 (jW vT {iC 1 [0] (lw (ae 1)) (gN 0) hV (aY Gp (ae 0) (aY bE (ae 1) (~~~0)))})) (ae 0)))
def bT:FN:=gG 2 jN
def kF:FS:=(bN (rA (lw (aY bE (ae 0) (~~~2))) (gN 2) (lz (a8 (aY cY (jW yQ {aY bE (ae 2) (~~~0)}) (jW L9.iQ {ae 1}))) (dH (aY dM (dh {bZ {pC (.str "letter"),aY bE (ae 2) (~~~1)}}) (aY jf (dh {pC (.tuple [(.str "none")])}) (aY vR (jW dB {ae 1}) (~~~1))))) d5))
 (dH (iC 1 [0] (lw (ae 1)) (gN 0) hV (aY bE (aY bE (aY bE (ae 1) (~~~1)) (~~~0)) (ae 0)))))
def gr:FN:=gG 3 kF
open L10
def lg:eK:=(aZ (gj "Hand" "bed" (aA 0) (aa (ae 1)))
 (aZ (gj "Hand" "acts" (aA 0) (zy (aa (aY bE (ae 2) (~~~0)))))
 (aZ (gj "Hand" "waiting" (aA 0) (aa (aY bE (ae 2) (~~~1))))
 (aZ (gj "Hand" "once" (aA 0) (aa (aY bE (ae 2) (~~~2))))
 (gj "Hand" "sent" (aA 0) (aa (dh aD)))))))
def eG:jr:=dL 3 lg
def nu:eK:=(fR (kg (aq (nt t7 (aq (oJ 1 [0] (lC (wU (bH "Hand" "acts" (aA 0)))) (fT 0) iB (kg (aq (aa (ae 0)) (aq (wN (bH "Hand" "acts" (aA 1)) (aa (ae 0))) aX)))) aX)) (aq (bH "Hand" "waiting" (aA 0)) (aq (bH "Hand" "once" (aA 0)) aX)))))
def bU:jr:=dL 1 nu
def jE:eK:=(fR (yf (iU pE (bH "Hand" "waiting" (aA 0)) (aa (pC .none))) (iU Gp (aa (ae 1)) (d6 (bH "Hand" "waiting" (aA 0)) (aa (~~~0))))))
def cz:jr:=dL 2 jE
def lG:eK:=(fR (iU Gp (aa (ae 1)) (Dk (bH "Hand" "acts" (aA 0)))))
def b3:jr:=dL 2 lG
def lB:eK:=(aZ (cH (nX (cr (a8 (aY cY (aY bE (ae 2) (~~~0)) (pC (.str "letter"))))) (mX (bt (bu "Hand" "has_act" b3 2 (aA 0) (aq (aa (ae 2)) aX))))) (b6 (uM (bH "Hand" "sent" (aA 0)) (aa (bZ {aY bE (ae 2) (~~~1),pC (.str "down")})))) cL)
 (Av (bH "Hand" "acts" (aA 0)) (aa (ae 1)) (aa (ae 2))))
def bK:jr:=dL 3 lB
def rh:eK:=(aZ (dI (AN (bH "Hand" "acts" (aA 0)) (aa (ae 1))) (fT 2))
 (cH (nX (cr (a8 (aY cY (aY bE (ae 2) (~~~0)) (pC (.str "letter"))))) (mX (bt (bu "Hand" "has_act" b3 2 (aA 0) (aq (aa (ae 2)) aX))))) (b6 (uM (bH "Hand" "sent" (aA 0)) (aa (bZ {aY bE (ae 2) (~~~1),pC (.str "up")})))) cL))
def ka:jr:=dL 3 rh
def nF:eK:=(aZ (dI (d6 (bH "Hand" "waiting" (aA 0)) (aa (~~~0))) (fT 1))
 (aZ (dI (d6 (bH "Hand" "waiting" (aA 0)) (aa (~~~2))) (fT 2))
 (aZ (gj "Hand" "waiting" (aA 0) (aa (pC .none)))
 (aZ (dI (sd (Qa (cr (a8 (aY cY (ae 2) (pC (.tuple [(.str "chord")]))))) (jZ gr 2 (aq (bH "Hand" "bed" (aA 0)) (aq (aa (ae 1)) aX))) (aa (dh {bZ {pC (.str "layer"),aY bE (ae 2) (~~~2)}})))) (fT 3))
 (A3 (pc (Jm {ae 1,ae 3})) (Rt 2 (xU (fT 4) (xU (fT 5) Gy))) (b6 (bu "Hand" "come" bK 3 (aA 0) (aq (aa (ae 4)) (aq (aa (ae 5)) aX)))))))))
def ck:jr:=dL 6 nF
def fV:eK:=(aZ (cH (wo (bt (iU yg (bH "Hand" "waiting" (aA 0)) (aa (pC .none)))) (wo (bt (iU nj (d6 (bH "Hand" "waiting" (aA 0)) (aa (~~~2))) (aa (pC (.tuple [(.str "chord")]))))) (bt (iU nj (jZ eD 1 (aq (bu "Hand" "stands" bU 1 (aA 0) aX) aX)) (aa (~~~0)))))) (fR (aa (pC (.bool U0)))) cL)
 (fR (iU nj (jZ bT 2 (aq (bH "Hand" "bed" (aA 0)) (aq (iU dM (d6 (bH "Hand" "waiting" (aA 0)) (aa (~~~0))) (aa (bZ {ae 1}))) aX))) (aa (dh aD)))))
def eC:jr:=dL 2 fV
def iz:eK:=(aZ (dI (iU dM (d6 (bH "Hand" "waiting" (aA 0)) (aa (~~~0))) (aa (bZ {ae 1}))) (fT 2))
 (aZ (gj "Hand" "waiting" (aA 0) (kg (aq (aa (ae 2)) (aq (d6 (bH "Hand" "waiting" (aA 0)) (aa (~~~1))) (aq (aa (pC (.tuple [(.str "chord")]))) aX)))))
 (cH (bt (iU cY (oJ 1 [] (lC (jZ bT 2 (aq (bH "Hand" "bed" (aA 0)) (aq (aa (ae 2)) aX)))) (fT 0) iB (aa (jW dB {aY bE (ae 0) (~~~0)}))) (aa (dh {jW dB {ae 2}})))) (b6 (bu "Hand" "decide" ck 1 (aA 0) aX)) cL)))
def dU:jr:=dL 3 iz
def kM:eK:=(aZ (dI (jZ eD 1 (aq (bu "Hand" "stands" bU 1 (aA 0) aX) aX)) (fT 2))
 (aZ (dI (jZ jA 3 (aq (bH "Hand" "bed" (aA 0)) (aq (aa (ae 2)) (aq (aa (ae 1)) aX)))) (fT 3))
 (aZ (dI (aa (aY bE (ae 3) (~~~0))) (fT 4))
 (aZ (cH (cr (a8 (aY Cu (ae 4) (bZ {pC (.str "layer"),pC (.str "once")})))) (gj "Hand" "once" (aA 0) (aa (pC .none))) cL)
 (cH (cr (a8 (aY cY (ae 4) (pC (.str "tap"))))) (gj "Hand" "waiting" (aA 0) (aa (bZ {bZ {ae 1},~~~0,ae 3}))) (cH (nX (cr (a8 (aY cY (ae 4) (pC (.str "letter"))))) (nX (cr (a8 (aY cY (ae 2) (~~~0)))) (bt (iU nj (jZ bT 2 (aq (bH "Hand" "bed" (aA 0)) (aq (aa (bZ {ae 1})) aX))) (aa (dh aD)))))) (gj "Hand" "waiting" (aA 0) (aa (bZ {bZ {ae 1},~~~0,pC (.tuple [(.str "chord")])}))) (cH (cr (a8 (aY cY (ae 4) (pC (.str "once"))))) (aZ (b6 (bu "Hand" "come" bK 3 (aA 0) (aq (aa (ae 1)) (aq (aa (pC (.tuple [(.str "none")]))) aX))))
 (gj "Hand" "once" (aA 0) (aa (aY bE (ae 3) (~~~1))))) (b6 (bu "Hand" "come" bK 3 (aA 0) (aq (aa (ae 1)) (aq (aa (ae 3)) aX)))))))))))
def gC:jr:=dL 5 kM
def kX:eK:=(aZ (cH (wo (bt (zV U0 (aa (ae 1)) (bH "Hand" "acts" (aA 0)))) (bt (bu "Hand" "is_waiting" cz 2 (aA 0) (aq (aa (ae 1)) aX)))) wO cL)
 (aZ (cH (bt (bu "Hand" "makes_chord" eC 2 (aA 0) (aq (aa (ae 1)) aX))) (aZ (b6 (bu "Hand" "put_to_chord" dU 2 (aA 0) (aq (aa (ae 1)) aX)))
 wO) cL)
 (aZ (cH (bt (iU pE (bH "Hand" "waiting" (aA 0)) (aa (pC .none)))) (b6 (bu "Hand" "decide" ck 1 (aA 0) aX)) cL)
 (b6 (bu "Hand" "begin" gC 2 (aA 0) (aq (aa (ae 1)) aX))))))
def iG:jr:=dL 2 kX
def jK:eK:=(aZ (dI (d6 (bH "Hand" "waiting" (aA 0)) (aa (~~~2))) (fT 2))
 (cH (cr (a8 (aY cY (ae 2) (pC (.tuple [(.str "chord")]))))) (b6 (bu "Hand" "decide" ck 1 (aA 0) aX)) (aZ (gj "Hand" "waiting" (aA 0) (aa (pC .none)))
 (b6 (bu "Hand" "come" bK 3 (aA 0) (aq (aa (ae 1)) (aq (aa (bZ {pC (.str "letter"),aY bE (ae 2) (~~~1)})) aX)))))))
def gU:jr:=dL 3 jK
def mf:eK:=(aZ (cH (bt (bu "Hand" "is_waiting" cz 2 (aA 0) (aq (aa (ae 1)) aX))) (b6 (bu "Hand" "settle" gU 2 (aA 0) (aq (aa (ae 1)) aX))) cL)
 (cH (bt (zV U0 (aa (ae 1)) (bH "Hand" "acts" (aA 0)))) (b6 (bu "Hand" "go" ka 2 (aA 0) (aq (aa (ae 1)) aX))) cL))
def jx:jr:=dL 2 mf
def jh:eK:=(aZ (cH (bt (iU yg (bH "Hand" "waiting" (aA 0)) (aa (pC .none)))) wO cL)
 (aZ (dI (iU dM (d6 (bH "Hand" "waiting" (aA 0)) (aa (~~~1))) (aa (~~~1))) (fT 1))
 (aZ (gj "Hand" "waiting" (aA 0) (kg (aq (d6 (bH "Hand" "waiting" (aA 0)) (aa (~~~0))) (aq (aa (ae 1)) (aq (d6 (bH "Hand" "waiting" (aA 0)) (aa (~~~2))) aX)))))
 (cH (bt (iU cY (aa (ae 1)) (d6 (bH "Hand" "bed" (aA 0)) (aa (~~~3))))) (b6 (bu "Hand" "decide" ck 1 (aA 0) aX)) cL))))
def gA:jr:=dL 2 jh
def BM:eK:=(aZ (dI (wz "Hand" eG 3 (aq (aa (ae 0)) (aq (aa (ae 1)) aX))) (fT 3))
 (aZ (cH (cr (a8 (aY cY (aY bE (ae 2) (~~~0)) (pC (.str "turn"))))) (b6 (bu "Hand" "wait_on" gA 1 (aA 3) aX)) (cH (cr (a8 (aY cY (aY bE (ae 2) (~~~0)) (pC (.str "down"))))) (b6 (bu "Hand" "press" iG 2 (aA 3) (aq (aa (aY bE (ae 2) (~~~1))) aX))) (b6 (bu "Hand" "lift" jx 2 (aA 3) (aq (aa (aY bE (ae 2) (~~~1))) aX)))))
 (fR (kg (aq (bH "Hand" "sent" (aA 3)) (aq (bu "Hand" "stands" bU 1 (aA 3) aX) aX))))))
def dQ:jr:=dL 4 BM
end STP
local macro_rules| `(tactic|ext:20)=> `(tactic|·first|((simp only[aeM,aeN]);rfl)|rfl)| `(tactic|ext:17)=> `(tactic|first|with_reducible assumption|change L3.gw _ _|change L3.vg _ _|change L3.n6 _ _|change L3.Jw _ _|change L3.wG _ _|change L3.z6 _ _|change L3.alj _ _|change L3.ak1 _ _|change L3.iL _ _|change L3.xp _ _|change L3.afj _ _|change L3.afh _ _|change L3.ajH _ _|change L3.ajA _ _|change L3.xX _ _|change L3.ajW _ _|change L3.ajp _ _|change L3.aiQ _ _|change L3.xO _ _|change L3.ai6 _ _|change L3.ai3 _ _|change L3.aj9 _ _|change L3.al4 _ _|change L3.io|change L3.jo|change L3.u9|change L3.apI|change L3.aoV|change L3.NG|change L3.jT _|change L3.fq _|(with_reducible rfl))| `(tactic|ext:0)=> `(tactic|first
 |change L3.aG
 |((exists L3.ag);rfl)
 |((exists L3.kS);rfl)
 |change L3.aM
 |change L3.p7
 |((exists L3.aN);(·ext:0);(·ext:0);(·rfl);(·rfl);(·ext:17))
 |((exists L3.C9);(·ext:0);(·rfl);(·rfl))
 |((exists L3.aj);(·ext:0);(·ext:0))
 |((exists L3.bX);(·ext:0);(·rfl))
 |((exists L3.gI);(·ext:0);(·rfl);(·first|ext:17|rfl))
 |((exists L3.bS);(·ext:0);(·rfl);(·rfl);(·with_reducible assumption))
 |((exists L3.c9);(·ext:0);(·rfl);(·exact UW rfl))
 |((exists L3.ro);(·ext:0);(·rfl);(·exact UW rfl))
 |((exists L3.akW);(·ext:0);(·rfl);(·rfl))
 |((exists L3.pi);(·ext:0);(·rfl))
 |((exists L3.Dq);(·ext:0);(·ext:0);(·ext:0);(·rfl);(·first|with_reducible assumption|rfl))
 |((exists L3.ajD);(·ext:0))
 |((exists L3.pA);(·ext:0);(·intro _;ext:0))
 |((exists L3.Jy);(·ext:0);(·intro _;ext:0))
 |((exists L3.akb);(·ext:0))
 |((exists L3.xo);(·ext:0);(·intro _;ext:0))
 |((exists L3.aha);(·ext:0);(·intro _;ext:0))
 |((exists L3.Lx);(·ext:0);(·rfl);(·first|with_reducible assumption|rfl))
 |((exists L3.mW);(·ext:0);(·rfl);(·rfl))
 |((exists L3.ais);(·ext:0);(·rfl);(·rfl))
 |((exists L3.xF);(·rfl);(·ext:0);(·rfl);(·rfl);(·first|with_reducible assumption|(simp only[WG,Vd,L3.gY] at*;ext));ext:20)
 |((exists L3.alW);(·rfl);(·ext:0);(·rfl);(·rfl);(·with_reducible assumption);(·with_reducible assumption);(·with_reducible assumption);ext:20)
 |((exists L3.Cp);(·ext:0);(·rfl);ext:20)
 |((exists L3.Ep);(·ext:0))
 |((exists L3.yP);(·ext:0);(·rfl)))
local macro_rules| `(tactic|ext:28)=> `(tactic|first
 |((exists L3.al3);(·ext:0);(·ext:0);(·rfl);(·rfl);(·ext:17))
 |((exists L3.ajI);(·ext:0);(·rfl);(·rfl);(·with_reducible assumption))
 |((exists L3.aky);(·ext:0);(·rfl);(·first|ext:17|rfl))
 |ext:0)
local macro_rules| `(tactic|ext:0)=> `(tactic|first
 |with_reducible assumption
 |((exists L3.xo);(·ext:0);(·intro _;ext:28))
 |((exists L3.aha);(·ext:0);(·intro _;ext:28))
 |((exists L3.aiD);(·ext:0);(·ext:0);(·ext:0);(·rfl);(·rfl);(·rfl);(·ext:17);(·intro _;ext:17))
 |((exists L3.Ei);(·ext:0);(·rfl);(·rfl);(·rfl)))
local macro_rules| `(tactic|ext:14)=> `(tactic|first
 |((exists L3.dj);(·ext:0);(·rfl);ext:20;try ext:14)
 |((exists L3.ajS);(·ext:0);try ext:14)
 |((exists L3.BK);try ext:14)
 |((exists L3.dS);try ext:14)
 |((exists L3.fJ);(·ext:0);(·rfl))
 |((exists L3.iZ);(·ext:0))
 |((exists L3.akI);(·ext:0);(·rfl);ext:20)
 |((exists L3.sY);(·ext:0))
 |((exists L3.fw);(·ext:0);(·rfl))
 |((exists L3.CZ);(·ext:0))
 |(exists L3.sU))
namespace STP
open PySem L2 L3
def kh(c:Nat):Str:=#[#v[97+c]]
inductive Mn where
 |VI (c:Nat)
 |X7 (n:Int)
 |tap (c:Nat) (n:Int)
 |once (n:Int)
 |none
 |below
 deriving DecidableEq
def mD:Mn->D
 |.VI c=>.tuple [.str "letter",.str (kh c)]
 |.X7 n=>.tuple [.str "layer",.int n]
 |.tap c n=>.tuple [.str "tap",.str (kh c),.int n]
 |.once n=>.tuple [.str "once",.int n]
 |.none=>.tuple [.str "none"]
 |.below=>.tuple [.str "below"]
def VM(L a:Int):Mn->Prop
 |.VI c=>c<26
 |.X7 n=>1<=n/\n<a
 |.tap c n=>c<26/\1<=n/\n<a
 |.once n=>1<=n/\n<a
 |.none=>True
 |.below=>L≠0
def Mn.isL:Mn->Bool
 |.VI _=>P
 |_=>U0
structure Bd where
 n:Int
 ls:G (G Mn)
 cs:G (G Nat×Nat)
 wt:Int
def eN(l:G Mn):D:=.tuple (l.map mD)
def eP(c:G Nat×Nat):D:=.tuple [.tuple (cb c.1),.str (kh c.2)]
def bD(b:Bd):D:=.tuple [.int b.n,.tuple (b.ls.map eN),.tuple (b.cs.map eP),.int b.wt]
def VL(n a:Int)(b:G (G Mn)):Prop:=∀(i:Nat) l,b[i]?=R l->(l.length:Int)=n/\∀m∈l,VM i a m
def A4(l0:G Mn)(k:Nat):Bool:=(l0[k]?.map Mn.isL).getD U0
def VC(l0:G Mn)(c:G Nat×Nat):Prop:=2<=c.1.length/\c.1.Pairwise (·<·)/\(∀k∈c.1,A4 l0 k=P)/\c.2<26
structure VB(b:Bd):Prop where
 n1:1<=b.n
 n5:b.n<=5
 l1:1<=b.ls.length
 l3:b.ls.length<=3
 vl:VL b.n b.ls.length b.ls
 c4:b.cs.length<=4
 vc:∀c∈b.cs,VC (b.ls.headD []) c
 cu:b.cs.Pairwise λa c=>a.1≠c.1
 w1:1<=b.wt
 w4:b.wt<=4
def wn:Mn->Nat
 |.VI _=>0
 |.X7 _=>1
 |.tap _ _=>2
 |.once _=>3
 |.none=>4
 |.below=>5
def ws:Nat->Str
 |0=> "letter"
 |1=> "layer"
 |2=> "tap"
 |3=> "once"
 |4=> "none"
 |_=> "below"
def wd(m:Mn):Str:=ws (wn m)
def rH(m:Mn):wn m<6:=by ext m<;>show UW W
def oS(m:Mn):bE (mD m) (.int 0)=R (.fz (.str (wd m))):=by ext m<;>show io
theorem NZ(m:Mn):UU.strOk (wd m)=P:=(by left:∀i,i<6->UU.strOk (ws i)=P) _ (rH m)
def zt:∀i,i<6->∀j,j<6->(ws i==ws j)=decide (i=j):=by left
def z5(m:Mn)(j:Nat)(a:j<6):cY (.str (wd m)) (.str (ws j))=R (.fz (.bool (decide (wn m=j)))):=by rw[S9 (NZ m) ((by left:∀i,i<6->UU.strOk (ws i)=P) j a)];ext wd;rw[zt _ (rH m) _ a]
def Mn.isB:Mn->Bool
 |.below=>P
 |_=>U0
def Mn.aez:Mn->Bool
 |.X7 _=>P
 |_=>U0
def Mn.isT:Mn->Bool
 |.tap _ _=>P
 |_=>U0
def Mn.isO:Mn->Bool
 |.once _=>P
 |_=>U0
theorem j9(m:Mn):cY (.str (wd m)) (.str "letter")=R (.fz (.bool m.isL)):=(z5 m 0 ()).trans (by ext m<;>rfl)
theorem Hc(m:Mn):cY (.str (wd m)) (.str "below")=R (.fz (.bool m.isB)):=(z5 m 5 ()).trans (by ext m<;>rfl)
theorem Kn(m:Mn):cY (.str (wd m)) (.str "layer")=R (.fz (.bool m.aez)):=(z5 m 1 ()).trans (by ext m<;>rfl)
theorem OP(m:Mn):cY (.str (wd m)) (.str "tap")=R (.fz (.bool m.isT)):=(z5 m 2 ()).trans (by ext m<;>rfl)
theorem KP(m:Mn):cY (.str (wd m)) (.str "once")=R (.fz (.bool m.isO)):=(z5 m 3 ()).trans (by ext m<;>rfl)
def Sz(m:Mn):Cu (.str (wd m)) (.tuple [.str "layer",.str "once"])=R (.fz (.bool (!(m.aez||m.isO)))):=by
 let h:∀a:Str,UU.strOk a=P->Cu (.str a) (.tuple [.str "layer",.str "once"])=R (.fz (.bool (!(("layer":Str)==a||("once":Str)==a)))):=λa b=>by show(if(lj (.str a)&&(UU.strOk "layer"&&(UU.strOk "once"&&P)))=P then R (RV.fz (.bool (!(UU.eqv (.str "layer") (.str a)||(UU.eqv (.str "once") (.str a)||false)))))else S)=_;rw[show lj (.str a)=P by ext lj;rw[show UU.canLay0 (.str a)=P from b];rfl,show UU.strOk "layer"=P by left,show UU.strOk "once"=P by left,ac5];rfl
 rw[h _ (NZ m)];ext wd;rw[show(("layer":Str)==ws (wn m))=_ from zt 1 () _ (rH m),show(("once":Str)==ws (wn m))=_ from zt 3 () _ (rH m)];ext m<;>rfl
def LB:Mn->Prop
 |.VI c=>c<26
 |.tap c _=>c<26
 |_=>True
def VM.lb(h:VM L nL m):LB m:=by
 cases m with
 |VI c=>show h
 |tap c n=>show h.1
 |_=>trivial
def og(h:c<26):UU.strOk (kh c)=P:=by show((#v[97+c]:Array Nat).all λc=>decide (c<0x110000))=P;simp;ext
def sI(h:kh c=kh d):c=d:=by
 let:(97+c)=97+d:=by let a:=et (λz:Str=>z.cps.toList) h;show List.head_eq_of_cons_eq a
 ext
def Bh(h:LB m):UU.canLay0 (mD m)=P:=by
 cases m with
 |VI c=>show(UU.strOk "letter"&&(UU.strOk (kh c)&&P))=P;rw[og h,show UU.strOk "letter"=P by left];rfl
 |X7 n=>show(UU.strOk "layer"&&(P&&P))=P;left
 |tap c n=>show(UU.strOk "tap"&&(UU.strOk (kh c)&&(P&&P)))=P;rw[og h,show UU.strOk "tap"=P by left];rfl
 |once n=>show(UU.strOk "once"&&(P&&P))=P;left
 |none=>show(UU.strOk "none"&&P)=P;left
 |below=>show(UU.strOk "below"&&P)=P;left
def J9(h:LB m):lj (mD m)=P:=by ext lj;rw[Bh h];ext m<;>rfl
def mR:Mn->G D
 |.VI c=>[.str (kh c)]
 |.X7 n=>[.int n]
 |.tap c n=>[.str (kh c),.int n]
 |.once n=>[.int n]
 |.none=>[]
 |.below=>[]
def N5(m:Mn):mD m=.tuple (.str (wd m)::mR m):=by ext m<;>rfl
def Sw(a b:Mn):decide (wd a=wd b)=decide (wn a=wn b):=by let h:=zt _ (rH a) _ (rH b);ext wd;rw[<-h];rfl
theorem DD(c d:Nat):decide (kh c=kh d)=decide (c=d):=decide_eq_decide.mpr #[sI,λh=>by rw[h]]
def P5(a b:Mn)(h:wn a=wn b):UU.eqvAll (mR a) (mR b)=decide (a=b):=by
 ext a<;>ext b<;>first|ext h|skip
 .show(decide (kh _=kh _)&&P)=_;rw[DD,abl];show decide_eq_decide.mpr #[λh=>by rw[h],λh=>by ext h;rfl]
 .show(decide (_=_)&&P)=_;rw[abl];show decide_eq_decide.mpr #[λh=>by rw[h],λh=>by ext h;rfl]
 .show(decide (kh _=kh _)&&(decide (_=_)&&P))=_;rw[DD,abl,<-Bool.decide_and];show decide_eq_decide.mpr #[λh=>by rw[h.1,h.2],λh=>by ext h;show#[W,W]]
 .show(decide (_=_)&&P)=_;rw[abl];show decide_eq_decide.mpr #[λh=>by rw[h],λh=>by ext h;rfl]
 .rfl
 .rfl
def Qr(a b:Mn):UU.eqv (mD a) (mD b)=decide (a=b):=by
 rw[N5,N5];show(decide (wd a=wd b)&&UU.eqvAll (mR a) (mR b))=_;rw[Sw];by_cases h:wn a=wn b
 .rw[aP h,YW,P5 a b h]
 .rw[a4 h,Yy,a4 λz=>h (by rw[z])]
theorem Ew:∀{l:G Mn},(∀m∈l,LB m)->UU.canLayAll0 (l.map mD)=P
 |[],_=>rfl
 |m::r,h=>by show(UU.canLay0 (mD m)&&UU.canLayAll0 (r.map mD))=P;rw[Bh (h m U5),Ew λx a=>h x (U6 _ a)];rfl
theorem D5(a:Mn):∀l:G Mn,((l.map mD).any λe=>UU.eqv e (mD a))=decide (a∈l)
 |[]=>rfl
 |m::r=>by rw[Vf,YX,D5 a r,Qr,<-Bool.decide_or];show decide_eq_decide.mpr (by rw[Vm];show#[λh=>h.imp (λz=>z.symm) id,λh=>h.imp (λz=>z.symm) id])
def K1{l:G Mn}(c:LB a)(b:∀m∈l,LB m):Gp (mD a) (.list (l.map mD))=R (.fz (.bool (decide (a∈l)))):=by show(if(lj (mD a)&&UU.canLayAll0 (l.map mD))=P then _ else _)=_;rw[J9 c,Ew b,WC,av W,D5]
def Dp(e:α->D)(g:α->br D)(I:bA->Prop)(xs:G α)(h0:I k)(d:xs.length<=1000)(n:∀x∈xs,∀k,I k->∃c,mj gt o C (e x) k=.ok (g x,c)/\I c):nW (eX gt o C (xs.map e) k [])=.ok (xs.filterMap g):=by
 let h:∀(xs:G α) (a:G D) (k:bA),I k->a.length+xs.length<=1000->(∀x∈xs,∀k,I k->∃c,mj gt o C (e x) k=.ok (g x,c)/\I c)->eX gt o C (xs.map e) k a=.ok (a++xs.filterMap g):=by
  intro xs
  induction xs with
  |nil=>intro a k _ _ _;show Res.ok a=_;rw[List.filterMap_nil,Vz]
  |cons x r f=>
   intro a k j d n;rw[Vd]at d;let(c,m,l):=n x U5 k j;rw[Vf,uS m ()];let b:(a++(g x).toList).length+r.length<=1000:=by
    rw[UZ];cases g x with
    |none=>rw[aee,WG];ext
    |some y=>rw[Option.toList_some,YR];ext
   rw[f _ c l b λy i=>n y (U6 _ i),Vw];cases q:g x with
   |none=>rw[ac9 q];rfl
   |some y=>rw[ada q];rfl
 rw[h xs [] k h0 (by simpa using d) n];rfl
def C7(a:dY o=o):dY (R (PV.fz d)::o)=R (.fz d)::o:=by show GR _::dY o=_;rw[a];rfl
def yp{α:Type}{c:FT}{k:FE}{a:bA}(e f:α->D)(p:α->Bool)(xs:G α)(i:xs.length<=1000)(l:dY a=a)(g:∀x∈xs,c (R (.fz (e x))::a)=.ok (p x,R (.fz (e x))::a))(j:∀x∈xs,p x=P->k (R (.fz (e x))::a)=.ok (.fz (f x),R (.fz (e x))::a)):nW (eX (gN 0) c k (xs.map e) (S::a) [])=.ok ((xs.filter p).map f):=by
 rw[Dp e (λx=>if p x=P then R (f x)else S) (λm=>∃o,m=o::a) xs #[S,W] i ?_]
 .congr 1
  clear i g j
  induction xs with
  |nil=>rfl
  |cons x r h=>
   cases q:p x with
   |true=>rw[ada (b:=f x) (by rw[av q]),List.filter_cons_of_pos q,h];rfl
   |false=>rw[ac9 (by rw[ax (by rw[q];simp)]),List.filter_cons_of_neg (by rw[q];simp),h]
 .rintro x d m ⟨o,rfl⟩
  cases q:p x with
  |true=>show#[_,MD W ((g x d).trans (by rw[q])) (j x d q) W (C7 l),_,W]
  |false=>show#[_,Sy W ((g x d).trans (by rw[q])) (C7 l),_,W]
theorem BR(xs:G α):xs.filter (λ_=>P)=xs:=List.filter_eq_self.mpr λ_ _=>W
def pB{α:Type}(e f:α->D)(xs:G α)(b:xs.length<=1000)(g:dY o=o)(d:∀x∈xs,C (R (.fz (e x))::o)=.ok (.fz (f x),R (.fz (e x))::o)):nW (eX (gN 0) hV C (xs.map e) (S::o) [])=.ok (xs.map f):=by rw[yp e f (λ_=>P) xs b g (λ_ _=>W) λx a _=>d x a,BR]
theorem j7(p:α->Bool):∀l:G α,ox (l.map λc=>UU.bool (p c))=R (l.map p)
 |[]=>rfl
 |c::r=>by show(ox (r.map λc=>UU.bool (p c))).map (p c::·)=_;rw[j7 p r];rfl
def p9(p:α->Bool)(l:G α):vT [.list (l.map λc=>UU.bool (p c))]=R (.fz (.bool (l.all p))):=by show(ox _).map (λbs=>RV.fz (.bool (bs.all id)))=_;rw[j7];show R (RV.fz (.bool _))=_;rw[aht];rfl
theorem tS:∀ns:G Int,qL (ns.map UU.int)=R ns
 |[]=>rfl
 |n::r=>by show(qL (r.map UU.int)).map (n::·)=_;rw[tS r];rfl
abbrev Ac:=Nat->I Mn
abbrev Wq:=I (G Nat×Int×I (Nat×Int))
structure Yg where
 ac:Ac
 wt:Wq
 oc:I Int
def iS(ac:Ac):G (Nat×Mn):=(Vc 5).filterMap λk=>(ac k).map λa=>(k,a)
def pD(p:Nat×Mn):D:=.tuple [nd p.1,mD p.2]
def vM:I (Nat×Int)->D
 |some (c,n)=>mD (.tap c n)
 |none=>.tuple [.str "chord"]
def kT:Wq->D
 |some (b,a,w)=>.tuple [.tuple (cb b),.int a,vM w]
 |none=>.none
def vI:I Int->D
 |some o=>.int o
 |none=>.none
def eJ(s:Yg):D:=.tuple [.tuple ((iS s.ac).map pD),kT s.wt,vI s.oc]
inductive YD where
 |down (k:Nat)
 |up (k:Nat)
 |turn
def c8:YD->D
 |.down k=>.tuple [.str "down",nd k]
 |.up k=>.tuple [.str "up",nd k]
 |.turn=>.tuple [.str "turn",.int 0]
def gZ:p∈iS ac↔p.1<5/\ac p.1=R p.2:=by
 ext iS;rw[Yq];constructor
 .rintro⟨k,d,b⟩
  cases q:ac k with
  |none=>rw[q]at b;ext b
  |some a=>rw[q]at b;ext b;show#[Wh.mp d,q]
 .rintro⟨d,b⟩;show#[p.1,Wh.mpr d,by rw[b];rfl]
theorem xk(ac:Ac):(iS ac).length<=5:=List.length_filterMap_le _ _
def Pc:Nat×Mn->I Int
 |(_,.X7 n)=>R n
 |_=>S
def z0(ac:Ac):Int:=(((iS ac).filterMap Pc).foldl ng S).getD 0
def sE(ac:Ac):I Int->Int
 |some o=>o
 |none=>z0 ac
def HN(ac:Ac):nW (eX (gT 2 (KF (gN 0) (KF (gN 1) RT))) (a8 (aY cY (aY bE (ae 1) (~~~0)) (pC (.str "layer")))) (aY bE (ae 1) (~~~1)) ((iS ac).map pD) [S,S] [])=.ok (((iS ac).filterMap Pc).map .int):=by
 rw[Dp pD (λp=>(Pc p).map .int) (λh=>∃d b,h=[d,b]) (iS ac) #[S,S,W] (VT (xk ac) ()) ?_,abu];rintro⟨k,a⟩ _ h ⟨d,b,rfl⟩;let g:=oS a;let f:=Kn a;let e:a8 (aY cY (aY bE (ae 1) (~~~0)) (pC (.str "layer"))) [R (.fz (nd k)),R (.fz (mD a))]=.ok (a.aez,[R (.fz (nd k)),R (.fz (mD a))]):=by ext:0
 show#[[R (.fz (nd k)),R (.fz (mD a))],?_,_,_,W];cases a with
 |X7 n=>show MD W e (aN (ag W) aG W W jo) W W
 |_=>show Sy W e W
def zG(s:Yg):eD [eJ s]=.ok (.fz (.int (sE s.ac s.oc))):=by
 show ii W ?_;let a:bE (eJ s) (.int 2)=R (.fz (vI s.oc)):=u9;let e0:bE (eJ s) (.int 0)=R (.fz (.tuple ((iS s.ac).map pD))):=io;ext nZ;cases q:s.oc with
 |some o=>
  rw[q]at a;let b:pE (vI (R o)) .none=R (.fz (.bool P)):=W;ext:14
  .intro _;show fJ (by ext:0) W W
  .intro h;ext h
 |none=>
  rw[q]at a;let b:pE (vI S) .none=R (.fz (.bool U0)):=W;ext:14
  .intro h;ext h
  .intro _;show dS (fw (gI (rv:=.fz (.int (z0 s.ac))) (aj (gW (by ext:0) W (HN s.ac)) aM) W ?_) W W);show(qL _).map _=_;rw[tS];rfl
def vP(b:Bd)(L k:Nat):Mn:=((b.ls[L]?.getD [])[k]?).getD .none
def look(b:Bd)(L:Int)(k:Nat):Mn:=if(vP b L.toNat k).isB=P then vP b 0 k else vP b L.toNat k
section
variable{b:Bd}(Z:VB b)
include Z
def NL{L k:Nat}(a:L<b.ls.length)(e:(k:Int)<b.n):∃l,b.ls[L]?=R l/\l[k]?=R (vP b L k):=by
 let f:=Z.vl L _ (U7 a);let d:k<(b.ls[L]).length:=by ext
 show#[_,U7 a,?_];ext vP;rw[U7 a,ZV,U7 d];rfl
def B7{L k:Nat}(d:L<b.ls.length)(a:(k:Int)<b.n):VM L b.ls.length (vP b L k):=by let(l,f,e):=NL Z d a;show(Z.vl L l f).2 _ (Ve e)
def Ko{L k:Nat}(e:L<b.ls.length)(a:(k:Int)<b.n):∃d,bE (.tuple (b.ls.map eN)) (nd L)=R (.fz d)/\bE d (nd k)=R (.fz (mD (vP b L k))):=by let(l,g,f):=NL Z e a;show#[eN l,HD (by rw[U4,g];rfl),HD (by rw[U4,f];rfl)]
def Md{L:Int}{k:Nat}(h0:0<=L)(p:L<b.ls.length)(e:(k:Int)<b.n):jA [bD b,.int L,nd k]=.ok (.fz (mD (look b L k))):=by
 obtain⟨n,rfl⟩:∃n:Nat,L=(n:Int):=#[L.toNat,by ext];let o:=Z.l1;let(d,t,j):=Ko Z (L:=n) () e;let(l,i,h):=Ko Z (L:=0) () e;let u:bE (bD b) (.int 1)=R (.fz (.tuple (b.ls.map eN))):=jo;let g:=oS (vP b n k);let f:=Hc (vP b n k);let r:bE (.tuple (b.ls.map eN)) (.int 0)=R (.fz l):=i;let a:look b (n:Int) k=if(vP b n k).isB=P then vP b 0 k else vP b n k:=W
 rw[a];generalize vP b n k=m at j g f a;generalize vP b 0 k=m0 at h a;show ii W ?_;ext mw;ext:14
 .intro q;rw[av q];show fJ (by ext:0) W W
 .intro q;rw[ax (by rw[q];simp)];show dS (fw (by ext:0) W W)
def xB{L:Int}{k:Nat}(h0:0<=L)(g:L<b.ls.length)(e:(k:Int)<b.n):VM L b.ls.length (look b L k)/\look b L k≠.below:=by
 let f:=Z.l1;let a:=B7 Z (L:=0) (k:=k) () e;let v:=B7 Z (L:=L.toNat) (k:=k) () e;let d:vP b 0 k≠.below:=λz=>by rw[z]at a;show a W
 rw[abj h0]at v;ext look;split
 .show#[?_,d]
  generalize vP b 0 k=m at a d;cases m with
  |below=>show a6 W d
  |_=>show a
 .rename_i q;show#[v,λz=>?_];rw[z]at q;show q W
omit Z in
theorem GL(ks:bg Nat)(a:ks.length<=5)(c:bg Nat×Nat):a8 (jW vT {iC 1 [0] (lw (ae 1)) (gN 0) hV (aY Gp (ae 0) (aY bE (ae 1) (~~~0)))}) [lD (.fz (eP c)),lD (.fz (.tuple (cb ks)))]=.ok (ks.all λk=>decide (k∈c.1),[lD (.fz (eP c)),lD (.fz (.tuple (cb ks)))]):=by
 have e:nW (eX (gN 0) hV (aY Gp (ae 0) (aY bE (ae 1) (~~~0))) (cb ks) [UO,lD (.fz (eP c))] [])=.ok (ks.map λk=>.bool (decide (k∈c.1))):=pB nd (λk=>.bool (decide (k∈c.1))) ks (by ext) rfl λk _=>by have e0:bE (eP c) (.int 0)=lD (.fz (.tuple (cb c.1))):=io;exact aN (rv:=.fz (.bool (decide (k∈c.1)))) (ag rfl) (by ext:0) rfl rfl (xO _ _)
 exact bX (gI (rv:=.fz (.bool (ks.all λk=>decide (k∈c.1)))) (ds:=[.list (ks.map λk=>.bool (decide (k∈c.1)))]) (aj (gW (cs:=[eP c]) (ds:=cb ks) (by ext:0) rfl e) aM) rfl (p9 _ _)) rfl
def gf(b:Bd)(a:G Nat):G (G Nat×Nat):=b.cs.filter λc=>a.all λk=>decide (k∈c.1)
def DN(a:o.length<=5):bT [bD b,.tuple (cb o)]=.ok (.ow ((gf b o).map eP)):=by let e:bE (bD b) (.int 2)=R (.fz (.tuple (b.cs.map eP))):=u9;let d:=Z.c4;show ii W ?_;ext jN;show fw (gW (cs:=[.tuple (cb o)]) (by ext:0) W (yp eP eP (λc=>o.all λk=>decide (k∈c.1)) b.cs () W (λc _=>GL o a c) λc _ _=>ag W)) W W
def r9(a:G Nat):G Nat:=(l9 (a.map aca)).map adC
omit Z in
theorem tO(ks:bg Nat):(r9 ks).Perm ks:=by have h:=(fX (ks.map aca)).map adC;rw[VG]at h;exact h.trans (by rw[show(adC∘aca)=id from funext λx=>rfl,List.map_id])
omit Z in
theorem Nf(ks:bg Nat):(l9 (ks.map aca)).map UU.int=cb (r9 ks):=by unfold r9 cb;rw[VG];refine Zh λx a=>?_;obtain⟨n,_,rfl⟩:=Vs.mp ((fX _).mem_iff.mp a);rfl
omit Z in
theorem BV(ks:bg Nat):(r9 ks).Pairwise (·<=·):=by
 have h:∀l:bg Int,l.Pairwise (·<=·)->(l.map adC).Pairwise (·<=·):=λl h=>by rw[ZQ];exact h.imp λh=>by ext
 exact h _ (fF _)
omit Z in
theorem Mf(ks:bg Nat):(r9 ks).length=ks.length:=(tO ks).length_eq
omit Z in
theorem zi{ks:bg Nat}(h:ks.length<64):L9.iQ [.tuple (cb ks)]=lD (.ow (cb (r9 ks))):=by
 have e:cb ks=(ks.map aca).map UU.int:=by rw[VG];rfl
 show(match qL (cb ks)with
  |some a=>if a.length<64 then lD (RV.ow ((l9 a).map .int))else UO
  |none=>UO)=_
 rw[e,tS];dsimp only;rw[av (by rw[UR];exact h),Nf]
def So(b:Bd)(a:G Nat):G Mn:=match b.cs.find? λc=>decide (c.1=r9 a)with
 |some c=>.VI c.2::U8 (a.length - 1) .none
 |none=>a.map (vP b 0)
omit Z in
omit Z in
theorem RU(n:Nat)(d:D):(U8 n [d]).flatten=U8 n d:=by
 induction n with
 |zero=>rfl
 |succ n a=>rw[Wc,Xp,a];rfl
def Qm{n:bg Nat}(G:1<=n.length)(F:n.length<=5)(B:∀k∈n,(k:Int)<b.n):gr [bD b,.tuple (cb n)]=.ok (.ow ((So b n).map mD)):=by
 let H:bE (bD b) (.int 2)=R (.fz (.tuple (b.cs.map eP))):=u9;let I:bE (bD b) (.int 1)=R (.fz (.tuple (b.ls.map eN))):=jo;let E:=Z.l1;let i:=zi (ks:=n) ();show ii W ?_;ext kF;let rt:∀c:bg Nat×Nat,(aY dM (dh {bZ {pC (.str "letter"),aY bE (ae 2) (~~~1)}}) (aY jf (dh {pC (.tuple [(.str "none")])}) (aY vR (jW dB {ae 1}) (~~~1)))) [R (.fz (bD b)),R (.fz (.tuple (cb n))),R (.fz (eP c))]=.ok (.ow ((Mn.VI c.2::U8 (n.length - 1) Mn.none).map mD),[R (.fz (bD b)),R (.fz (.tuple (cb n))),R (.fz (eP c))]):=λc=>by
  let l:bE (eP c) (.int 1)=R (.fz (.str (kh c.2))):=jo;let j:jf (.list [.tuple [.str "none"]]) (.int (((cb n).length:Int) - 1))=R (.ow (U8 (n.length - 1) (.tuple [.str "none"]))):=by rw[gY,show((n.length:Int) - 1)=((n.length - 1:Nat):Int) by ext];show(QD () ()).trans (by rw[RU])
  let y:dM (.list [mD (.VI c.2)]) (.list (U8 (n.length - 1) (.tuple [.str "none"])))=R (.ow ((Mn.VI c.2::U8 (n.length - 1) Mn.none).map mD)):=by show(if 1+(U8 (n.length - 1) (UU.tuple [.str "none"])).length<=1000000 then R (RV.ow ([mD (.VI c.2)]++U8 (n.length - 1) (UU.tuple [.str "none"])))else S)=_;rw[VR,av (),Vf,List.map_replicate];rfl
  show aN (by ext:0) (aN (by ext:0) (aN (by ext:0) aG W W (vg _ _)) W W j) W W y
 let f:∀(e:bg (bg Nat×Nat)) (o:br PV),(∀c,e.find? (λc=>decide (c.1=r9 n))=R c->su (gN 2) (lz (a8 (aY cY (jW yQ {aY bE (ae 2) (~~~0)}) (jW L9.iQ {ae 1}))) (dH (aY dM (dh {bZ {pC (.str "letter"),aY bE (ae 2) (~~~1)}}) (aY jf (dh {pC (.tuple [(.str "none")])}) (aY vR (jW dB {ae 1}) (~~~1))))) d5) (e.map eP) [R (.fz (bD b)),R (.fz (.tuple (cb n))),o]=.ok (.rt (.ow ((Mn.VI c.2::U8 (n.length - 1) Mn.none).map mD))))/\
   (e.find? (λc=>decide (c.1=r9 n))=S->∃u,su (gN 2) (lz (a8 (aY cY (jW yQ {aY bE (ae 2) (~~~0)}) (jW L9.iQ {ae 1}))) (dH (aY dM (dh {bZ {pC (.str "letter"),aY bE (ae 2) (~~~1)}}) (aY jf (dh {pC (.tuple [(.str "none")])}) (aY vR (jW dB {ae 1}) (~~~1))))) d5) (e.map eP) [R (.fz (bD b)),R (.fz (.tuple (cb n))),o]=.ok (.nx [R (.fz (bD b)),R (.fz (.tuple (cb n))),u])):=by
  intro e
  induction e with
  |nil=>show λo=>#[λc h=>(by ext h),λ_=>#[o,W]]
  |cons c r A=>
   intro o;let C:bE (eP c) (.int 0)=R (.fz (.tuple (cb c.1))):=io
   let a:a8 (aY cY (jW yQ {aY bE (ae 2) (~~~0)}) (jW L9.iQ {ae 1})) [R (.fz (bD b)),R (.fz (.tuple (cb n))),R (.fz (eP c))]=.ok (decide (c.1=r9 n),[R (.fz (bD b)),R (.fz (.tuple (cb n))),R (.fz (eP c))]):=
    bX (aN (gI (by ext:0) W W) (gI (by ext:0) W i) W W (xX _ _)) W
   rw[VY];by_cases h:c.1=r9 n
   .rw[aP h]at a⊢;show#[λJ t=>?_,λt=>(by ext t)];ext t;show((gN 2 (.fz (eP c)) [R (.fz (bD b)),R (.fz (.tuple (cb n))),o]).bind λg=>_)=_;rw[HY,ey];show((lz _ _ _ [R (.fz (bD b)),R (.fz (.tuple (cb n))),R (.fz (eP c))]).bind _)=_;rw[TX a,yP (rt c) W];rfl
   .rw[a4 h]at a⊢
    let w:su (gN 2) (lz (a8 (aY cY (jW yQ {aY bE (ae 2) (~~~0)}) (jW L9.iQ {ae 1}))) (dH (aY dM (dh {bZ {pC (.str "letter"),aY bE (ae 2) (~~~1)}}) (aY jf (dh {pC (.tuple [(.str "none")])}) (aY vR (jW dB {ae 1}) (~~~1))))) d5) ((c::r).map eP) [R (.fz (bD b)),R (.fz (.tuple (cb n))),o]=su (gN 2) (lz (a8 (aY cY (jW yQ {aY bE (ae 2) (~~~0)}) (jW L9.iQ {ae 1}))) (dH (aY dM (dh {bZ {pC (.str "letter"),aY bE (ae 2) (~~~1)}}) (aY jf (dh {pC (.tuple [(.str "none")])}) (aY vR (jW dB {ae 1}) (~~~1))))) d5) (r.map eP) [R (.fz (bD b)),R (.fz (.tuple (cb n))),R (.fz (eP c))]:=by show((gN 2 (.fz (eP c)) [R (.fz (bD b)),R (.fz (.tuple (cb n))),o]).bind λg=>_)=_;rw[HY,ey];show((lz _ _ _ [R (.fz (bD b)),R (.fz (.tuple (cb n))),R (.fz (eP c))]).bind _)=_;rw[TC a];rfl
    rw[w];show A _
 let(z,m):=f b.cs S;let v:lw (aY bE (ae 0) (~~~2)) [R (.fz (bD b)),R (.fz (.tuple (cb n))),S]=.ok (b.cs.map eP,[R (.fz (bD b)),R (.fz (.tuple (cb n))),S]):=by ext:0
 ext So;cases q:b.cs.find? λc=>decide (c.1=r9 n)with
 |some c=>show .eq (Ha ((B6 v).trans (z c q))) #[W]
 |none=>let(u,m):=m q;show .eq (IJ ((B6 v).trans m)) ?_;show fw (gW (by ext:0) W ?_) W W;rw[VG];show pB nd (mD∘vP b 0) n () W λk p=>?_;let(d,l,j):=Ko Z (L:=0) () (B k p);let l:bE (.tuple (b.ls.map eN)) (.int 0)=R (.fz d):=l;show aN (by ext:0) (ag W) W W j
end
end STP
local macro_rules|`(-($x))=>`(Option.some (.fz $x))
namespace STP
open PySem L2 L3
open L10
def lx(p:Nat×Mn):de×SV:=(.inl (p.1:Int),.fz (mD p.2))
def nK(ac:Ac)(k:Nat)(o:I Mn):Ac:=λj=>if j=k then o else ac j
def fL:nK ac k o k=o:=by ext nK;rw[av W]
def ip(h:j≠k):nK ac k o j=ac j:=by ext nK;rw[ax h]
def JS(ac:Ac):(iS ac).Pairwise λp q=>p.1<q.1:=by
 ext iS;show aic _ (λa f h p d q b=>?_) (aaq);cases e:ac a with
 |none=>rw[e]at d;ext d
 |some x=>
  cases g:ac f with
  |none=>rw[g]at b;ext b
  |some y=>rw[e]at d;rw[g]at b;ext d;ext b;show h
def uR(ac:Ac):((iS ac).map (·.1)).Nodup:=by rw[Wm,ZQ];show(JS ac).imp λh=>Vk h
def Ej{l:G (Nat×Mn)}(h:(l.map (·.1)).Nodup):l.Nodup:=by rw[Wm,ZQ]at h;show h.imp λh e=>h (by rw[e])
theorem ue{l:G (Nat×Mn)}(h:(l.map (·.1)).Nodup)(hm:∀p,p∈l↔p.1<5/\ac p.1=R p.2):l.Perm (iS ac):=
 (List.perm_ext_iff_of_nodup (Ej h) (Ej (uR ac))).mpr λp=>(hm p).trans gZ.symm
section
variable{Y:bg (Nat×Mn)}{X:Ac}(Z:Y.Perm (iS X))
include Z
theorem lS:p∈Y↔p.1<5/\X p.1=R p.2:=Z.mem_iff.trans gZ
theorem Iv:(Y.map (·.1)).Nodup:=(Z.map (·.1)).nodup_iff.mpr (uR X)
def Ix:Y.length<=5:=by rw[Z.length_eq];show xk X
def oP{k:Nat}(d:k<5):kL (Y.map lx) (.inl (k:Int))=(X k).map λa=>SV.fz (mD a):=by
 ext kL;cases q:(Y.map lx).find? λb=>decide (b.1=(.inl (k:Int):de))with
 |none=>
  cases e:X k with
  |none=>rfl
  |some a=>let:=abt.mp q (lx (k,a)) (Vs.mpr #[(k,a),(lS Z).mpr #[d,e],W]);show a6 (aP W) this
 |some b=>
  let(p,h,rfl):=Vs.mp (acO q);let g:=a5 (afQ (p:=λb:de×SV=>decide (b.1=(.inl (k:Int):de))) q);let f:p.1=k:=by let:=Sum.inl.inj g;ext
  rw[<-f,((lS Z).mp h).2];rfl
def Mb{k:Nat}(n:k<5):∃c:G (Nat×Mn),k7 (Y.map lx) (.inl (k:Int)) (.fz (mD a))=c.map lx/\c.Perm (iS (nK X k (R a))):=by
 ext k7;let f:∀p:Nat×Mn,((lx p).1=(.inl (k:Int):de))↔p.1=k:=λp=>#[λh=>by let:=Sum.inl.inj h;ext,λh=>by rw[<-h];rfl];split
 .rename_i h
  show#[Y.map λp=>if p.1=k then(k,a)else p,?_,ue ?_ λp=>?_]
  .rw[VG,VG]
   show Zh λp _=>?_;show(if(lx p).1=(.inl (k:Int):de)then((lx p).1,SV.fz (mD a))else lx p)=lx (if p.1=k then(k,a)else p);by_cases e:p.1=k
   .rw[av ((f p).mpr e),av e,(f p).mpr e];rfl
   .rw[ax (λz=>e ((f p).mp z)),ax e]
  .rw[VG,show Y.map ((·.1)∘λp:Nat×Mn=>if p.1=k then(k,a)else p)=Y.map (·.1)from Zh λp _=>by
    show(if p.1=k then(k,a)else p).1=p.1;split
    .rename_i e;show e.symm
    .rfl]
   show Iv Z
  .let(v,j,i):=Ye.mp h
   let(m,u,rfl):=Vs.mp j;let b:=(f m).mp (a5 i);rw[Vs];constructor
   .rintro⟨r,t,rfl⟩
    split
    .show#[n,fL]
    .rename_i e;let:=(lS Z).mp t;show#[this.1,by rw[ip e];show this.2]
   .rintro⟨d,g⟩
    by_cases e:p.1=k
    .rw[e,fL]at g;show#[m,u,?_];rw[av b,<-e,Vi g]
    .rw[ip e]at g;show#[p,(lS Z).mpr #[d,g],by rw[ax e]]
 .rename_i h
  let A:=λp l e=>h (Ye.mpr #[lx p,Vs.mpr #[p,l,W],aP ((f p).mpr e)]);show#[Y++[(k,a)],by rw[Vu];rfl,ue ?_ λp=>?_]
  .rw[Vu,X6];show#[Iv Z,Wf.mpr #[Ww,Zv],λx q y o=>?_];let(p,b,rfl):=Vs.mp q;rw[U9.mp o];show A p b
  .rw[VH,U9]
   constructor
   .rintro(b|rfl)
    .let:=(lS Z).mp b;show#[this.1,by rw[ip (A p b)];show this.2]
    .show#[n,fL]
   .rintro⟨b,d⟩
    by_cases e:p.1=k
    .rw[e,fL]at d;show .inr (by rw[<-e,Vi d])
    .rw[ip e]at d;show .inl ((lS Z).mpr #[b,d])
def Jl{k:Nat}:∃c:G (Nat×Mn),oz (Y.map lx) (.inl (k:Int))=c.map lx/\c.Perm (iS (nK X k S)):=by
 let f:∀p:Nat×Mn,((lx p).1=(.inl (k:Int):de))↔p.1=k:=λp=>#[λh=>by let:=Sum.inl.inj h;ext,λh=>by rw[<-h];rfl];show#[Y.filter λp=>decide (p.1≠k),?_,ue ?_ λp=>?_]
 .ext oz;rw[List.filter_map];congr 1;show List.filter_congr λp _=>?_;show decide_eq_decide.mpr (not_congr (f p))
 .show amr ((List.filter_sublist).map _) (Iv Z)
 .rw[Xj,lS Z,decide_eq_true_eq]
  constructor
  .rintro⟨⟨b,a⟩,d⟩;show#[b,by rw[ip d];show a]
  .rintro⟨b,a⟩
   by_cases e:p.1=k
   .rw[e,fL]at a;ext a
   .rw[ip e]at a;show#[#[b,a],e]
def Kk:aJ CN ((Y.map lx).map (·.1))=R (Y.map λp=>(p.1:Int)):=by
 clear Z
 induction Y with
 |nil=>rfl
 |cons p r a=>rw[Vf,Vf];ext aJ;rw[a];rfl
def Jg:l9 (Y.map λp=>(p.1:Int))=(iS X).map λp=>(p.1:Int):=by show mx ((fX _).trans (Z.map _)) (fF _) ?_;rw[ZQ];show(JS X).imp λh=>by ext
end
abbrev Sn:=G (Nat×Bool)
def pY(ac:Ac)(a:Mn):Bool:=decide (a∈(iS ac).map (·.2))
def vv(ac:Ac):Mn->Sn
 |.VI c=>if pY ac (.VI c)=P then[]else[(c,P)]
 |_=>[]
def QL(ac:Ac):Mn->Sn
 |.VI c=>if pY ac (.VI c)=P then[]else[(c,U0)]
 |_=>[]
def ia(p:Yg×Sn)(k:Nat)(a:Mn):Yg×Sn:=({p.1 with ac:=nK p.1.ac k (R a)},p.2++vv p.1.ac a)
def go(p:Yg×Sn)(k:Nat):Yg×Sn:=match p.1.ac k with
 |some a=>({p.1 with ac:=nK p.1.ac k S},p.2++QL (nK p.1.ac k S) a)
 |none=>p
def lf(p:Yg×Sn)(a:G (Nat×Mn)):Yg×Sn:=a.foldl (λp q=>ia p q.1 q.2) p
def iw(b:Bd)(a:G Nat):I (Nat×Int)->G Mn
 |some (_,n)=>[.X7 n]
 |none=>So b a
def d7(b:Bd)(p:Yg×Sn):Yg×Sn:=match p.1.wt with
 |none=>p
 |some (a,_,w)=>lf ({p.1 with wt:=S},p.2) (a.zip (iw b a w))
def FP:Wq->Nat->Bool
 |some (a,_,_),k=>decide (k∈a)
 |none,_=>U0
def JC(b:Bd)(s:Yg)(k:Nat):Bool:=match s.wt with
 |some (a,_,S)=>decide (sE s.ac s.oc=0)&& !(gf b (a++[k])).isEmpty
 |_=>U0
def yS(b:Bd)(p:Yg×Sn)(k:Nat):Yg×Sn:=match p.1.wt with
 |some (a,g,_)=>if(gf b (a++[k])).map (·.1.length)=[(a++[k]).length]then d7 b ({p.1 with wt:=R (a++[k],g,S)},p.2)else({p.1 with wt:=R (a++[k],g,S)},p.2)
 |none=>p
def ic(s:Yg)(m:Mn):Yg:=if(m.aez||m.isO)=P then s else{s with oc:=S}
def zh(b:Bd)(L:Int)(p:Yg×Sn)(k:Nat):Mn->Yg×Sn
 |.tap c n=>({p.1 with wt:=R ([k],0,R (c,n))},p.2)
 |.VI c=>if(decide (L=0)&& !(gf b [k]).isEmpty)=P then({p.1 with wt:=R ([k],0,S)},p.2)else ia p k (.VI c)
 |.once n=>({(ia p k .none).1 with oc:=R n},(ia p k .none).2)
 |m=>ia p k m
def KC(b:Bd)(p:Yg×Sn)(k:Nat):Yg×Sn:=
 zh b (sE p.1.ac p.1.oc) (ic p.1 (look b (sE p.1.ac p.1.oc) k),p.2) k (look b (sE p.1.ac p.1.oc) k)
def oY(b:Bd)(p:Yg×Sn)(k:Nat):Yg×Sn:=
 if((p.1.ac k).isSome||FP p.1.wt k)=P then p else if JC b p.1 k=P then yS b p k else KC b (d7 b p) k
def eF(b:Bd)(p:Yg×Sn)(k:Nat):Yg×Sn:=match p.1.wt with
 |some (_,_,S)=>d7 b p
 |some (_,_,R (c,_))=>ia ({p.1 with wt:=S},p.2) k (.VI c)
 |none=>p
def zw(b:Bd)(p:Yg×Sn)(k:Nat):Yg×Sn:=go (if FP p.1.wt k=P then eF b p k else p) k
def ny(b:Bd)(p:Yg×Sn):Yg×Sn:=match p.1.wt with
 |none=>p
 |some (a,g,w)=>if g+1=b.wt then d7 b ({p.1 with wt:=R (a,g+1,w)},p.2)else({p.1 with wt:=R (a,g+1,w)},p.2)
def bp(b:Bd)(s:Yg):YD->Yg×Sn
 |.down k=>oY b (s,[]) k
 |.up k=>zw b (s,[]) k
 |.turn=>ny b (s,[])
def wZ(b:Bd)(s:Yg):G (Str×SV):=[("bed",.fz (bD b)),("acts",.rf 1),("waiting",.fz (kT s.wt)),("once",.fz (vI s.oc)),("sent",.rf 2)]
def ja(p:Nat×Bool):D:=.tuple [.str (kh p.1),.str (if p.2=P then "down" else "up")]
def dW(b:Bd)(s:Yg)(sn:Sn)(a:G (Nat×Mn))(J:bh):bh:=.obj "Hand" (wZ b s):: .dct (a.map lx):: .lst ((sn.map ja).map .fz)::J
def HS(b:Bd)(p:Yg×Sn)(Z:bh):Prop:=∃a J,a.Perm (iS p.1.ac)/\Z=dW b p.1 p.2 a J
section
variable{b:Bd}{s:Yg}{sn:Sn}{Y:bg (Nat×Mn)}{J:bh}{ρ:bC}{i:Nat}{Z:bh}{p:Yg×Sn}{k:Nat}{a:Mn}
def P0:(wZ b s).lookup ("bed":Str)=-(bD b):=by ext wZ;rw[XY]
def KR:(wZ b s).lookup ("acts":Str)=R (.rf 1):=by ext wZ;rw[Vq,show(("acts":Str)== "bed")=U0 by left];dsimp only;rw[XY]
def Lj:(wZ b s).lookup ("waiting":Str)=-(kT s.wt):=by ext wZ;rw[Vq,show(("waiting":Str)== "bed")=U0 by left];dsimp only;rw[Vq,show(("waiting":Str)== "acts")=U0 by left];dsimp only;rw[XY]
def K3:(wZ b s).lookup ("once":Str)=-(vI s.oc):=by ext wZ;rw[Vq,show(("once":Str)== "bed")=U0 by left];dsimp only;rw[Vq,show(("once":Str)== "acts")=U0 by left];dsimp only;rw[Vq,show(("once":Str)== "waiting")=U0 by left];dsimp only;rw[XY]
def MV:(wZ b s).lookup ("sent":Str)=R (.rf 2):=by ext wZ;rw[Vq,show(("sent":Str)== "bed")=U0 by left];dsimp only;rw[Vq,show(("sent":Str)== "acts")=U0 by left];dsimp only;rw[Vq,show(("sent":Str)== "waiting")=U0 by left];dsimp only;rw[Vq,show(("sent":Str)== "once")=U0 by left];dsimp only;rw[XY]
def T7(m:Str):Bool:=(m== "bed"||m== "acts"||m== "waiting"||m== "once"||m== "sent")==U0
def SN(h:T7 m=P):(wZ b s).lookup m=S:=by unfold T7 at h;simp only[beq_iff_eq,aeg]at h;let((((j,g),f),e),d):=h;ext wZ;rw[Vq,j];dsimp only;rw[Vq,g];dsimp only;rw[Vq,f];dsimp only;rw[Vq,e];dsimp only;rw[Vq,d];rfl
theorem rj(h:ρ[i]?=R (R (.rf 0))):bH "Hand" "bed" (aA i) ρ (dW b s sn Y J)=.ok (.fz (bD b)) (dW b s sn Y J):=jH (bf h) W P0
theorem iO(h:ρ[i]?=R (R (.rf 0))):bH "Hand" "acts" (aA i) ρ (dW b s sn Y J)=.ok (.rf 1) (dW b s sn Y J):=jH (bf h) W KR
theorem ce(h:ρ[i]?=R (R (.rf 0))):bH "Hand" "waiting" (aA i) ρ (dW b s sn Y J)=.ok (.fz (kT s.wt)) (dW b s sn Y J):=jH (bf h) W Lj
theorem EK(h:ρ[i]?=R (R (.rf 0))):bH "Hand" "once" (aA i) ρ (dW b s sn Y J)=.ok (.fz (vI s.oc)) (dW b s sn Y J):=jH (bf h) W K3
theorem xL(h:ρ[i]?=R (R (.rf 0))):bH "Hand" "sent" (aA i) ρ (dW b s sn Y J)=.ok (.rf 2) (dW b s sn Y J):=jH (bf h) W MV
def Kr(w:Wq):fM "waiting" (.fz (kT w)) (wZ b s)=wZ b {s with wt:=w}:=by ext wZ;ext fM;rw[ax (by left)];ext fM;rw[ax (by left)];ext fM;rw[av W]
def Jt(o:I Int):fM "once" (.fz (vI o)) (wZ b s)=wZ b {s with oc:=o}:=by ext wZ;ext fM;rw[ax (by left)];ext fM;rw[ax (by left)];ext fM;rw[ax (by left)];ext fM;rw[av W]
theorem mB(w:Wq)(h:ρ[i]?=R (R (.rf 0)))(d:o ρ Z=.ok (.fz (kT w)) (dW b s sn Y J)):gj "Hand" "waiting" (aA i) o ρ Z=.ok (.nx ρ) (dW b {s with wt:=w} sn Y J):=
 (qN d (bf h) W (by show UW W)).trans (by rw[Kr];rfl)
theorem Dw(o:I Int)(h:ρ[i]?=R (R (.rf 0)))(d:C ρ Z=.ok (.fz (vI o)) (dW b s sn Y J)):gj "Hand" "once" (aA i) C ρ Z=.ok (.nx ρ) (dW b {s with oc:=o} sn Y J):=
 (qN d (bf h) W (by show UW W)).trans (by rw[Jt];rfl)
def cA(c:HS b p Z)(hm:T7 m=P)(h:ρ[i]?=R (R (.rf 0)))(g:fa ρ Z=.ok xs Z)(f:(SV.rf 0::xs).length=n)(d:F (.rf 0::xs) Z=.ok x o):bu "Hand" m F n (aA i) fa ρ Z=.ok x o:=by let(Y,J,e,rfl):=c;show E6 (bf h) W (SN hm) g f d
def Ja(Y:G (Nat×Mn)):(Y.map lx).map (·.2)=((Y.map (·.2)).map mD).map SV.fz:=by rw[VG,VG,VG];rfl
def AK(ac:Ac):Prop:=∀k a,ac k=R a->k<5/\LB a
def HU(h:HS b p Z)(e:AK p.1.ac)(j:LB a):∃c,b3 [.rf 0,.fz (mD a)] Z=.ok (.fz (.bool (pY p.1.ac a))) c/\HS b p c:=by
 let(Y,J,d,rfl):=h;let g:pY p.1.ac a=decide (a∈Y.map (·.2)):=decide_eq_decide.mpr (d.map (·.2)).symm.mem_iff;let lb:∀m∈Y.map (·.2),LB m:=λm hm=>by let(q,f,rfl):=Vs.mp hm;show(e _ _ ((lS d).mp f).2).2
 show#[dW b p.1 p.2 Y (J++[.lst ((Y.map lx).map (·.2))]),?_,Y,_,d,W];rw[g];show kY W (jM (b4 (ah (ag W)) (Mu (iO W) W) (qU W (cJ (by rw[Ja];show a9)) (K1 j lb))))
theorem DT(f:sn.length<1000)(h:ρ[i]?=R (R (.rf 0)))(e:o ρ (dW b s sn Y J)=.ok (.fz (ja (c,d))) (dW b s sn Y J)):uM (bH "Hand" "sent" (aA i)) o ρ (dW b s sn Y J)=.ok (.fz .none) (dW b s (sn++[(c,d)]) Y J):=
 (uW (xL h) W e W (by rw[UR,UR];ext)).trans (by ext dW;rw[Vu,Vu];rfl)
def uG(d:Y.Perm (iS s.ac))(g:k<5)(h0:ρ[0]?=R (R (.rf 0)))(l:ρ[1]?=R (-(nd k)))(m:ρ[2]?=R (-(mD a))):∃c:G (Nat×Mn),c.Perm (iS (nK s.ac k (R a)))/\Av (bH "Hand" "acts" (aA 0)) (aa (ae 1)) (aa (ae 2)) ρ (dW b s sn Y J)=.ok (.nx ρ) (dW b {s with ac:=nK s.ac k (R a)} sn c J):=by let(c,j,h):=Mb d g;let f:ae 1 (cR ρ)=.ok (.fz (nd k),cR ρ):=ag (by ext cR;rw[U4,l];rfl);let e:ae 2 (cR ρ)=.ok (.fz (mD a),cR ρ):=ag (by ext cR;rw[U4,m];rfl);show#[c,h,(MY (ah e) (iO h0) (ah f) W W (by rw[UR];let:=Ix d;ext)).trans ?_];rw[j];rfl
def tf(x:HS b p Z)(u:AK p.1.ac)(C:LB a)(l:k<5)(t:p.2.length<1000):∃A,bK [.rf 0,.fz (nd k),.fz (mD a)] Z=.ok (.fz .none) A/\HS b (ia p k a) A:=by
 let e0:=oS a;let r:=j9 a;cases q:a.isL with
 |false=>
  let(Y,J,g,rfl):=x;rw[q]at r;let(d,h,v):=uG (ρ:=[R (.rf 0),-(nd k),-(mD a)]) g l W W W;show#[_,pS W (dk (jg (gK (cx (by ext:0))) iH) v),d,J,h,?_];let:vv p.1.ac a=[]:=by ext a<;>first|rfl|ext q
  ext ia;rw[this,Vz]
 |true=>
  rw[q]at r;let(w,h,j):=HU x u C;let f:∀o,pY p.1.ac a=o->(nX (cr (a8 (aY cY (aY bE (ae 2) (~~~0)) (pC (.str "letter"))))) (mX (bt (bu "Hand" "has_act" b3 2 (aA 0) (aq (aa (ae 2)) aX))))) [R (.rf 0),-(nd k),-(mD a)] Z=.ok (!o) w:=λo e=>by rw[e]at h;show gO (cx (by ext:0)) (iK (aW (cA x (by left) W (aw (ah (ag W)) aV) W h)))
  let(Y,J,g,rfl):=j;cases z:pY p.1.ac a with
  |true=>
   let(d,n,m):=uG (ρ:=[R (.rf 0),-(nd k),-(mD a)]) g l W W W;show#[_,pS W (dk (jg (f P z) iH) m),d,J,n,?_];let:vv p.1.ac a=[]:=by
    ext a<;>first|ext q|skip
    show(if pY p.1.ac _=P then _ else _)=_;rw[av z]
   ext ia;rw[this,Vz]
  |false=>
   ext a<;>first|ext q|skip
   rename_i c;let(d,n,m):=uG (ρ:=[R (.rf 0),-(nd k),-(mD (.VI c))]) (sn:=p.2++[(c,P)]) g l W W W;let y:bE (mD (.VI c)) (.int 1)=-(.str (kh c)):=jo;show#[_,pS W (dk (gl (f U0 z) (gB (DT t W (ah (show _=Res.ok (PV.fz (.tuple [.str (kh c),.str "down"]),_) by ext:0))))) m),d,J,n,?_];let:vv p.1.ac (.VI c)=[(c,P)]:=by show(if pY p.1.ac _=P then _ else _)=_;rw[ax (by rw[z];simp)]
   ext ia;rw[this]
end
end STP
namespace STP
open PySem L2 L3 L10
def VA(a:Int):Mn->Prop
 |.VI c=>c<26
 |.X7 n=>1<=n/\n<a
 |.none=>True
 |_=>False
def VA.lb(h:VA nL m):LB m:=by
 cases m with
 |VI c=>show h
 |tap c n=>show h.elim
 |_=>trivial
structure SA(b:Bd)(s:Yg):Prop where
 ac:∀k a,s.ac k=R a->(k:Int)<b.n/\VA b.ls.length a
 oc:∀o,s.oc=R o->1<=o/\o<b.ls.length
structure WV(b:Bd)(ac:Ac)(ks:G Nat)(g:Int)(w:I (Nat×Int)):Prop where
 ne:ks≠[]
 nd:ks.Nodup
 kn:∀k∈ks,(k:Int)<b.n
 kf:∀k∈ks,ac k=S
 g0:0<=g
 tp:∀c n,w=R (c,n)->c<26/\(1<=n/\n<b.ls.length)/\ks.length=1
 ch:w=S->∀k∈ks,A4 (b.ls.headD []) k=P
structure SW(b:Bd)(s:Yg):Prop where
 sa:SA b s
 wt:∀ks g w,s.wt=R (ks,g,w)->WV b s.ac ks g w/\g<b.wt
def B8{c:G Nat}(hd:c.Nodup)(h:∀k∈c,k<n):c.length<=n:=by rw[<-Mf c];let b:=(tO c).nodup_iff.mpr hd;show Mq (((BV c).and b).imp λh=>by ext) λk a=>h k ((tO c).mem_iff.mp a)
section
variable{b:Bd}(Z:VB b){s:Yg}{p:Yg×Sn}{Y:bg Nat}{g:Int}{w:br (Nat×Int)}{X:Ac}{k:Nat}{a:Mn}
include Z
theorem WV.len(h:WV b X Y g w):Y.length<=5:=B8 h.nd λk d=>by let:=h.kn k d;let:=Z.n5;ext
omit Z in
theorem WV.ala(h:WV b X Y g w):1<=Y.length:=List.length_pos_iff.mpr h.ne
theorem SA.ak(h:SA b s):AK s.ac:=λk a e=>by let:=h.ac k a e;let:=Z.n5;show#[by ext,(h.ac k a e).2.lb]
omit Z in
theorem SA.cm(h:SA b p.1)(d:(k:Int)<b.n)(ha:VA b.ls.length a):SA b (ia p k a).1:=by
 refine⟨λj x e=>?_,h.oc⟩;by_cases z:j=k
 .subst z;have f:lD a=lD x:=(fL (ac:=p.1.ac) (k:=j) (o:=lD a)).symm.trans e;cases f;exact⟨d,ha⟩
 .exact h.ac j x ((ip z).symm.trans e)
omit Z in
theorem SA.gg(h:SA b p.1):SA b (go p k).1:=by
 unfold go;split
 .refine⟨λj x e=>?_,h.oc⟩
  by_cases z:j=k
  .subst z;exact a6 ((fL (ac:=p.1.ac) (k:=j) (o:=UO)).symm.trans e) (by simp)
  .exact h.ac j x ((ip z).symm.trans e)
 .exact h
omit Z in
theorem vD:(ia p k a).2.length<=p.2.length+1:=by
 show(p.2++vv p.1.ac a).length<=_;rw[UZ];have:(vv p.1.ac a).length<=1:=by
  cases a with
  |VI c=>show(if _ then _ else _:Sn).length<=1;split<;>simp
  |_=>simp[vv]
 ext
omit Z in
theorem Fz(d:bg (Nat×Mn)):∀p:Yg×Sn,(lf p d).2.length<=p.2.length+d.length:=by
 induction d with
 |nil=>exact λp=>U1 _
 |cons q r e=>intro p;have h:=e (ia p q.1 q.2);have f:=vD (p:=p) (k:=q.1) (a:=q.2);show(lf (ia p q.1 q.2) r).2.length<=_;rw[Vd];ext
omit Z in
theorem SA.cms(d:bg (Nat×Mn)):∀{p:Yg×Sn},SA b p.1->(∀q∈d,(q.1:Int)<b.n/\VA b.ls.length q.2)->SA b (lf p d).1/\(lf p d).1.wt=p.1.wt/\(lf p d).1.oc=p.1.oc:=by
 induction d with
 |nil=>exact λh _=>⟨h,rfl,rfl⟩
 |cons q r i=>intro p h e;have f:=e q U5;exact i (h.cm f.1 f.2) λx j=>e x (U6 _ j)
def QG(h:A4 (b.ls.headD []) k=P):∃c,vP b 0 k=.VI c:=by
 let f:=Z.l1;obtain⟨d,r,e⟩:∃d r,b.ls=d::r:=by
  cases q:b.ls with
  |nil=>rw[q]at f;ext f
  |cons l r=>show#[l,r,W]
 unfold A4 at h;ext vP;rw[e]at h⊢;rw[adl,ZV];rw[List.headD_cons]at h;cases q:d[k]? with
 |none=>rw[q]at h;ext h
 |some m=>
  rw[q]at h;cases m with
  |VI c=>show#[c,W]
  |_=>ext h
def MZ(d:(k:Int)<b.n)(h:A4 (b.ls.headD []) k=P):VA b.ls.length (vP b 0 k):=by let f:=Z.l1;let(c,e):=QG Z h;let:=B7 Z (L:=0) () d;rw[e]at this⊢;show this
def PL(h:WV b X Y g S):∀m∈So b Y,VA b.ls.length m:=by
 intro m hm;unfold So at hm;split at hm
 .rename_i c e
  rcases Vm.mp hm with rfl|hm
  .show(Z.vc c (acO e)).2.2.2
  .rw[(List.mem_replicate.mp hm).2];trivial
 .let(j,d,rfl):=Vs.mp hm;show MZ Z (h.kn j d) (h.ch W j d)
def yq(h:WV b X Y g w):∀q∈Y.zip (iw b Y w),(q.1:Int)<b.n/\VA b.ls.length q.2:=by
 intro q e;let d:=Y9 e;show#[h.kn _ d.1,?_];cases w with
 |none=>show PL Z h _ d.2
 |some f=>let(c,n):=f;rw[U9.mp d.2];show(h.tp c n W).2.1
def WD(b:Bd)(s:Yg):Prop:=∀Y g w,s.wt=R (Y,g,w)->WV b s.ac Y g w
def j4(h:SA b p.1)(f:WD b p.1):SW b (d7 b p).1/\(d7 b p).1.wt=S/\(d7 b p).2.length<=p.2.length+5/\(d7 b p).1.oc=p.1.oc:=by
 ext d7;split
 .rename_i q;show#[#[h,λY g w e=>by rw[q]at e;ext e],q,aam _ _,W]
 .rename_i Y g w q
  let v:=f Y g w q;let(j,d,i):=SA.cms (Y.zip (iw b Y w)) (p:=({p.1 with wt:=S},p.2)) #[h.ac,h.oc] (yq Z v);show#[#[j,λ_ _ _ e=>?_],d,?_,i]
  .rw[d]at e;ext e
  .let:=Fz (Y.zip (iw b Y w)) ({p.1 with wt:=S},p.2);let l:=v.len Z;rw[afS]at this;let:(lf ({p.1 with wt:=S},p.2) (Y.zip (iw b Y w))).2.length<=p.2.length+min Y.length (iw b Y w).length:=this;ext
omit Z in
theorem CQ:∀(l:bg Int) (m:br Int),l.foldl ng m=m\/∃x∈l,l.foldl ng m=lD x
 |[],m=>.inl rfl
 |x::r,m=>by
  rw[Za];rcases CQ r (ng m x)with h|⟨y,hy,h⟩
  .rw[h]
   cases m with
   |none=>exact .inr ⟨x,U5,rfl⟩
   |some z=>
    show lD (if x>z then x else z)=lD z\/_;split
    .exact .inr ⟨x,U5,by show lD (if x>z then x else z)=_;rename_i q;rw[av q]⟩
    .exact .inl rfl
  .exact .inr ⟨y,U6 _ hy,h⟩
omit Z in
theorem D3:∀(l:bg Int) (m:br Int),(∀x∈l,∃y,l.foldl ng m=lD y/\x<=y)/\∀z,m=lD z->∃y,l.foldl ng m=lD y/\z<=y
 |[],m=>⟨λx f=>(by cases f),λz h=>⟨z,h,aa4 _⟩⟩
 |x::r,m=>by
  rw[Za];obtain⟨o,n⟩:=D3 r (ng m x);have j:∃z,ng m x=lD z/\x<=z/\∀u,m=lD u->u<=z:=by
   cases m with
   |none=>exact⟨x,rfl,aa4 _,λu h=>by cases h⟩
   |some u=>
    refine⟨if x>u then x else u,rfl,?_,λv h=>?_⟩
    .split<;>ext
    .cases h;split<;>ext
  obtain⟨z,t,B,q⟩:=j;obtain⟨y,e,A⟩:=n z t;refine⟨λv d=>?_,λu i=>⟨y,e,by have:=q u i;ext⟩⟩;rcases Vm.mp d with rfl|d
  .exact⟨y,e,by ext⟩
  .exact o v d
omit Z in
theorem DG{X:Ac}{n:Int}:n∈(iS X).filterMap Pc↔∃k,k<5/\X k=lD (.X7 n):=by
 rw[Yq];constructor
 .rintro⟨⟨k,m⟩,e,d⟩
  have f:=gZ.mp e;cases m with
  |X7 x=>have:x=n:=Vi d;subst this;exact⟨k,f.1,f.2⟩
  |_=>cases d
 .rintro⟨k,e,d⟩;exact⟨(k,.X7 n),gZ.mpr ⟨e,d⟩,rfl⟩
def Lw(h:SA b s):0<=z0 s.ac/\z0 s.ac<b.ls.length/\(∀k n,s.ac k=R (.X7 n)->n<=z0 s.ac)/\(z0 s.ac=0\/∃k,s.ac k=R (.X7 (z0 s.ac))):=by
 let l:=Z.l1;let o:=Z.n5;ext z0;generalize hm:((iS s.ac).filterMap Pc).foldl ng S=m;let i:=(D3 ((iS s.ac).filterMap Pc) S).1;let d:=CQ ((iS s.ac).filterMap Pc) S;rw[hm]at i d;let up:∀k n,s.ac k=R (.X7 n)->∃y,m=R y/\n<=y:=λk n e=>i n (DG.mpr #[k,by let:=(h.ac k _ e).1;ext,e]);cases m with
 |none=>show#[aa4 _,by show(0:Int)<_;ext,λk n e=>?_,.inl W];let(y,f,_):=up k n e;ext f
 |some x=>
  rcases d with d|⟨y,q,d⟩
  .ext d
  .ext d;let(k,_,e):=DG.mp q;let:=(h.ac k _ e).2;let:1<=x/\x<b.ls.length:=this;show#[by show 0<=x;ext,by show x<_;ext,λk n e=>?_,.inr #[k,e]];let(y,f,j):=up k n e;ext f;show j
def BC(h:SA b s):0<=sE s.ac s.oc/\sE s.ac s.oc<b.ls.length:=by
 cases q:s.oc with
 |none=>let:=Lw Z h;show#[this.1,this.2.1]
 |some o=>let:=h.oc o q;show#[by show 0<=o;ext,this.2]
end
section
variable{b:Bd}{s:Yg}{U:Sn}{Y:bg (Nat×Mn)}{J:bh}{X:bC}{i:Nat}{Z:bh}{p:Yg×Sn}{k:Nat}{a:Mn}
def BT(h:f x=R y):aJ f [x]=R [y]:=by ext aJ;rw[h];rfl
def hJ:(l++[c]).set l.length o=l++[o]:=by simp
def rB(j:HS b p Z):∃c,bU [.rf 0] Z=.ok (.fz (eJ p.1)) c/\HS b p c:=by
 let(Y,J,d,rfl):=j;let f:=Ix d;let g:lC (wU (bH "Hand" "acts" (aA 0))) [R (.rf 0)] (dW b p.1 p.2 Y J)=.ok ((iS p.1.ac).map λq=>nd q.1) (dW b p.1 p.2 Y (J++[.dead])):=by
  show(Bu (ds:=(iS p.1.ac).map λq=>nd q.1) (Lr (iO W) W (Kk d) (by rw[UR];ext)) ?_).trans ?_
  .rw[Jg d];show a9.trans ?_;rw[VG,VG];rfl
  .rw[hJ];rfl
 let h:eU (fT 0) iB (kg (aq (aa (ae 0)) (aq (wN (bH "Hand" "acts" (aA 1)) (aa (ae 0))) aX))) ((iS p.1.ac).map λq=>nd q.1) [S,R (.rf 0)] (dW b p.1 p.2 Y (J++[.dead])) []=.ok (((iS p.1.ac).map pD).map .fz) (dW b p.1 p.2 Y (J++[.dead])):=by show(mz (λq:Nat×Mn=>nd q.1) (λq=>.fz (pD q)) _ (λX=>∃o,X=[o,R (.rf 0)]) (iS p.1.ac) _ [] #[S,W] (by let:=xk p.1.ac;rw[WG];ext) ?_).trans (by rw[VG];rfl);rintro q e X ⟨o,rfl⟩;let hm:=gZ.mp e;show#[[-(nd q.1),R (.rf 0)],W,W,?_,_,W];show uq (aw (ah (ag W)) (aw (NA (iO W) (ah (ag W)) W W (by rw[oP d hm.1,hm.2];rfl)) aV)) (UW W)
 let tp:nt t7 (aq (oJ 1 [0] (lC (wU (bH "Hand" "acts" (aA 0)))) (fT 0) iB (kg (aq (aa (ae 0)) (aq (wN (bH "Hand" "acts" (aA 1)) (aa (ae 0))) aX)))) aX) [R (.rf 0)] (dW b p.1 p.2 Y J)=.ok (.fz (.tuple ((iS p.1.ac).map pD))) (dW b p.1 p.2 Y (J++[.dead]++[.lst (((iS p.1.ac).map pD).map .fz)])):=
  k8 (aw (xY g h) aV) (BT (cJ a9)) W
 show#[_,kY W (jM (uq (aw tp (aw (ce W) (aw (EK W) aV))) (UW W))),Y,_,d,W]
def GF(c:HS b p Z):cz [.rf 0,.fz (nd k)] Z=.ok (.fz (.bool (FP p.1.wt k))) Z:=by
 let(Y,J,h,rfl):=c;show kY W (jM ?_);cases q:p.1.wt with
 |none=>
  let d:pE (kT p.1.wt) .none=-(.bool U0):=by rw[q];rfl
  show Fg (aW (b4 (ce W) (ah aG) (bL d)))
 |some x=>
  let(e,g,w):=x;let d:pE (kT p.1.wt) .none=-(.bool P):=by rw[q];rfl
  let f:bE (kT p.1.wt) (.int 0)=-(.tuple (cb e)):=by rw[q];show io
  show mP (aW (b4 (ce W) (ah aG) (bL d))) (b4 (ah (ag W)) (df (ce W) (ah aG) f) (bL (xO _ _)))
def Sf(T:HS b p Z)(t:AK p.1.ac)(Q:p.1.ac k=R a)(F:p.2.length<1000):∃D,ka [.rf 0,.fz (nd k)] Z=.ok (.fz .none) D/\HS b (go p k) D:=by
 let(Y,J,B,rfl):=T;let G:=(t k a Q).1;let lb:=(t k a Q).2;let(f,K,w):=Jl B
 let m:AN (bH "Hand" "acts" (aA 0)) (aa (ae 1)) [R (.rf 0),-(nd k),S] (dW b p.1 p.2 Y J)=.ok (.fz (mD a)) (dW b {p.1 with ac:=nK p.1.ac k S} p.2 f J):=
  (Nw (iO W) W (ah (ag W)) W W (by rw[oP B G,Q];rfl)).trans (by rw[K];rfl)
 let H:go p k=({p.1 with ac:=nK p.1.ac k S},p.2++QL (nK p.1.ac k S) a):=by ext go;rw[Q]
 rw[H];let o:AK (nK p.1.ac k S):=λj x e=>by
  by_cases z:j=k
  .subst z;rw[fL]at e;ext e
  .rw[ip z]at e;show t j x e
 let e0:=oS a;let M:=j9 a;let h:a8 (aY cY (aY bE (ae 2) (~~~0)) (pC (.str "letter"))) (cR [R (.rf 0),-(nd k),-(mD a)])=.ok (a.isL,cR [R (.rf 0),-(nd k),-(mD a)]):=by ext:0
 let v:Zq (cH (nX (cr (a8 (aY cY (aY bE (ae 2) (~~~0)) (pC (.str "letter"))))) (mX (bt (bu "Hand" "has_act" b3 2 (aA 0) (aq (aa (ae 2)) aX))))) (b6 (uM (bH "Hand" "sent" (aA 0)) (aa (bZ {aY bE (ae 2) (~~~1),pC (.str "up")})))) cL [R (.rf 0),-(nd k),-(mD a)] (dW b {p.1 with ac:=nK p.1.ac k S} p.2 f J)) (λ_ D=>SV.fz .none=.fz .none/\HS b ({p.1 with ac:=nK p.1.ac k S},p.2++QL (nK p.1.ac k S) a) D) (λ_ _=>False) (λr D=>r=.fz .none/\HS b ({p.1 with ac:=nK p.1.ac k S},p.2++QL (nK p.1.ac k S) a) D):=by
  cases q:a.isL with
  |false=>
   rw[q]at h;show eZ (gK (cx h)) (mF #[W,f,J,w,?_]);let:QL (nK p.1.ac k S) a=[]:=by ext a<;>first|rfl|ext q
   rw[this,Vz]
  |true=>
   rw[q]at h;let(C,u,n):=HU (p:=({p.1 with ac:=nK p.1.ac k S},p.2)) #[f,J,w,W] o lb;let g:∀l,pY (nK p.1.ac k S) a=l->(nX (cr (a8 (aY cY (aY bE (ae 2) (~~~0)) (pC (.str "letter"))))) (mX (bt (bu "Hand" "has_act" b3 2 (aA 0) (aq (aa (ae 2)) aX))))) [R (.rf 0),-(nd k),-(mD a)] (dW b {p.1 with ac:=nK p.1.ac k S} p.2 f J)=.ok (!l) C:=λl e=>by
    let u:b3 [.rf 0,.fz (mD a)] (dW b {p.1 with ac:=nK p.1.ac k S} p.2 f J)=.ok (.fz (.bool l)) C:=by rw[<-e];show u
    show gO (cx h) (iK (aW (cA (p:=({p.1 with ac:=nK p.1.ac k S},p.2)) #[f,J,w,W] (by left) W (aw (ah (ag W)) aV) W u)))
   let(y,E,A,I):=n;rw[I]at g;cases N:pY (nK p.1.ac k S) a with
   |true=>
    show eZ (g P N) (mF #[W,y,E,A,?_]);let:QL (nK p.1.ac k S) a=[]:=by
     ext a<;>first|ext q|skip
     show(if pY (nK p.1.ac k S) _=P then _ else _)=_;rw[av N]
    rw[this,Vz]
   |false=>
    ext a<;>first|ext q|skip
    rename_i c;let L:bE (mD (.VI c)) (.int 1)=-(.str (kh c)):=jo;show uy (g U0 N) (jw (DT (d:=U0) F W (ah (show _=Res.ok (PV.fz (.tuple [.str (kh c),.str "up"]),_) by ext:0))) #[W,y,E,A,?_]);let:QL (nK p.1.ac k S) (.VI c)=[(c,U0)]:=by show(if pY (nK p.1.ac k S) _=P then _ else _)=_;rw[ax (by rw[N];simp)]
    rw[this]
 show jF W (kK m W v)
end
section
variable{b:Bd}(Y:VB b){s:Yg}{Q:Sn}{U:bg (Nat×Mn)}{J:bh}{T:bC}{i:Nat}{Z:bh}{p:Yg×Sn}{k:Nat}{a:Mn}{X:bg Nat}{g:Int}{w:br (Nat×Int)}
theorem IE:∀(X:G Nat) (d:G Mn),ou (cb X) (d.map mD)=(X.zip d).map pD
 |[],_=>by cases ‹G Mn›<;>rfl
 |_::_,[]=>rfl
 |k::r,a::t=>by show UU.tuple [nd k,mD a]::ou (cb r) (t.map mD)=_;rw[IE r t];rfl
def BJ(h:∀c n,w=R (c,n)->c<26):cY (vM w) (.tuple [.str "chord"])=-(.bool w.isNone)/\nj (vM w) (.tuple [.str "chord"])=-(.bool w.isSome):=by
 cases w with
 |none=>
  let j:lj (.tuple [.str "chord"])=P:=by left
  let f:UU.canLay0 (.tuple [.str "chord"])=P:=by left
  let d:UU.eqv (.tuple [.str "chord"]) (.tuple [.str "chord"])=P:=by left
  constructor
  .show(if(lj (.tuple [.str "chord"])&&UU.canLay0 (.tuple [.str "chord"]))=P then R (RV.fz (.bool (UU.eqv (.tuple [.str "chord"]) (.tuple [.str "chord"]))))else S)=_;rw[j,f,d];rfl
  .show(if(lj (.tuple [.str "chord"])&&UU.canLay0 (.tuple [.str "chord"]))=P then R (RV.fz (.bool (!UU.eqv (.tuple [.str "chord"]) (.tuple [.str "chord"]))))else S)=_;rw[j,f,d];rfl
 |some l=>
  let(c,n):=l;let lb:LB (.tap c n):=h c n W;let e:UU.eqv (mD (.tap c n)) (.tuple [.str "chord"])=U0:=by show(decide (("tap":Str)= "chord")&&UU.eqvAll [.str (kh c),.int n] [])=U0;rw[show decide (("tap":Str)= "chord")=U0 by left];rfl
  constructor
  .show(if(lj (mD (.tap c n))&&UU.canLay0 (.tuple [.str "chord"]))=P then R (RV.fz (.bool (UU.eqv (mD (.tap c n)) (.tuple [.str "chord"]))))else S)=_;rw[J9 lb,show UU.canLay0 (.tuple [.str "chord"])=P by left,e];rfl
  .show(if(lj (mD (.tap c n))&&UU.canLay0 (.tuple [.str "chord"]))=P then R (RV.fz (.bool (!UU.eqv (mD (.tap c n)) (.tuple [.str "chord"]))))else S)=_;rw[J9 lb,show UU.canLay0 (.tuple [.str "chord"])=P by left,e];rfl
theorem Al(X:G Nat)(w:I (Nat×Int))(d:G Mn):∀(f:G (Nat×Mn)) (p:Yg×Sn) (Z:bh) (m l:I SV),HS b p Z->AK p.1.ac->(∀q∈f,q.1<5/\LB q.2)->p.2.length+f.length<1000->
  ∃c D,lQ (Rt 2 (xU (fT 4) (xU (fT 5) Gy))) (b6 (bu "Hand" "come" bK 3 (aA 0) (aq (aa (ae 4)) (aq (aa (ae 5)) aX)))) (f.map pD) [R (.rf 0),-(.tuple (cb X)),-(vM w),-(.list (d.map mD)),m,l] Z=.ok (.nx c) D/\HS b (lf p f) D
 |[],p,Z,m,l,L,_,_,_=>#[_,Z,W,L]
 |q::r,p,Z,m,l,L,hA,N,hl=>by
  rw[Vd]at hl;let h:=N q U5;let(u,B,o):=tf L hA h.2 h.1 ();let t:AK (ia p q.1 q.2).1.ac:=λj x e=>by
   by_cases z:j=q.1
   .let C:R q.2=R x:=by rw[z]at e;show(fL).symm.trans e
    ext C;show#[by rw[z];show h.1,h.2]
   .show hA j x ((ip z).symm.trans e)
  let:=vD (p:=p) (k:=q.1) (a:=q.2);let(c,D,A,n):=Al X w d r (ia p q.1 q.2) u (-(nd q.1)) (-(mD q.2)) o t (λx y=>N x (U6 _ y)) ();show#[c,D,?_,n]
  let v:b6 (bu "Hand" "come" bK 3 (aA 0) (aq (aa (ae 4)) (aq (aa (ae 5)) aX))) [R (.rf 0),-(.tuple (cb X)),-(vM w),-(.list (d.map mD)),-(nd q.1),-(mD q.2)] Z=.ok (.nx [R (.rf 0),-(.tuple (cb X)),-(vM w),-(.list (d.map mD)),-(nd q.1),-(mD q.2)]) u:=
   gB (cA L (by left) W (aw (ah (ag W)) (aw (ah (ag W)) aV)) W B)
  show((b6 (bu "Hand" "come" bK 3 (aA 0) (aq (aa (ae 4)) (aq (aa (ae 5)) aX))) [R (.rf 0),-(.tuple (cb X)),-(vM w),-(.list (d.map mD)),-(nd q.1),-(mD q.2)] Z).bind _)=_;rw[v,eH];show A
include Y
def mM(D:HS b p Z)(m:SA b p.1)(e:p.1.wt=R (X,g,w))(v:WV b p.1.ac X g w)(H:p.2.length<900):∃x,ck [.rf 0] Z=.ok (.fz .none) x/\HS b (d7 b p) x:=by
 let(U,J,u,rfl):=D;let e0:bE (kT p.1.wt) (.int 0)=-(.tuple (cb X)):=by rw[e];show io
 let C:bE (kT p.1.wt) (.int 2)=-(vM w):=by rw[e];show u9
 let o:=v.len Y;let r:=v.ala;let B:=BJ λc n h=>(v.tp c n h).1;let A:d7 b p=lf ({p.1 with wt:=S},p.2) (X.zip (iw b X w)):=by ext d7;rw[e]
 rw[A];let l:a8 (aY cY (ae 2) (pC (.tuple [.str "chord"]))) (cR [R (.rf 0),-(.tuple (cb X)),-(vM w),S,S,S])=.ok (w.isNone,cR [R (.rf 0),-(.tuple (cb X)),-(vM w),S,S,S]):=bX (aN (ag W) aG W W B.1) W;let j:sd (Qa (cr (a8 (aY cY (ae 2) (pC (.tuple [(.str "chord")]))))) (jZ gr 2 (aq (bH "Hand" "bed" (aA 0)) (aq (aa (ae 1)) aX))) (aa (dh {bZ {pC (.str "layer"),aY bE (ae 2) (~~~2)}}))) [R (.rf 0),-(.tuple (cb X)),-(vM w),S,S,S] (dW b {p.1 with wt:=S} p.2 U J)=.ok (.fz (.list ((iw b X w).map mD))) (dW b {p.1 with wt:=S} p.2 U (J++[.dead])):=by
  cases w with
  |none=>let F:=Qm Y r o v.kn;show(tT (M9 (cx l) (xG (aw (rj W) (aw (ah (ag W)) aV)) W F)) (sK a9)).trans (by rw[hJ];rfl)
  |some E=>let(c,n):=E;let G:bE (vM (R (c,n))) (.int 2)=-(.int n):=u9;show(tT (Lz (cx l) (eS (show _=Res.ok (PV.ow [.tuple [.str "layer",.int n]],_) by ext:0))) (sK a9)).trans (by rw[hJ];rfl)
 let lp:∃d x,A3 (pc (Jm {ae 1,ae 3})) (Rt 2 (xU (fT 4) (xU (fT 5) Gy))) (b6 (bu "Hand" "come" bK 3 (aA 0) (aq (aa (ae 4)) (aq (aa (ae 5)) aX)))) [R (.rf 0),-(.tuple (cb X)),-(vM w),-(.list ((iw b X w).map mD)),S,S] (dW b {p.1 with wt:=S} p.2 U (J++[.dead]))=.ok (.nx d) x/\HS b (lf ({p.1 with wt:=S},p.2) (X.zip (iw b X w))) x:=by
  let I:=Y.n5;let(d,x,z,y):=Al X w (iw b X w) (X.zip (iw b X w)) ({p.1 with wt:=S},p.2) (dW b {p.1 with wt:=S} p.2 U (J++[.dead])) S S #[U,_,u,W] (SA.ak Y #[m.ac,m.oc]) (λq t=>by
   let:=yq Y v q t;show#[by ext,this.2.lb]) (by
   rw[afS];show p.2.length+_<1000;ext)
  show#[d,x,?_,y];ext A3;rw[uB (Ei (aj (ag W) (aj (ag W) aM)) W W W),eH,IE];show z
 let(d,x,lp,f):=lp;show#[x,pS (ρ1:=d) W ?_,f];show dk (qE (df (ce W) (ah aG) e0) W) (dk (qE (df (ce W) (ah aG) C) W) (dk (mB S W (ah aG)) (dk (qE j W) lp)))
omit Y in
theorem K6{c:bg Nat×Nat}(h:c.2<26):UU.canLay0 (eP c)=US:=by show(UU.canLayAll0 (cb c.1)&&(UU.strOk (kh c.2)&&US))=US;rw[oQ,og h];rfl
omit Y in
theorem Pb:∀{cs:bg (bg Nat×Nat)},(∀c∈cs,c.2<26)->nj (.list (cs.map eP)) (.list [])=-(.bool (!cs.isEmpty)):=by
 intro cs h;have f:∀cs:bg (bg Nat×Nat),(∀c∈cs,c.2<26)->UU.canLayAll0 (cs.map eP)=US:=by
  intro cs
  induction cs with
  |nil=>exact λ_=>rfl
  |cons c r d=>intro h;show(UU.canLay0 (eP c)&&UU.canLayAll0 (r.map eP))=US;rw[K6 (h c U5),d λx j=>h x (U6 _ j)];rfl
 have e:∀cs:bg (bg Nat×Nat),UU.depthAll (cs.map eP)<=2:=by
  intro cs
  induction cs with
  |nil=>exact VF _
  |cons c r d=>show max (UU.depth (eP c)) (UU.depthAll (r.map eP))<=2;refine akt.mpr ⟨?_,d⟩;show max (UU.depthAll (cb c.1)+1) (max 0 0)+1<=2;rw[tm];decide
 show(if((UU.canLayAll0 (cs.map eP)&&decide (UU.depthAll (cs.map eP)+1<=64))&&US)=US then lD (RV.fz (.bool (!UU.eqvAll (cs.map eP) [])))else UO)=_;rw[f cs h,aP (show UU.depthAll (cs.map eP)+1<=64 by have:=e cs;ext)];cases cs<;>rfl
theorem Nc(h:c∈gf b X):c.2<26:=(Y.vc c (Xj.mp h).1).2.2.2
omit Y in
theorem Ey(h:X≠[])(d:X.length<=5):dM (.tuple (cb X)) (.tuple [nd k])=-(.tuple (cb (X++[k]))):=by
 show(if cb X≠[]/\(cb X).length+1<=1000000 then lD (RV.fz (.tuple (cb X++[nd k])))else UO)=_;rw[av ⟨by cases X with
  |nil=>exact a6 rfl h
  |cons x r=>simp[cb],by rw[gY];ext⟩,M0]
 rfl
def Eo{h:cZ}{Z1:bh}(j:∃U J,Z1=dW b s Q U J)(h0:T[0]?=R (R (.rf 0)))(d:X.length<=5)(e:h T Z1=.ok (.fz (.tuple (cb X))) Z1):iU nj (jZ bT 2 (aq (bH "Hand" "bed" (aA 0)) (aq h aX))) (aa (dh aD)) T Z1=.ok (.fz (.bool (!(gf b X).isEmpty))) (Z1++[.lst (((gf b X).map eP).map .fz)]++[.lst []]):=by let(U,J,rfl):=j;show b4 (xG (ds:=[bD b,.tuple (cb X)]) (aw (rj h0) (aw e aV)) W (DN Y d)) (eS (ds:=[]) (ρ':=cR T) (ro aM W (VF _))) ?_;show qU (cJ (e9 a9)) (cJ (ds:=[]) a9) (Pb λc f=>Nc Y f)
def QV(D:HS b p Z)(sw:SW b p.1)(I:(k:Int)<b.n)(N:FP p.1.wt k=U0):∃V,eC [.rf 0,.fz (nd k)] Z=.ok (.fz (.bool (JC b p.1 k))) V/\HS b p V:=by
 cases q:p.1.wt with
 |none=>
  let l:JC b p.1 k=U0:=by ext JC;rw[q]
  rw[l];let(U,J,f,rfl):=D;let m:yg (kT p.1.wt) .none=-(.bool P):=by rw[q];rfl
  show#[_,kY W (qV (gl (vG (aW (b4 (ce W) (ah aG) (bL m)))) (jM (ah aG)))),U,J,f,W]
 |some x=>
  let(X,g,w):=x;let v:=(sw.wt X g w q).1;let C:=v.len Y;let m:yg (kT p.1.wt) .none=-(.bool U0):=by rw[q];rfl
  let B:bE (kT p.1.wt) (.int 2)=-(vM w):=by rw[q];show u9
  let e0:bE (kT p.1.wt) (.int 0)=-(.tuple (cb X)):=by rw[q];show io
  let A:=(BJ λc n h=>(v.tp c n h).1).2;cases w with
  |some L=>
   let l:JC b p.1 k=U0:=by ext JC;rw[q]
   rw[l];let(U,J,f,rfl):=D;show#[_,kY W (qV (gl (eW (aW (b4 (ce W) (ah aG) (bL m))) (vG (aW (b4 (df (ce W) (ah aG) B) (ah aG) (bL A))))) (jM (ah aG)))),U,J,f,W]
  |none=>
   let l:JC b p.1 k=(decide (sE p.1.ac p.1.oc=0)&& !(gf b (X++[k])).isEmpty):=by ext JC;rw[q]
   rw[l];let(u,G,j):=rB D;let d:(wo (bt (iU yg (bH "Hand" "waiting" (aA 0)) (aa (pC .none)))) (wo (bt (iU nj (d6 (bH "Hand" "waiting" (aA 0)) (aa (~~~2))) (aa (pC (.tuple [(.str "chord")]))))) (bt (iU nj (jZ eD 1 (aq (bu "Hand" "stands" bU 1 (aA 0) aX) aX)) (aa (~~~0)))))) [R (.rf 0),-(nd k)] Z=.ok (!decide (sE p.1.ac p.1.oc=0)) u:=by
    let H:bt (iU nj (jZ eD 1 (aq (bu "Hand" "stands" bU 1 (aA 0) aX) aX)) (aa (~~~0))) [R (.rf 0),-(nd k)] Z=.ok (!decide (sE p.1.ac p.1.oc=0)) u:=
     aW (b4 (CK (aw (cA D (by left) W aV W G) aV) W (zG p.1)) (ah aG) (bL (xp _ _)))
    let(U,J,f,rfl):=D;show eW (aW (b4 (ce W) (ah aG) (bL m))) (eW (aW (b4 (df (ce W) (ah aG) B) (ah aG) (bL A))) H)
   by_cases z:sE p.1.ac p.1.oc=0
   .rw[aP z]at d⊢
    let(U,J,f,rfl):=j;let t:k∉X:=by rw[q]at N;show of_decide_eq_false N
    let o:(X++[k]).Nodup:=by rw[X6];show#[v.nd,Wf.mpr #[Ww,Zv],λx r y E e=>t (by rw[<-U9.mp E,<-e];show r)]
    let F:(X++[k]).length<=5:=B8 o λx r=>by
     let K:=Y.n5;rcases VH.mp r with h|h
     .let:=v.kn x h;ext
     .rw[U9.mp h];ext
    show#[_,kY W (dk (jg d iH) (jM (Eo Y #[U,J,W] W F (b4 (df (ce W) (ah aG) e0) (ah (c9 (aj (ag W) aM) W (UW W))) (bL (Ey v.ne C)))))),U,_,f,W]
   .rw[a4 z]at d⊢;show#[u,kY W (qV (gl d (jM (ah aG)))),j]
end
section
variable{b:Bd}(Y:VB b){s:Yg}{sn:Sn}{ps:bg (Nat×Mn)}{J:bh}{ρ:bC}{i:Nat}{Z:bh}{p:Yg×Sn}{k:Nat}{a:Mn}{ks:bg Nat}{g:Int}{w:br (Nat×Int)}
include Y
def PK(v:WV b p.1.ac ks g w)(c:k∉ks)(l:(k:Int)<b.n):(ks++[k]).Nodup/\(ks++[k]).length<=5:=by
 let d:(ks++[k]).Nodup:=by rw[X6];show#[v.nd,Wf.mpr #[Ww,Zv],λx f y j e=>c (by rw[<-U9.mp j,<-e];show f)]
 show#[d,B8 d λx f=>?_];let m:=Y.n5;rcases VH.mp f with h|h
 .let:=v.kn x h;ext
 .rw[U9.mp h];ext
def CL(sw:SW b p.1)(l:(k:Int)<b.n)(C:p.1.ac k=S)(A:FP p.1.wt k=U0)(hm:JC b p.1 k=P):∃ks g,p.1.wt=R (ks,g,S)/\k∉ks/\WV b p.1.ac (ks++[k]) g S/\g<b.wt:=by
 unfold JC at hm;split at hm
 .rename_i ks g q
  rw[Vh]at hm;let(v,m):=sw.wt ks g S q;let e:k∉ks:=by rw[q]at A;show of_decide_eq_false A
  let(j,y):=PK Y v e l;show#[ks,g,q,e,#[by simp,j,λx d=>?_,λx d=>?_,v.g0,λc n h=>(by ext h),λ_ x d=>?_],m]
  .rcases VH.mp d with h|h
   .show v.kn x h
   .rw[U9.mp h];show l
  .rcases VH.mp d with h|h
   .show v.kf x h
   .rw[U9.mp h];show C
  .let f:=hm.2
   cases z:gf b (ks++[k])with
   |nil=>rw[z]at f;ext f
   |cons c r=>
    let o:c∈gf b (ks++[k]):=by rw[z];show U5
    let(u,t):=Xj.mp o;let:=Wr.mp t x d;show(Y.vc c u).2.2.1 x (a5 this)
 .ext hm
def LH(D:HS b p Z)(sw:SW b p.1)(f:p.1.wt=R (ks,g,S))(v:WV b p.1.ac (ks++[k]) g S)(h:WV b p.1.ac ks g S)(r:p.2.length<900):∃x,dU [.rf 0,.fz (nd k)] Z=.ok (.fz .none) x/\HS b (yS b p k) x:=by
 let(ps,J,j,rfl):=D;let l:=v.len Y;let e0:bE (kT p.1.wt) (.int 0)=-(.tuple (cb ks)):=by rw[f];show io
 let A:bE (kT p.1.wt) (.int 1)=-(.int g):=by rw[f];show jo
 let z:yS b p k=if(gf b (ks++[k])).map (·.1.length)=[(ks++[k]).length]then d7 b ({p.1 with wt:=R (ks++[k],g,S)},p.2)else({p.1 with wt:=R (ks++[k],g,S)},p.2):=by ext yS;rw[f]
 let n:HS b ({p.1 with wt:=R (ks++[k],g,S)},p.2) (dW b {p.1 with wt:=R (ks++[k],g,S)} p.2 ps J):=#[ps,J,j,W];let B:eU (fT 0) iB (aa (jW dB {aY bE (ae 0) (~~~0)})) ((gf b (ks++[k])).map eP) [S] (dW b {p.1 with wt:=R (ks++[k],g,S)} p.2 ps (J++[.dead])) []=.ok ((cb ((gf b (ks++[k])).map (·.1.length))).map .fz) (dW b {p.1 with wt:=R (ks++[k],g,S)} p.2 ps (J++[.dead])):=by
  show(mz eP (λc=>.fz (nd c.1.length)) _ (λρ=>∃o,ρ=[o]) (gf b (ks++[k])) _ [] #[S,W] ?_ ?_).trans (by ext cb;rw[VG,VG];rfl)
  .let:=aaH (λc:G Nat×Nat=>(ks++[k]).all λk=>decide (k∈c.1)) b.cs;let:=Y.c4;show 0+(gf b (ks++[k])).length<=_;ext gf;ext
  .rintro c _ ρ ⟨o,rfl⟩;let m:bE (eP c) (.int 0)=-(.tuple (cb c.1)):=io;show#[[-(eP c)],W,W,ah (gI (aj (aN (ag W) aG W W m) aM) W ((jT _).trans (by rw[gY]))),_,W]
 let y:lC (jZ bT 2 (aq (bH "Hand" "bed" (aA 0)) (aq (aa (ae 2)) aX))) [R (.rf 0),-(nd k),-(.tuple (cb (ks++[k])))] (dW b {p.1 with wt:=R (ks++[k],g,S)} p.2 ps J)=.ok ((gf b (ks++[k])).map eP) (dW b {p.1 with wt:=R (ks++[k],g,S)} p.2 ps (J++[.dead])):=
  (Bu (xG (aw (rj W) (aw (ah (ag W)) aV)) W (DN Y l)) a9).trans (by rw[hJ];rfl)
 let rt:dh {jW dB {ae 2}} (cR [R (.rf 0),-(nd k),-(.tuple (cb (ks++[k])))])=.ok (.ow (cb [(ks++[k]).length]),cR [R (.rf 0),-(nd k),-(.tuple (cb (ks++[k])))]):=by show ro (aj (gI (aj (ag W) aM) W ((jT _).trans (by rw[gY]))) aM) W (UW W)
 let e:bt (iU cY (oJ 1 [] (lC (jZ bT 2 (aq (bH "Hand" "bed" (aA 0)) (aq (aa (ae 2)) aX)))) (fT 0) iB (aa (jW dB {aY bE (ae 0) (~~~0)}))) (aa (dh {jW dB {ae 2}}))) [R (.rf 0),-(nd k),-(.tuple (cb (ks++[k])))] (dW b {p.1 with wt:=R (ks++[k],g,S)} p.2 ps J)=.ok (decide ((gf b (ks++[k])).map (·.1.length)=[(ks++[k]).length])) (dW b {p.1 with wt:=R (ks++[k],g,S)} p.2 ps (J++[.dead])++[.lst ((cb ((gf b (ks++[k])).map (·.1.length))).map .fz)]++[.lst ((cb [(ks++[k]).length]).map .fz)]):=
  aW (b4 (xY y B) (eS rt) (qU (cJ (e9 a9)) (cJ a9) (xX _ _)))
 let d:HS b ({p.1 with wt:=R (ks++[k],g,S)},p.2) (dW b {p.1 with wt:=R (ks++[k],g,S)} p.2 ps (J++[.dead])++[.lst ((cb ((gf b (ks++[k])).map (·.1.length))).map .fz)]++[.lst ((cb [(ks++[k]).length]).map .fz)]):=#[ps,_,j,W];generalize (dW b {p.1 with wt:=R (ks++[k],g,S)} p.2 ps (J++[.dead])++[.lst ((cb ((gf b (ks++[k])).map (·.1.length))).map .fz)]++[.lst ((cb [(ks++[k]).length]).map .fz)]:bh)=L at e d;rw[z];show jF W (kK (b4 (df (ce W) (ah aG) e0) (ah (c9 (aj (ag W) aM) W (UW W))) (bL (Ey h.ne (h.len Y)))) W (E1 (mB (R (ks++[k],g,S)) W (uq (aw (ah (ag W)) (aw (df (ce W) (ah aG) A) (aw (ah aG) aV))) (UW W))) (AZ e (λq=>?_) λq=>?_)))
 .rw[av (a5 q)];let(C,u,t):=mM Y d #[sw.sa.ac,sw.sa.oc] W v r;show jw (cA d (by left) W aV W u) #[W,t]
 .rw[ax (of_decide_eq_false q)];show mF #[W,d]
def Nx(sw:SW b p.1)(d:p.1.wt=R (ks,g,S))(v:WV b p.1.ac (ks++[k]) g S)(f:g<b.wt):SW b (yS b p k).1:=by
 let h:yS b p k=if(gf b (ks++[k])).map (·.1.length)=[(ks++[k]).length]then d7 b ({p.1 with wt:=R (ks++[k],g,S)},p.2)else({p.1 with wt:=R (ks++[k],g,S)},p.2):=by ext yS;rw[d]
 rw[h];split
 .show(j4 Y (p:=({p.1 with wt:=R (ks++[k],g,S)},p.2)) #[sw.sa.ac,sw.sa.oc] λ_ _ _ e=>by ext e;show v).1
 .show#[#[sw.sa.ac,sw.sa.oc],λ_ _ _ e=>by ext e;show#[v,f]]
omit Y in
theorem Dx(s:Yg)(m:Mn):(ic s m).ac=s.ac/\(ic s m).wt=s.wt:=by unfold ic;split<;>exact⟨rfl,rfl⟩
omit Y in
theorem EU{m:Mn}(h:SA b s):SA b (ic s m):=by
 unfold ic;split
 .exact h
 .exact⟨h.ac,λo e=>by cases e⟩
def Pd(V:HS b p Z)(R:SA b p.1)(hw:p.1.wt=UO)(T:(k:Int)<b.n)(hl:p.2.length<900):∃D,gC [.rf 0,.fz (nd k)] Z=.ok (.fz .none) D/\HS b (KC b p k) D:=by
 let(P,O):=BC Y R;let I:=Md Y P O T;let(v,H):=xB Y P O T;let(Z1,h1,M):=rB V;let h5:=Y.n5;let eb:KC b p k=zh b (sE p.1.ac p.1.oc) (ic p.1 (look b (sE p.1.ac p.1.oc) k),p.2) k (look b (sE p.1.ac p.1.oc) k):=W;rw[eb];let S:jZ eD 1 (aq (bu "Hand" "stands" bU 1 (aA 0) aX) aX) [lD (.rf 0),-(nd k),UO,UO,UO] Z=.ok (.fz (.int (sE p.1.ac p.1.oc))) Z1:=CK (aw (cA V (by left) W aV W h1) aV) W (zG p.1);generalize sE p.1.ac p.1.oc=L at I v H S P O;generalize look b L k=m at I v H;let(ps,J,hp,rfl):=M;let lb:=v.lb;let c0:=oS m;let c1:=Sz m;let c2:=OP m;let c3:=j9 m;let c4:=KP m;let eL:cY (.int L) (.int 0)=-(.bool (decide (L=0))):=iL _ _;let A:(aZ (cH (cr (a8 (aY Cu (ae 4) (bZ {pC (.str "layer"),pC (.str "once")})))) (gj "Hand" "once" (aA 0) (aa (pC .none))) cL) cL) [lD (.rf 0),-(nd k),-(.int L),-(mD m),-(.str (wd m))] (dW b p.1 p.2 ps J)=.ok (.nx [lD (.rf 0),-(nd k),-(.int L),-(mD m),-(.str (wd m))]) (dW b (ic p.1 m) p.2 ps J):=by
  let t:cr (a8 (aY Cu (ae 4) (bZ {pC (.str "layer"),pC (.str "once")}))) [lD (.rf 0),-(nd k),-(.int L),-(mD m),-(.str (wd m))] (dW b p.1 p.2 ps J)=.ok (!(m.aez||m.isO)) (dW b p.1 p.2 ps J):=cx (by ext:0);ext ic;cases q:(m.aez||m.isO)with
  |true=>rw[q]at t;rw[av W];show dk (jg t iH) iH
  |false=>rw[q]at t;rw[ax Vg];show dk (gl t (Dw UO W (ah aG))) iH
 let Q:=Dx p.1 m;let G:SA b (ic p.1 m):=EU R;let j:ps.Perm (iS (ic p.1 m).ac):=by rw[Q.1];show hp
 let e:HS b (ic p.1 m,p.2) (dW b (ic p.1 m) p.2 ps J):=#[ps,J,j,W];generalize ic p.1 m=s2 at A Q G j e;let N:Zq ((cH (cr (a8 (aY cY (ae 4) (pC (.str "tap"))))) (gj "Hand" "waiting" (aA 0) (aa (bZ {bZ {ae 1},~~~0,ae 3}))) (cH (nX (cr (a8 (aY cY (ae 4) (pC (.str "letter"))))) (nX (cr (a8 (aY cY (ae 2) (~~~0)))) (bt (iU nj (jZ bT 2 (aq (bH "Hand" "bed" (aA 0)) (aq (aa (bZ {ae 1})) aX))) (aa (dh aD)))))) (gj "Hand" "waiting" (aA 0) (aa (bZ {bZ {ae 1},~~~0,pC (.tuple [(.str "chord")])}))) (cH (cr (a8 (aY cY (ae 4) (pC (.str "once"))))) (aZ (b6 (bu "Hand" "come" bK 3 (aA 0) (aq (aa (ae 1)) (aq (aa (pC (.tuple [(.str "none")]))) aX))))
 (gj "Hand" "once" (aA 0) (aa (aY bE (ae 3) (~~~1))))) (b6 (bu "Hand" "come" bK 3 (aA 0) (aq (aa (ae 1)) (aq (aa (ae 3)) aX))))))) [lD (.rf 0),-(nd k),-(.int L),-(mD m),-(.str (wd m))] (dW b s2 p.2 ps J)) (λ_ D=>SV.fz .none=.fz .none/\HS b (zh b L (s2,p.2) k m) D) (λ_ _=>False) (λr D=>r=.fz .none/\HS b (zh b L (s2,p.2) k m) D):=by
  let z:∀{Z:bh},cr (a8 (aY cY (ae 4) (pC (.str "tap")))) [lD (.rf 0),-(nd k),-(.int L),-(mD m),-(.str (wd m))] Z=.ok m.isT Z:=cx (by ext:0);let C:∀{Z:bh},cr (a8 (aY cY (ae 4) (pC (.str "letter")))) [lD (.rf 0),-(nd k),-(.int L),-(mD m),-(.str (wd m))] Z=.ok m.isL Z:=cx (by ext:0);let B:∀{Z:bh},cr (a8 (aY cY (ae 4) (pC (.str "once")))) [lD (.rf 0),-(nd k),-(.int L),-(mD m),-(.str (wd m))] Z=.ok m.isO Z:=cx (by ext:0);let E:∀{Z:bh},cr (a8 (aY cY (ae 2) (~~~0))) [lD (.rf 0),-(nd k),-(.int L),-(mD m),-(.str (wd m))] Z=.ok (decide (L=0)) Z:=cx (by ext:0);let kt:∀{Z:bh},aa (bZ {ae 1}) [lD (.rf 0),-(nd k),-(.int L),-(mD m),-(.str (wd m))] Z=.ok (.fz (.tuple (cb [k]))) Z:=ah (c9 (aj (ag W) aM) W (UW W));let cm:∀{Z:bh},HS b (s2,p.2) Z->VA b.ls.length m->∃D,b6 (bu "Hand" "come" bK 3 (aA 0) (aq (aa (ae 1)) (aq (aa (ae 3)) aX))) [lD (.rf 0),-(nd k),-(.int L),-(mD m),-(.str (wd m))] Z=.ok (.nx [lD (.rf 0),-(nd k),-(.int L),-(mD m),-(.str (wd m))]) D/\HS b (ia (s2,p.2) k m) D:=λ{Z} V va=>by let(D,u,l):=tf (k:=k) V (G.ak Y) va.lb () (show p.2.length<1000 by ext);show#[D,gB (cA V (by left) W (aw (ah (ag W)) (aw (ah (ag W)) aV)) W u),l]
  cases m with
  |below=>show a6 W H
  |tap c n=>show uy z (pP (mB (lD ([k],0,lD (c,n))) W (ah (ρ':=cR [lD (.rf 0),-(nd k),-(.int L),-(mD (.tap c n)),-(.str (wd (.tap c n)))]) ?_)) #[W,ps,J,j,W]);show _=Res.ok (PV.fz (.tuple [.tuple [nd k],.int 0,mD (.tap c n)]),_);ext:0
  |VI c=>
   obtain⟨d1,d2⟩:VA b.ls.length (.VI c)/\True:=#[v,trivial];by_cases F:L=0
   .rw[aP F]at E
    let ov:=Eo Y (Z1:=dW b s2 p.2 ps J) #[ps,J,W] W (UW W) kt;let K:HS b (s2,p.2) (dW b s2 p.2 ps J++[.lst (((gf b [k]).map eP).map .fz)]++[.lst []]):=#[ps,_,j,W];let y:zh b L (s2,p.2) k (.VI c)=if(!(gf b [k]).isEmpty)=US then({s2 with wt:=lD ([k],0,UO)},p.2)else ia (s2,p.2) k (.VI c):=by show(if(decide (L=0)&& !(gf b [k]).isEmpty)=US then _ else _)=_;rw[aP F,YW]
    rw[y];show eZ z (AZ (gO C (gO E (aW ov))) (λq=>?_) λq=>?_)
    .rw[av q];show pP (mB (lD ([k],0,UO)) W (ah (ρ':=cR [lD (.rf 0),-(nd k),-(.int L),-(mD (.VI c)),-(.str (wd (.VI c)))]) ?_)) #[W,ps,_,j,W];show _=Res.ok (PV.fz (.tuple [.tuple [nd k],.int 0,.tuple [.str "chord"]]),_);ext:0
    .rw[ax (by rw[q];simp)];let(D,u,l):=cm K v;show eZ B (pP u #[W,l])
   .rw[a4 F]at E
    let y:zh b L (s2,p.2) k (.VI c)=ia (s2,p.2) k (.VI c):=by show(if(decide (L=0)&& !(gf b [k]).isEmpty)=US then _ else _)=_;rw[a4 F,Yy,ax Vg]
    rw[y];let(D,u,l):=cm e v;show eZ z (eZ (gO C (gK E)) (eZ B (pP u #[W,l])))
  |X7 n=>let(D,u,l):=cm e v;show eZ z (eZ (gK C) (eZ B (pP u #[W,l])))
  |none=>let(D,u,l):=cm e trivial;show eZ z (eZ (gK C) (eZ B (pP u #[W,l])))
  |once n=>let(D,u,l):=tf (k:=k) (a:=.none) e (G.ak Y) trivial () (show p.2.length<1000 by ext);let i1:bE (mD (.once n)) (.int 1)=-(.int n):=jo;let(X,J2,hq,rfl):=l;show eZ z (eZ (gK C) (uy B (E1 (gB (cA e (by left) W (aw (ah (ag W)) (aw (ah aG) aV)) W u)) (pP (Dw (lD n) W (ah (ρ':=cR [lD (.rf 0),-(nd k),-(.int L),-(mD (.once n)),-(.str (wd (.once n)))]) ?_)) #[W,X,J2,hq,W]))));show _=Res.ok (PV.fz (.int n),_);show aN (rv:=.fz (.int n)) (ag W) aG W W i1
 show jF (ρ:=[lD (.rf 0),-(nd k),UO,UO,UO]) W (kK S W (kK (CK (ds:=[bD b,.int L,nd k]) (aw (rj W) (aw (ah (ag W)) (aw (ah (ag W)) aV))) W I) W (kK (ah (d:=.str (wd m)) (ρ':=cR [lD (.rf 0),-(nd k),-(.int L),-(mD m),UO]) (aN (rv:=.fz (.str (wd m))) (ag W) aG W W c0)) W ?_)));show .eq ?_ N;let U:∀{f g:eK} {ρ:bC} {Z D:bh},aZ f cL ρ Z=.ok (.nx ρ) D->aZ f g ρ Z=g ρ D:=λ{f g ρ Z D} h=>by
  unfold aZ at h⊢;cases q:f ρ Z with
  |bad=>rw[q]at h;ext h
  |er x o=>rw[q]at h;ext h
  |ok fl o=>
   rw[q]at h;cases fl with
   |nx r=>ext h;rfl
   |_=>ext h
 show U A
end
section
variable{b:Bd}(Y:VB b){s:Yg}{sn:Sn}{U:bg (Nat×Mn)}{J:bh}{T:bC}{i:Nat}{Z:bh}{p:Yg×Sn}{k:Nat}{a:Mn}{X:bg Nat}{g:Int}{w:br (Nat×Int)}
include Y
omit Y in
theorem EL(h:SA b s)(d:s.wt=UO):SW b s:=⟨h,λ_ _ _ e=>by rw[d]at e;cases e⟩
def QE(z:SA b p.1)(K:p.1.wt=S)(v:(k:Int)<b.n)(D:p.1.ac k=S):SW b (KC b p k).1:=by
 let(G,F):=BC Y z;let(d,u):=xB Y G F v;let N:KC b p k=zh b (sE p.1.ac p.1.oc) (ic p.1 (look b (sE p.1.ac p.1.oc) k),p.2) k (look b (sE p.1.ac p.1.oc) k):=W;rw[N];generalize sE p.1.ac p.1.oc=L at d u G F;generalize look b L k=m at d u;let y:=Dx p.1 m;let j:SA b (ic p.1 m):=EU z;let f:=y.2.trans K;let t:(ic p.1 m).ac k=S:=by rw[y.1];show D
 generalize ic p.1 m=s2 at j f t;let R:=Y.w1;let B:[k].Nodup:=Wf.mpr #[Ww,Zv];let C:∀x∈[k],(x:Int)<b.n:=λx l=>by rw[U9.mp l];show v
 let E:∀x∈[k],s2.ac x=S:=λx l=>by rw[U9.mp l];show t
 let cm:∀m,VA b.ls.length m->SW b (ia (s2,p.2) k m).1:=λm H=>EL (j.cm v H) f;cases m with
 |below=>show a6 W u
 |tap c n=>show#[#[j.ac,j.oc],λ_ _ _ e=>?_];ext e;show#[#[by simp,B,C,E,aa4 _,λQ I e=>by ext e;show#[d.1,d.2,W],λe=>by ext e],by ext]
 |VI c=>
  show SW b (if(decide (L=0)&& !(gf b [k]).isEmpty)=US then({s2 with wt:=lD ([k],0,S)},p.2)else ia (s2,p.2) k (.VI c)).1;split
  .rename_i q
   show#[#[j.ac,j.oc],λ_ _ _ e=>?_];ext e;show#[#[by simp,B,C,E,aa4 _,λQ I e=>(by ext e),λ_ x l=>?_],by ext];let A:=(Vh _ _▸q:_/\_).2;cases qo:gf b [k]with
   |nil=>rw[qo]at A;ext A
   |cons c r=>
    let M:c∈gf b [k]:=by rw[qo];show U5
    let(P,O):=Xj.mp M;show(Y.vc c P).2.2.1 x (a5 (Wr.mp O x l))
  .show cm _ d
 |X7 n=>show cm _ d
 |none=>show cm _ trivial
 |once n=>let h:=cm .none trivial;show#[#[h.sa.ac,λo e=>by ext e;show d],λX g w e=>by let e:s2.wt=lD (X,g,w):=e;rw[f]at e;ext e]
theorem SW.wd(h:SW b s):WD b s:=λX g w e=>(h.wt X g w e).1
omit Y in
theorem CF(d:bg (Nat×Mn)):∀{p:Yg×Sn},p.1.ac k=UO->k∉d.map (·.1)->(lf p d).1.ac k=UO:=by
 induction d with
 |nil=>exact λh _=>h
 |cons q r e=>intro p h hn;rw[Vf,Vm,not_or]at hn;exact e (p:=ia p q.1 q.2) ((ip hn.1).trans h) hn.2
omit Y in
theorem B4(ha:p.1.ac k=UO)(hn:FP p.1.wt k=U0):(d7 b p).1.ac k=UO:=by
 unfold d7;split
 .exact ha
 .rename_i X g w q;refine CF _ (p:=({p.1 with wt:=UO},p.2)) ha λz=>?_;rw[q]at hn;obtain⟨x,d,rfl⟩:=Vs.mp z;exact of_decide_eq_false hn (Y9 d).1
def Kq(sw:SW b p.1)(e:(k:Int)<b.n):SW b (oY b p k).1:=by
 ext oY;split
 .show sw
 .rename_i q
  rw[Zc,not_or]at q;let o:p.1.ac k=S:=by
   cases z:p.1.ac k with
   |none=>rfl
   |some x=>rw[z]at q;show a6 W q.1
  let n:FP p.1.wt k=U0:=by
   cases z:FP p.1.wt k with
   |false=>rfl
   |true=>show a6 z q.2
  split
  .rename_i f;let(X,g,l,m,j,h):=CL Y sw e o n f;show Nx Y sw l j h
  .let d:=j4 Y sw.sa (SW.wd Y sw);show QE Y d.1.sa d.2.1 e (B4 o n)
def JT(c:HS b p Z)(sw:SW b p.1)(y:(k:Int)<b.n)(O:p.2.length<800):∃n,iG [.rf 0,.fz (nd k)] Z=.ok (.fz .none) n/\HS b (oY b p k) n:=by
 let P:=Y.n5;let v:k<5:=by ext
 let M:wo (bt (zV U0 (aa (ae 1)) (bH "Hand" "acts" (aA 0)))) (bt (bu "Hand" "is_waiting" cz 2 (aA 0) (aq (aa (ae 1)) aX))) [lD (.rf 0),-(nd k)] Z=.ok ((p.1.ac k).isSome||FP p.1.wt k) Z:=by
  let G:=cA (ρ:=[lD (.rf 0),-(nd k)]) (i:=0) (m:= "is_waiting") (fa:=aq (aa (ae 1)) aX) c (by left) W (aw (ah (ag W)) aV) W (GF c);let(U,J,u,rfl):=c
  let o:zV U0 (aa (ae 1)) (bH "Hand" "acts" (aA 0)) [lD (.rf 0),-(nd k)] (dW b p.1 p.2 U J)=.ok (.fz (.bool (p.1.ac k).isSome)) (dW b p.1 p.2 U J):=
   (Cf (ah (ag W)) (iO W) W W).trans (by rw[show kL (U.map lx) (.inl (k:Int))=_ from oP u v];cases p.1.ac k<;>rfl)
  cases q:(p.1.ac k).isSome with
  |true=>rw[q]at o;rw[YB];show vG (aW o)
  |false=>rw[q]at o;rw[ZW];show eW (aW o) (aW G)
 show jF W (zC M (λq=>?_) λq=>oU ?_)
 .ext oY;rw[av q];show yK #[W,c]
 rw[aeg]at q;let ha:p.1.ac k=UO:=by
  cases z:p.1.ac k with
  |none=>rfl
  |some x=>rw[z]at q;show a6 q.1 (by simp)
 let I:oY b p k=if JC b p.1 k=US then yS b p k else KC b (d7 b p) k:=by ext oY;rw[ax (by rw[q.1,q.2];simp)]
 rw[I];let(N,F,e):=QV Y c sw y q.2;show zC (aW (cA c (by left) W (aw (ah (ag W)) aV) W F)) (λl=>?_) λl=>oU ?_
 .rw[av l];let(X,g,h,R,L,Q):=CL Y sw y ha q.2 l;let(j,A,f):=LH Y e sw h L (sw.wt _ _ _ h).1 ();show Pf (mH (cA e (by left) W (aw (ah (ag W)) aV) W A) (yK #[W,f]))
 .rw[ax (by rw[l];simp)]
  let d:=j4 Y sw.sa (SW.wd Y sw);let C:∀j,HS b (d7 b p) j->Zq (b6 (bu "Hand" "begin" gC 2 (aA 0) (aq (aa (ae 1)) aX)) [lD (.rf 0),-(nd k)] j) (λ_ n=>SV.fz .none=.fz .none/\HS b (KC b (d7 b p) k) n) (λ_ _=>False) (λr n=>r=.fz .none/\HS b (KC b (d7 b p) k) n):=λj f=>by let(S,H,t):=Pd Y f d.1.sa d.2.1 y (by let:=d.2.2.1;ext);show jw (cA f (by left) W (aw (ah (ag W)) aV) W H) #[W,t]
  cases qw:p.1.wt with
  |none=>
   let K:d7 b p=p:=by ext d7;rw[qw]
   let h:pE (kT p.1.wt) .none=-(.bool U0):=by rw[qw];rfl
   let B:=C N (by rw[K];show e);let(U,J,u,rfl):=e;show vf (aW (b4 (ce W) (ah aG) (bL h))) (oU B)
  |some x=>
   let(X,g,w):=x;let h:pE (kT p.1.wt) .none=-(.bool US):=by rw[qw];rfl
   let(j,A,f):=mM Y e sw.sa qw (sw.wt _ _ _ qw).1 ();let E:=cA (ρ:=[lD (.rf 0),-(nd k)]) (i:=0) (m:= "decide") e (by left) W aV W A;let(U,J,u,rfl):=e;show yF (aW (b4 (ce W) (ah aG) (bL h))) (mH E (C j f))
def rm(sw:SW b p.1)(e:FP p.1.wt k=P):SW b (eF b p k).1/\(eF b p k).2.length<=p.2.length+5:=by
 ext eF;split
 .let d:=j4 Y sw.sa (SW.wd Y sw);show#[d.1,d.2.2.1]
 .rename_i X g c n q;let v:=(sw.wt _ _ _ q).1;rw[q]at e;let f:=v.kn k (a5 e);let h:=(v.tp c n W).1;show#[EL (SA.cm #[sw.sa.ac,sw.sa.oc] f h) W,?_];let:=vD (p:=({p.1 with wt:=S},p.2)) (k:=k) (a:=.VI c);let:(ia ({p.1 with wt:=S},p.2) k (.VI c)).2.length<=p.2.length+1:=this;ext
 .show#[sw,aam _ _]
def jS(D:HS b p Z)(sw:SW b p.1)(f:FP p.1.wt k=P)(F:p.2.length<800):∃L,gU [.rf 0,.fz (nd k)] Z=.ok (.fz .none) L/\HS b (eF b p k) L:=by
 let H:=Y.n5;cases q:p.1.wt with
 |none=>rw[q]at f;ext f
 |some x=>
  let(X,g,w):=x;let v:=(sw.wt _ _ _ q).1;let j:k∈X:=by rw[q]at f;show a5 f
  let u:bE (kT p.1.wt) (.int 2)=-(vM w):=by rw[q];show u9
  let B:=(BJ λc n h=>(v.tp c n h).1).1;let r:∀{Z:bh},cr (a8 (aY cY (ae 2) (pC (.tuple [.str "chord"])))) [R (.rf 0),-(nd k),-(vM w)] Z=.ok w.isNone Z:=cx (bX (aN (ag W) aG W W B) W);cases w with
  |none=>
   let o:eF b p k=d7 b p:=by ext eF;rw[q]
   rw[o];let(E,l,d):=mM Y D sw.sa q v ();let y:=cA (ρ:=[R (.rf 0),-(nd k),-(vM S)]) (i:=0) (m:= "decide") D (by left) W aV W l;let(U,J,t,rfl):=D;show jF W (kK (df (ce W) (ah aG) u) W (uy r (jw y #[W,d])))
  |some C=>
   let(c,n):=C;let o:eF b p k=ia ({p.1 with wt:=S},p.2) k (.VI c):=by ext eF;rw[q]
   rw[o];let A:=(v.tp c n W).1;let G:=v.kn k j;let(U,J,t,rfl):=D;let e:HS b ({p.1 with wt:=S},p.2) (dW b {p.1 with wt:=S} p.2 U J):=#[U,J,t,W];let(E,l,d):=tf (k:=k) (a:=.VI c) e (SA.ak Y #[sw.sa.ac,sw.sa.oc]) A () (show p.2.length<1000 by ext);let z:bE (vM (R (c,n))) (.int 1)=-(.str (kh c)):=jo;show jF W (kK (df (ce W) (ah aG) u) W (eZ r (E1 (mB S W (ah aG)) (jw (cA e (by left) W (aw (ah (ag W)) (aw (ah (c9 (aj aG (aj (aN (ag W) aG W W z) aM)) W (UW W))) aV)) W l) #[W,d]))))
omit Y in
theorem NW(sw:SW b p.1):SW b (go p k).1:=by
 refine⟨sw.sa.gg,?_⟩;unfold go;split
 .intro X g w e;obtain⟨v,f⟩:=sw.wt X g w e;exact⟨⟨v.ne,v.nd,v.kn,λx d=>by
   by_cases z:x=k
   .rw[z];exact fL
   .exact(ip z).trans (v.kf x d),v.g0,v.tp,v.ch⟩,f⟩
 .exact sw.wt
def Lp(sw:SW b p.1):SW b (zw b p k).1:=by
 ext zw;split
 .rename_i q;show NW (rm Y sw q).1
 .show NW sw
def Lo(c:HS b p Z)(sw:SW b p.1)(y:(k:Int)<b.n)(o:p.2.length<700):∃n,jx [.rf 0,.fz (nd k)] Z=.ok (.fz .none) n/\HS b (zw b p k) n:=by
 let A:=Y.n5;let e:k<5:=by ext
 let d:∀{p:Yg×Sn} {Z:bh},HS b p Z->SW b p.1->p.2.length<800->Zq (cH (bt (zV U0 (aa (ae 1)) (bH "Hand" "acts" (aA 0)))) (b6 (bu "Hand" "go" ka 2 (aA 0) (aq (aa (ae 1)) aX))) cL [R (.rf 0),-(nd k)] Z) (λ_ n=>SV.fz .none=.fz .none/\HS b (go p k) n) (λ_ _=>False) (λr n=>r=.fz .none/\HS b (go p k) n):=λ{p Z} c sw o=>by
  cases L:p.1.ac k with
  |none=>
   let v:go p k=p:=by ext go;rw[L]
   rw[v];let(U,J,f,rfl):=c;show eZ (aW ((Cf (ah (ag W)) (iO W) W W).trans (by rw[show kL (U.map lx) (.inl (k:Int))=_ from oP f e,L];rfl))) (mF #[W,U,J,f,W])
  |some a=>let(B,t,h):=Sf c (sw.sa.ak Y) L ();let l:=cA (ρ:=[R (.rf 0),-(nd k)]) (i:=0) (m:= "go") (fa:=aq (aa (ae 1)) aX) c (by left) W (aw (ah (ag W)) aV) W t;let(U,J,f,rfl):=c;show uy (aW ((Cf (ah (ag W)) (iO W) W W).trans (by rw[show kL (U.map lx) (.inl (k:Int))=_ from oP f e,L];rfl))) (jw l #[W,h])
 show jF W (zC (aW (cA c (by left) W (aw (ah (ag W)) aV) W (GF c))) (λq=>?_) λq=>?_)
 .ext zw;rw[av q];let(C,u,j):=jS Y c sw q ();let z:=rm Y sw q;show mH (cA c (by left) W (aw (ah (ag W)) aV) W u) (d j z.1 ())
 .ext zw;rw[ax (by rw[q];simp)];show oU (d c sw ())
def MX(sw:SW b p.1):SW b (ny b p).1:=by
 ext ny;split
 .show sw
 .rename_i X g w q
  let(v,f):=sw.wt X g w q;let d:WV b p.1.ac X (g+1) w:=#[v.ne,v.nd,v.kn,v.kf,by let:=v.g0;ext,v.tp,v.ch];split
  .show(j4 Y (p:=({p.1 with wt:=R (X,g+1,w)},p.2)) #[sw.sa.ac,sw.sa.oc] λ_ _ _ e=>by ext e;show d).1
  .rename_i h;show#[#[sw.sa.ac,sw.sa.oc],λ_ _ _ e=>by ext e;show#[d,by ext]]
def MW(y:HS b p Z)(sw:SW b p.1)(t:p.2.length<800):∃c,gA [.rf 0] Z=.ok (.fz .none) c/\HS b (ny b p) c:=by
 let(U,J,j,rfl):=y;cases q:p.1.wt with
 |none=>
  let f:ny b p=p:=by ext ny;rw[q]
  rw[f];let h:yg (kT p.1.wt) .none=-(.bool P):=by rw[q];rfl
  show jF W (yF (aW (b4 (ce W) (ah aG) (bL h))) (yK #[W,U,J,j,W]))
 |some x=>
  let(X,g,w):=x;let v:=(sw.wt _ _ _ q).1;let l:WV b p.1.ac X (g+1) w:=#[v.ne,v.nd,v.kn,v.kf,by let:=v.g0;ext,v.tp,v.ch];let f:ny b p=if g+1=b.wt then d7 b ({p.1 with wt:=R (X,g+1,w)},p.2)else({p.1 with wt:=R (X,g+1,w)},p.2):=by ext ny;rw[q]
  rw[f];let h:yg (kT p.1.wt) .none=-(.bool U0):=by rw[q];rfl
  let e0:bE (kT p.1.wt) (.int 0)=-(.tuple (cb X)):=by rw[q];show io
  let r:bE (kT p.1.wt) (.int 2)=-(vM w):=by rw[q];show u9
  let o:bE (kT p.1.wt) (.int 1)=-(.int g):=by rw[q];show jo
  let n:bE (bD b) (.int 3)=-(.int b.wt):=HD W;let d:HS b ({p.1 with wt:=R (X,g+1,w)},p.2) (dW b {p.1 with wt:=R (X,g+1,w)} p.2 U J):=#[U,J,j,W];show jF W (vf (aW (b4 (ce W) (ah aG) (bL h))) (oU (kK (b4 (df (ce W) (ah aG) o) (ah aG) (bL (gw _ _))) W (E1 (mB (R (X,g+1,w)) W (uq (aw (df (ce W) (ah aG) e0) (aw (ah (ag W)) (aw (df (ce W) (ah aG) r) aV))) (UW W))) (AZ (aW (b4 (ah (ag W)) (df (rj W) (ah aG) n) (bL (iL _ _)))) (λz=>?_) λz=>?_)))))
  .rw[av (a5 z)];let(u,m,e):=mM Y d #[sw.sa.ac,sw.sa.oc] W l (show p.2.length<900 by ext);show jw (cA d (by left) W aV W m) #[W,e]
  .rw[ax (of_decide_eq_false z)];show mF #[W,d]
def YD.afp:YD->Bool
 |.turn=>P
 |_=>U0
def YD.isDown:YD->Bool
 |.down _=>P
 |_=>U0
def EV(b:Bd):YD->Prop
 |.down k=>(k:Int)<b.n
 |.up k=>(k:Int)<b.n
 |.turn=>True
def sM(sw:SW b s)(d:EV b e):SW b (bp b s e).1:=by
 cases e with
 |down k=>show Kq Y sw d
 |up k=>show Lp Y sw
 |turn=>show MX Y sw
omit Y in
theorem ww:∀l:bg (Nat×Mn),aJ tK (l.map pD)=lD (l.map lx)
 |[]=>rfl
 |q::r=>by rw[Vf];unfold aJ;rw[ww r];rfl
omit Y in
theorem zx:∀(l d:bg (Nat×Mn)),((d++l).map (·.1)).Nodup->oa (d.map lx) (l.map lx)=(d++l).map lx
 |[],d,_=>by rw[Vz];rfl
 |q::r,d,h=>by
  have hn:∀x∈d,x.1≠q.1:=λx f e=>by rw[Vu,X6]at h;exact h.2.2 _ (Vs.mpr ⟨x,f,rfl⟩) q.1 U5 e
  have o:k7 (d.map lx) (lx q).1 (lx q).2=(d++[q]).map lx:=by
   unfold k7;rw[ax ?_,Vu]
   .rfl
   .intro z;obtain⟨t,n,m⟩:=Ye.mp z;obtain⟨x,j,rfl⟩:=Vs.mp n;have:=Sum.inl.inj (a5 m);exact hn x j (by ext)
  show oa (k7 (d.map lx) (lx q).1 (lx q).2) (r.map lx)=_;rw[o,zx r (d++[q]) (by rw[Vw];exact h),Vw];rfl
omit Y in
theorem Nu:eG [.rf 0,.fz (bD b),.fz (eJ s)] [.obj "Hand" []]=.ok (.fz .none) (dW b s [] (iS s.ac) []):=by
 have e0:bE (eJ s) (.int 0)=-(.tuple ((iS s.ac).map pD)):=io;have y:bE (eJ s) (.int 1)=-(kT s.wt):=jo;have v:bE (eJ s) (.int 2)=-(vI s.oc):=u9;have z:fM "bed" (.fz (bD b)) []=([("bed",.fz (bD b))]:bg (Str×SV)):=rfl;have q:fM "acts" (.rf 1) ([("bed",.fz (bD b))]:bg (Str×SV))=([("bed",.fz (bD b)),("acts",.rf 1)]:bg (Str×SV)):=by unfold fM;rw[ax (by left)];rfl
 have o:fM "waiting" (.fz (kT s.wt)) ([("bed",.fz (bD b)),("acts",.rf 1)]:bg (Str×SV))=([("bed",.fz (bD b)),("acts",.rf 1),("waiting",.fz (kT s.wt))]:bg (Str×SV)):=by unfold fM;rw[ax (by left)];unfold fM;rw[ax (by left)];rfl
 have n:fM "once" (.fz (vI s.oc)) ([("bed",.fz (bD b)),("acts",.rf 1),("waiting",.fz (kT s.wt))]:bg (Str×SV))=([("bed",.fz (bD b)),("acts",.rf 1),("waiting",.fz (kT s.wt)),("once",.fz (vI s.oc))]:bg (Str×SV)):=by unfold fM;rw[ax (by left)];unfold fM;rw[ax (by left)];unfold fM;rw[ax (by left)];rfl
 have m:fM "sent" (.rf 2) ([("bed",.fz (bD b)),("acts",.rf 1),("waiting",.fz (kT s.wt)),("once",.fz (vI s.oc))]:bg (Str×SV))=wZ b s:=by unfold fM;rw[ax (by left)];unfold fM;rw[ax (by left)];unfold fM;rw[ax (by left)];unfold fM;rw[ax (by left)];rfl
 have r:oa [] ((iS s.ac).map lx)=(iS s.ac).map lx:=zx (iS s.ac) [] (uR s.ac);have e:∀{x:SV} {T:bC} {fs:bg (Str×SV)} {Z:bh} {j:cZ} {f:Str} {c:Cell} {l:bh},T[0]?=lD (lD (.rf 0))->j T Z=.ok x (.obj "Hand" fs::l)->fs.length<100->gj "Hand" f (aA 0) j T Z=.ok (.nx T) (.obj "Hand" (fM f x fs)::l):=λh u t=>(qN u (bf h) rfl t).trans rfl
 have ha:zy (aa (aY bE (ae 2) (~~~0))) [lD (.rf 0),-(bD b),-(eJ s)] [.obj "Hand" ([("bed",.fz (bD b))]:bg (Str×SV))]=.ok (.rf 1) [.obj "Hand" ([("bed",.fz (bD b))]:bg (Str×SV)),.dct ((iS s.ac).map lx)]:=
  (LW (ah (d:=.tuple ((iS s.ac).map pD)) (aN (rv:=.fz (.tuple ((iS s.ac).map pD))) (ag rfl) aG rfl rfl e0)) (ww _)).trans (by rw[r];rfl)
 refine pS (ρ:=[lD (.rf 0),-(bD b),-(eJ s)]) (ρ1:=[lD (.rf 0),-(bD b),-(eJ s)]) rfl (dk (e rfl (c:=.dead) (ah (d:=bD b) (ag rfl)) (UW rfl)) (dk (e rfl (c:=.dead) ha (UW rfl)) (dk (e rfl (c:=.dead) (ah (d:=kT s.wt) (aN (rv:=.fz (kT s.wt)) (ag rfl) aG rfl rfl y)) (UW rfl)) (dk (e rfl (c:=.dead) (ah (d:=vI s.oc) (aN (rv:=.fz (vI s.oc)) (ag rfl) aG rfl rfl v)) (UW rfl)) ?_))));rw[q,o,n];refine(e (fs:=([("bed",.fz (bD b)),("acts",.rf 1),("waiting",.fz (kT s.wt)),("once",.fz (vI s.oc))]:bg (Str×SV))) rfl (c:=.dead) (eS (ds:=[]) (ro aM rfl (VF _))) (UW rfl)).trans ?_;show RS.ok _ (Cell.obj "Hand" (fM "sent" (.rf 2) ([("bed",.fz (bD b)),("acts",.rf 1),("waiting",.fz (kT s.wt)),("once",.fz (vI s.oc))]:bg (Str×SV)))::_)=_;rw[m];rfl
omit Y in
theorem MU(e:YD):∃x:Str,bE (c8 e) (.int 0)=-(.str x)/\cY (.str x) (.str "turn")=-(.bool (e.afp))/\cY (.str x) (.str "down")=-(.bool (e.isDown)):=by
 have f:UU.strOk "down"=US:=by left
 have h:UU.strOk "up"=US:=by left
 have d:UU.strOk "turn"=US:=by left
 cases e with
 |down k=>exact⟨"down",io,Ds f d (by left),NM f⟩
 |up k=>exact⟨"up",io,Ds h d (by left),Ds h f (by left)⟩
 |turn=>exact⟨"turn",io,NM d,Ds d f (by left)⟩
def CV(sw:SW b s)(u:EV b e):∃c,dQ [.fz (bD b),.fz (eJ s),.fz (c8 e)] []=.ok (.tp [.rf 2,.fz (eJ (bp b s e).1)]) c/\sh c (.rf 2)=R (.list ((bp b s e).2.map ja)):=by
 let f:HS b (s,[]) (dW b s [] (iS s.ac) []):=#[iS s.ac,[],.refl _,W];let(x,q,y,v):=MU e;let l:∀{Z:bh},cr (a8 (aY cY (aY bE (ae 2) (~~~0)) (pC (.str "turn")))) [-(bD b),-(eJ s),-(c8 e),R (.rf 0)] Z=.ok (e.afp) Z:=cx (bX (aN (aN (ag W) aG W W q) aG W W y) W);let t:∀{Z:bh},cr (a8 (aY cY (aY bE (ae 2) (~~~0)) (pC (.str "down")))) [-(bD b),-(eJ s),-(c8 e),R (.rf 0)] Z=.ok (e.isDown) Z:=cx (bX (aN (aN (ag W) aG W W q) aG W W v) W);let j:∀{Z:bh},HS b (bp b s e) Z->Zq (fR (kg (aq (bH "Hand" "sent" (aA 3)) (aq (bu "Hand" "stands" bU 1 (aA 3) aX) aX))) [-(bD b),-(eJ s),-(c8 e),R (.rf 0)] Z) (λ_ c=>SV.fz .none=.tp [.rf 2,.fz (eJ (bp b s e).1)]/\sh c (.rf 2)=R (.list ((bp b s e).2.map ja))) (λ_ _=>False) (λr c=>r=.tp [.rf 2,.fz (eJ (bp b s e).1)]/\sh c (.rf 2)=R (.list ((bp b s e).2.map ja))):=λ{Z} L=>by let(o,h,d):=rB L;let m:=cA (ρ:=[-(bD b),-(eJ s),-(c8 e),R (.rf 0)]) (i:=3) (m:= "stands") L (by left) W aV W h;let(U,J,C,rfl):=L;let(A,E,B,rfl):=d;show PZ (zD (aw (xL W) (aw m aV)) (UW W) W W) #[W,cJ W]
 let z:wz "Hand" eG 3 (aq (aa (ae 0)) (aq (aa (ae 1)) aX)) [-(bD b),-(eJ s),-(c8 e),S] []=.ok (.rf 0) (dW b s [] (iS s.ac) []):=Q8 (aw (ah (ag W)) (aw (ah (ag W)) aV)) W Nu;show jF W (kK z W ?_);cases e with
 |turn=>let(o,h,d):=MW Y f sw (show 0<800 by decide);show yF l (mH (cA f (by left) W aV W h) (j d))
 |down k=>let(o,h,d):=JT Y f sw u (show 0<800 by decide);let n:bE (c8 (.down k)) (.int 1)=-(nd k):=jo;show vf l (yF t (mH (cA f (by left) W (aw (ah (aN (ag W) aG W W n)) aV) W h) (j d)))
 |up k=>let(o,h,d):=Lo Y f sw u (show 0<700 by decide);let n:bE (c8 (.up k)) (.int 1)=-(nd k):=jo;show vf l (vf t (mH (cA f (by left) W (aw (ah (aN (ag W) aG W W n)) aV) W h) (j d)))
def Oe{e:YD}(sw:SW b s)(d:EV b e):SC dQ [bD b,eJ s,c8 e]=.ok (.fz (.tuple [.list ((bp b s e).2.map ja),eJ (bp b s e).1])):=by let(j,h,f):=CV Y sw d;ext SC;rw[show[bD b,eJ s,c8 e].map SV.fz=[.fz (bD b),.fz (eJ s),.fz (c8 e)]from rfl,h];dsimp only;ext aJ;rw[show Tf j (.rf 2)=R (.list ((bp b s e).2.map ja))from f];rfl
def Es{e:YD}(sw:SW b s)(h:EV b e):wQ dQ 3 [.fz (bD b),.fz (eJ s),.fz (c8 e)] Z=.ok (.tp [.rf Z.length,.fz (eJ (bp b s e).1)]) (Z++[.lst (((bp b s e).2.map ja).map .fz)]):=by
 let(d,l,j):=CV Y sw h;ext wQ;rw[av (show([.fz (bD b),.fz (eJ s),.fz (c8 e)]:G SV).length=3 from rfl),show aJ xy [.fz (bD b),.fz (eJ s),.fz (c8 e)]=R [bD b,eJ s,c8 e]from rfl];dsimp only;rw[show[bD b,eJ s,c8 e].map SV.fz=[.fz (bD b),.fz (eJ s),.fz (c8 e)]from rfl,l];show(match Gn d Z.length [.rf 2,.fz (eJ (bp b s e).1)]with
  |some (m,cs,n)=>if n.Nodup then RS.ok (SV.tp m) (Z++cs.map Ts)else .bad
  |none=>.bad)=_
 let f:Gn d Z.length [.rf 2,.fz (eJ (bp b s e).1)]=R ([.rf Z.length,.fz (eJ (bp b s e).1)],[(bp b s e).2.map ja],[2]):=by ext Gn;rw[j];rfl
 rw[f];dsimp only;rw[av ()];rfl
end
def fW:Yg:=#[λ_=>S,S,S]
theorem iM(b:Bd):SW b fW:=#[#[λk a e=>(by ext e),λo e=>(by ext e)],λd g w e=>(by ext e)]
theorem mE{α:Type}{f:α->D}:∀{l:G α},(∀a∈l,UU.canLay0 (f a)=P)->UU.canLayAll0 (l.map f)=P
 |[],_=>rfl
 |a::r,h=>by show(UU.canLay0 (f a)&&UU.canLayAll0 (r.map f))=P;rw[h a U5,mE λx b=>h x (U6 _ b)];rfl
theorem jv{α:Type}{f:α->D}{n:Nat}:∀{l:G α},(∀a∈l,UU.depth (f a)<=n)->UU.depthAll (l.map f)<=n
 |[],_=>VF _
 |a::r,h=>akt.mpr #[h a U5,jv λx b=>h x (U6 _ b)]
def uC{d:D}(a:UU.canLay0 d=P)(b:UU.depth d<=64):lj d=P:=by ext lj;rw[a,aP b];rfl
def lW{d:D}(h:lj d=P):UU.canLay0 d=P:=by unfold lj at h;show(Vh _ _▸h:_/\_).1
def tD{d:D}(h:lj d=P):nj d d=-(.bool U0):=by ext nj;rw[h,lW h,WC,av W,XQ d (lW h)];rfl
def tE{d:D}(h:lj d=P):cY d d=-(.bool P):=by ext cY;rw[h,lW h,WC,av W,XQ d (lW h)]
def YK(sn:Sn):Prop:=∀q∈sn,q.1<26
def LY{q:Nat×Bool}(h:q.1<26):UU.canLay0 (ja q)=P:=by show(UU.strOk (kh q.1)&&(UU.strOk (if q.2=P then "down" else "up")&&P))=P;rw[og h];cases q.2<;>left
theorem DH(q:Nat×Bool):UU.depth (ja q)<=1:=UW W
def xQ{sn:Sn}(h:YK sn):lj (.list (sn.map ja))=P:=by show uC (mE λq a=>LY (h q a)) ?_;show UU.depthAll (sn.map ja)+1<=64;let:=jv (f:=ja) (l:=sn) λq _=>DH q;ext
section
variable{b:Bd}(Z:VB b){s:Yg}{p:Yg×Sn}{k:Nat}{a:Mn}
theorem YK.app{x y:Sn}(e:YK x)(d:YK y):YK (x++y):=λq f=>(VH.mp f).elim (e q) (d q)
def mS(h:YK p.2)(e:LB a):YK (ia p k a).2:=by
 show h.app λq d=>?_;cases a with
 |VI c=>
  let d:q∈(if pY p.1.ac (.VI c)=P then[]else[(c,P)]:Sn):=d;split at d
  .ext d
  .rw[U9.mp d];show e
 |_=>ext d
def IC(d:G (Nat×Mn)):∀{p:Yg×Sn},YK p.2->(∀q∈d,LB q.2)->YK (lf p d).2:=by
 induction d with
 |nil=>show λh _=>h
 |cons q r f=>show λh e=>f (mS h (e q U5)) λx g=>e x (U6 _ g)
def Ot(h:YK p.2)(e:SA b p.1):YK (go p k).2:=by
 ext go;split
 .rename_i a q
  let lb:=(e.ac k a q).2.lb;show h.app λx d=>?_;cases a with
  |VI c=>
   let d:x∈(if pY (nK p.1.ac k S) (.VI c)=P then[]else[(c,U0)]:Sn):=d;split at d
   .ext d
   .rw[U9.mp d];show lb
  |_=>ext d
 .show h
include Z
def qh(h:YK p.2)(f:WD b p.1):YK (d7 b p).2:=by
 ext d7;split
 .show h
 .rename_i d g w q;show IC _ (p:=({p.1 with wt:=S},p.2)) h λx e=>(yq Z (f d g w q) x e).2.lb
def Qp(h:YK p.2)(f:SA b p.1)(g:(k:Int)<b.n):YK (KC b p k).2:=by
 let(l,j):=BC Z f;let(d,e):=xB Z (k:=k) l j g;let i:KC b p k=zh b (sE p.1.ac p.1.oc) (ic p.1 (look b (sE p.1.ac p.1.oc) k),p.2) k (look b (sE p.1.ac p.1.oc) k):=W;rw[i];generalize look b (sE p.1.ac p.1.oc) k=m at d e;generalize sE p.1.ac p.1.oc=L at d;let lb:=d.lb;cases m with
 |tap c n=>show h
 |VI c=>
  show YK (if(decide (L=0)&& !(gf b [k]).isEmpty)=P then({ic p.1 (.VI c)with wt:=R ([k],0,S)},p.2)else ia (ic p.1 (.VI c),p.2) k (.VI c)).2;split
  .show h
  .show mS (p:=(ic p.1 (.VI c),p.2)) h lb
 |X7 n=>show mS (p:=(ic p.1 (.X7 n),p.2)) h lb
 |once n=>show mS (p:=(ic p.1 (.once n),p.2)) (k:=k) (a:=.none) h trivial
 |none=>show mS (p:=(ic p.1 .none,p.2)) h lb
 |below=>show a6 W e
def pI{e:YD}(sw:SW b s)(j:EV b e):YK (bp b s e).2:=by
 let f:YK []:=λq m=>by ext m
 cases e with
 |turn=>
  show YK (ny b (s,[])).2;ext ny;split
  .show f
  .rename_i h g w q
   let v:=(sw.wt h g w q).1;split
   .show qh Z (p:=({s with wt:=R (h,g+1,w)},[])) f λ_ _ _ e=>by ext e;show#[v.ne,v.nd,v.kn,v.kf,by let:=v.g0;ext,v.tp,v.ch]
   .show f
 |up k=>
  show YK (zw b (s,[]) k).2;ext zw;split
  .rename_i q
   let z:=rm Z (p:=(s,[])) sw q;show Ot ?_ z.1.sa;ext eF;split
   .show qh Z (p:=(s,[])) f (SW.wd Z sw)
   .rename_i c n e;let o:c<26:=((sw.wt _ _ _ e).1.tp c n W).1;show mS (p:=({s with wt:=S},[])) f o
   .show f
  .show Ot (p:=(s,[])) f sw.sa
 |down k=>
  show YK (oY b (s,[]) k).2;ext oY;split
  .show f
  .rename_i q
   rw[Zc,not_or]at q;let A:s.ac k=S:=by
    cases z:s.ac k with
    |none=>rfl
    |some x=>show a6 (show(s.ac k).isSome=P by rw[z];rfl) q.1
   let y:FP s.wt k=U0:=by
    cases z:FP s.wt k with
    |false=>rfl
    |true=>show a6 z q.2
   split
   .rename_i l
    let(h,g,i,u,r,t):=CL Z (p:=(s,[])) sw j A y l;let i:s.wt=R (h,g,S):=i;ext yS;dsimp only;rw[i];dsimp only;split
    .show qh Z (p:=({s with wt:=R (h++[k],g,S)},[])) f λ_ _ _ e=>by ext e;show r
    .show f
   .let d:=j4 Z (p:=(s,[])) sw.sa (SW.wd Z sw);show Qp Z (qh Z (p:=(s,[])) f (SW.wd Z sw)) d.1.sa j
end
def c7(b:Bd):Yg->G YD->Yg×G Sn
 |s,[]=>(s,[])
 |s,e::r=>((c7 b (bp b s e).1 r).1,(bp b s e).2::(c7 b (bp b s e).1 r).2)
theorem pW(b:Bd):∀(xs a:G YD) (s:Yg),c7 b s (xs++a)=((c7 b (c7 b s xs).1 a).1,(c7 b s xs).2++(c7 b (c7 b s xs).1 a).2)
 |[],_,_=>rfl
 |e::r,a,s=>by show((c7 b (bp b s e).1 (r++a)).1,_::(c7 b (bp b s e).1 (r++a)).2)=_;rw[pW b r a];rfl
theorem qp(b:Bd):∀(xs:G YD) (s:Yg),(c7 b s xs).2.length=xs.length
 |[],_=>rfl
 |e::r,s=>by show(_::(c7 b (bp b s e).1 r).2).length=_;rw[Vd,qp b r,Vd]
theorem C6(b:Bd):∀(xs:G YD) (s:Yg) (i:Nat) (e:YD),xs[i]?=R e->(c7 b s (xs.take (i+1))).1=(bp b (c7 b s (xs.take i)).1 e).1/\(c7 b s xs).2[i]?=R (bp b (c7 b s (xs.take i)).1 e).2
 |[],_,_,_,h=>by ext h
 |x::r,s,0,e,h=>by ext h;show#[W,W]
 |x::r,s,i+1,e,h=>by let:=C6 b r (bp b s x).1 i e h;show this
theorem DZ{b:Bd}(a:VB b):∀(xs:G YD) {s:Yg},SW b s->(∀e∈xs,EV b e)->SW b (c7 b s xs).1
 |[],_,h,_=>h
 |e::r,s,h,he=>DZ a r (sM a h (he e U5)) λx d=>he x (U6 _ d)
def R0(b:G Sn):G D:=b.map λa=>.list (a.map ja)
end STP
namespace K51
open PySem L2 L3 STP
def rQ:FS:=(bN (lz (a8 (aY Qz (ae 1) (jW dB {ae 0}))) (dH (aY bE (ae 0) (ae 1))) d5)
 (dH (~~~0)))
def bQ:FN:=gG 2 rQ
def g8:FS:=(bN (lz (Qk (a8 (aY Qz (ae 0) (~~~0))) (a8 (aY S4 (ae 0) (aY Mv (~~~10) (~~~18))))) (bN (rA (r8 lm {ae 1}) (gN 3) (gc (aY Gh (ae 0) (~~~1000)) (gN 0)))
 (dH (aY qC (ae 0) (ae 2)))) d5)
 (bN (gc (aY jf (aY dM (aY dM (aY qC (ae 0) (~~~1000033)) (aY jf (~~~77) (ae 1))) (~~~5)) (aY dM (aY jf (ae 1) (ae 1)) (~~~40009))) (gN 4))
 (dH (aY qC (aY Gh (aY qC (aY dM (aY jf (aY qC (ae 4) (~~~998857)) (~~~30011)) (ae 1)) (~~~999983)) (~~~3)) (ae 2)))))
def aR:FN:=gG 5 g8
def nJ:FS:=(dH (aY d6 (pC (.str "abz")) (db aR 3 {ae 0,ae 1,~~~3})))
def dJ:FN:=gG 2 nJ
def eY:FS:=(bN (gc (db aR 3 {ae 0,~~~11,~~~12}) (gN 3))
 (bN (lz (a8 (aY cY (ae 2) (~~~1))) (gc (aY bE (dh {~~~1,~~~1,~~~1,~~~8}) (db aR 3 {ae 0,~~~12,~~~4})) (gN 3)) d5)
 (bN (gc (aY dM (~~~1) (db aR 3 {ae 0,~~~13,jW ED {~~~1,aY vR (ae 2) (~~~1)}})) (gN 4))
 (bN (lz (Qk (a8 (aY cY (ae 3) (~~~4))) (a8 (aY cY (ae 3) (~~~5)))) (dH (bZ {pC (.str "layer"),ae 4})) d5)
 (bN (lz (Qk (a8 (aY cY (ae 3) (~~~6))) (a8 (aY cY (ae 3) (~~~7)))) (dH (bZ {pC (.str "tap"),db dJ 2 {ae 0,~~~14},ae 4})) d5)
 (bN (lz (a8 (aY cY (ae 3) (~~~8))) (dH (bZ {pC (.str "none")})) d5)
 (bN (lz (a8 (aY cY (ae 3) (~~~9))) (dH (bZ {pC (.str "once"),ae 4})) d5)
 (bN (lz (xc (a8 (aY Lf (ae 3) (~~~9))) (a8 (aY Lf (ae 1) (~~~0)))) (dH (bZ {pC (.str "below")})) d5)
 (dH (bZ {pC (.str "letter"),db dJ 2 {ae 0,~~~15}}))))))))))
def eT:FN:=gG 5 eY
def gX:FS:=(bN (gc (dh aD) (gN 3))
 (bN (rA (r8 lm {aY QR (~~~1) (ae 1)}) (gN 4) (bN (gc (jW t7 {iC 1 [4] (r8 lm {ae 1}) (gN 0) (a8 (aY cY (aY CY (aY ND (ae 1) (ae 0)) (~~~1)) (~~~1))) (ae 0)}) (gN 5))
 (bN (gc (Hl (aY Lf (jW dB {ae 5}) (~~~1)) (jW vT {iC 1 [2] (lw (ae 5)) (gN 0) hV (aY cY (aY bE (aY bE (ae 1) (ae 0)) (~~~0)) (pC (.str "letter")))})) (gN 6))
 (lz (xc (a8 (ae 6)) (xc (a8 (aY Qz (jW dB {ae 3}) (~~~4))) (a8 (aY cY (db aR 3 {ae 0,aY dM (~~~20) (ae 4),~~~3}) (~~~0))))) (rL (Bf 3 (bZ {ae 5,aY d6 (pC (.str "abcz")) (db aR 3 {ae 0,aY dM (~~~40) (ae 4),~~~4})}))) d5))))
 (dH (jW t7 {ae 3}))))
def gR:FN:=gG 7 gX
def kJ:FS:=(bN (gc (db bQ 2 {ae 0,ae 1}) (gN 3))
 (bN (gc (aY bE (dh (af (~~~1) {~~~2,~~~2,~~~2,~~~3})) (db aR 3 {ae 3,~~~5,~~~5})) (gN 4))
 (bN (gc (dh aD) (gN 5))
 (bN (rA (r8 lm {ae 4}) (gN 6) (bN (gc (iC 1 [0,1,2,6] (r8 lm {ae 2}) (gN 0) hV (db bQ 2 {ae 1,aY dM (aY dM (aY dM (ae 2) (~~~1)) (aY jf (ae 3) (ae 4))) (ae 0)})) (gN 7))
 (rL (Bf 5 (jW t7 {iC 1 [6,4] (lw (ae 7)) (gN 0) hV (db eT 3 {ae 0,ae 1,ae 2})})))))
 (bN (gc (db gR 3 {db bQ 2 {ae 0,aY dM (ae 1) (~~~10)},ae 2,aY bE (ae 5) (~~~0)}) (gN 8))
 (dH (bZ {ae 2,jW t7 {ae 5},ae 8,aY dM (~~~1) (db aR 3 {ae 3,~~~6,aY bE (dh {~~~4,~~~4,~~~2}) (aY vR (ae 2) (~~~1))})})))))))
def fQ:FN:=gG 9 kJ
def rO:FS:=(dH (aY bE (dh {~~~1,~~~2,~~~2,~~~3}) (db aR 3 {db bQ 2 {ae 0,~~~0},~~~1,~~~4})))
def jC:FN:=gG 1 rO
def uU:FS:=(dH (aY z7 (aY z7 (Pm Rm (ae 0) wv (ve (ae 1))) (bZ {ae 2})) (Pm Rm (ae 0) (ve (aY z7 (ae 1) (~~~1))) wv)))
def eB:FN:=gG 3 uU
def fy:FS:=(bN (gc (ae 1) (gT 4 (KF (gN 2) (KF (gN 3) (KF (gN 4) (KF (gN 5) RT))))))
 (bN (gc (db bQ 2 {ae 0,~~~12}) (gN 6))
 (bN (gc (db aR 3 {ae 6,~~~70,~~~8}) (gN 7))
 (bN (gc (db aR 3 {ae 6,~~~71,jW dB {ae 3}}) (gN 8))
 (bN (gc (db aR 3 {ae 6,~~~72,ae 2}) (gN 9))
 (bN (gc (aY bE (aY bE (ae 3) (ae 8)) (ae 9)) (gN 10))
 (bN (lz (a8 (aY cY (ae 7) (~~~1))) (dH (bZ {ae 2,ae 3,FQ L9.Qi (ae 4),ae 5})) d5)
 (bN (lz (xc (a8 (aY cY (ae 7) (~~~2))) (a8 (aY cY (ae 10) (bZ {pC (.str "below")})))) (dH (bZ {ae 2,db eB 3 {ae 3,ae 8,db eB 3 {aY bE (ae 3) (ae 8),ae 9,aY bE (aY bE (ae 3) (~~~0)) (ae 9)}},ae 4,ae 5})) d5)
 (bN (lz (xc (a8 (aY cY (ae 7) (~~~3))) (a8 (aY cY (aY bE (ae 10) (~~~0)) (pC (.str "letter"))))) (bN (gc (bZ {pC (.str "letter"),aY d6 (pC (.str "abz")) (db aR 3 {ae 6,~~~73,~~~3})}) (gN 11))
 (dH (bZ {ae 2,db eB 3 {ae 3,ae 8,db eB 3 {aY bE (ae 3) (ae 8),ae 9,ae 11}},ae 4,ae 5}))) d5)
 (bN (lz (a8 (aY cY (ae 7) (~~~4))) (dH (bZ {ae 2,ae 3,ae 4,aY dM (~~~1) (aY qC (ae 5) (~~~2))})) d5)
 (bN (lz (a8 (aY cY (ae 7) (~~~5))) (dH (bZ {ae 2,ae 3,Pm TK (ae 4) (ve (~~~1)) wv,ae 5})) d5)
 (bN (lz (a8 (aY Lf (ae 7) (~~~5))) (dH (db fQ 3 {ae 0,~~~13,ae 2})) d5)
 (dH (ae 1))))))))))))))
def fE:FN:=gG 12 fy
def jL:FS:=(bN (gc (dh aD) (gN 1))
 (bN (rA (lw (dh {pC (.str "down"),pC (.str "up")})) (gN 2) (rA (r8 lm {aY bE (ae 0) (~~~0)}) (gN 3) (rL (Bf 1 (bZ {ae 2,ae 3})))))
 (dH (aY dM (ae 1) (dh {bZ {pC (.str "turn"),~~~0}})))))
def cj:FN:=gG 4 jL
def l6:FS:=(bN (gc (iC 1 [] (r8 lm {aY bE (ae 0) (~~~0)}) (gN 0) hV (bZ {pC (.str "down"),ae 0})) (gN 1))
 (bN (gc (iC 1 [] (r8 lm {aY bE (ae 0) (~~~0)}) (gN 0) hV (bZ {pC (.str "up"),ae 0})) (gN 2))
 (dH (aY dM (aY dM (ae 1) (ae 2)) (dh {bZ {pC (.str "turn"),~~~0}})))))
def g9:FN:=gG 3 l6
def dQ:FN:=L10.SC STP.dQ
def nz:FS:=(bN (rA (lw (db cj 1 {ae 0})) (gN 3) (lz (a8 (aY nj (aY bE (db dQ 3 {ae 0,aY bE (ae 2) (~~~0),ae 3}) (~~~0)) (aY bE (db dQ 3 {ae 1,aY bE (ae 2) (~~~1),ae 3}) (~~~0)))) (dH (pC (.bool P))) d5))
 (dH (pC (.bool U0))))
def fK:FN:=gG 4 nz
end K51
namespace K51
open PySem L2 L3 L10 STP
def d4:eK:=(aZ (cH (bt (wI P (aa (ae 1)) (bH "Places" "numbers" (aA 0)))) (aZ (cH (bt (iU S4 (nt dB (aq (bH "Places" "found" (aA 0)) aX)) (bH "Places" "most" (aA 0)))) (sZ "TooMany" "most" (bH "Places" "most" (aA 0))) cL)
 (aZ (vh (bH "Places" "numbers" (aA 0)) (aa (ae 1)) (nt dB (aq (bH "Places" "found" (aA 0)) aX)))
 (b6 (uM (bH "Places" "found" (aA 0)) (aa (bZ {ae 1,ae 2,ae 3})))))) cL)
 (fR (rD (bH "Places" "numbers" (aA 0)) (aa (ae 1)))))
def cy:jr:=dL 4 d4
def dG:eK:=(aZ (gj "Places" "most" (aA 0) (aa (ae 2)))
 (aZ (gj "Places" "found" (aA 0) (aa (dh aD)))
 (aZ (gj "Places" "numbers" (aA 0) Cd)
 (b6 (t9 "Places" "enter" cy 4 (aA 0) (aq (aa (ae 1)) (aq (aa (pC .none)) (aq (aa (pC .none)) aX))))))))
def dA:jr:=dL 3 dG
def ir:eK:=(aZ (dI (aa (dh aD)) (fT 2))
 (aZ (dI (d6 (bH "Places" "found" (aA 0)) (aa (ae 1))) (fT 3))
 (aZ (uN (cr (a8 (aY pE (aY bE (ae 3) (~~~1)) (pC .none)))) (aZ (b6 (uM (aA 2) (aa (aY bE (ae 3) (~~~2)))))
 (dI (d6 (bH "Places" "found" (aA 0)) (aa (aY bE (ae 3) (~~~1)))) (fT 3))))
 (fR (D7 (aA 2))))))
def dw:jr:=dL 4 ir
def Bt:eK:=(aZ (cH (cr (a8 (aY nj (aY bE (ae 0) (~~~0)) (aY bE (ae 1) (~~~0))))) SI cL)
 (aZ (dI (sd (aa (db g9 1 {ae 0}))) (fT 3))
 (aZ (dI (G5 "Places" dA 3 (aq (aa (bZ {pC (.tuple [(.tuple []),.none,.none]),pC (.tuple [(.tuple []),.none,.none])})) (aq (aa (ae 2)) aX))) (fT 4))
 (aZ (dI (aa (~~~0)) (fT 5))
 (aZ (uN (bt (iU Qz (aa (ae 5)) (nt dB (aq (bH "Places" "found" (aA 4)) aX)))) (aZ (dI (d6 (d6 (bH "Places" "found" (aA 4)) (aa (ae 5))) (aa (~~~0))) (fT 6))
 (aZ (A3 (pc (lw (ae 3))) (fT 7) (aZ (dI (sd (lH STP.dQ 3 (aq (aa (ae 0)) (aq (aa (aY bE (ae 6) (~~~0))) (aq (aa (ae 7)) aX))))) (fT 8))
 (aZ (dI (sd (lH STP.dQ 3 (aq (aa (ae 1)) (aq (aa (aY bE (ae 6) (~~~1))) (aq (aa (ae 7)) aX))))) (fT 9))
 (aZ (cH (cr (a8 (aY nj (aY bE (ae 8) (~~~0)) (aY bE (ae 9) (~~~0))))) (fR (kg (aq (aa (pC (.str "apart"))) (aq (iU dM (bu "Places" "way_to" dw 2 (aA 4) (aq (aa (ae 5)) aX)) (aa (dh {ae 7}))) aX)))) cL)
 (b6 (t9 "Places" "enter" cy 4 (aA 4) (aq (aa (bZ {aY bE (ae 8) (~~~1),aY bE (ae 9) (~~~1)})) (aq (aa (ae 5)) (aq (aa (ae 7)) aX)))))))))
 (Jb 5 SD (aa (~~~1))))))
 (fR (kg (aq (aa (pC (.str "same"))) (aq (oJ 1 [] (lC (bH "Places" "found" (aA 4))) (fT 0) iB (aa (aY bE (ae 0) (~~~0)))) aX)))))))))
def gD:jr:=dL 10 Bt
def Ju:eK:=(aZ (dI (aa (pC (.tuple [(.tuple []),.none,.none]))) (fT 2))
 (aZ (dI (aa (dh aD)) (fT 3))
 (aZ (Dm (aA 1) (fT 4) (aZ (dI (lH STP.dQ 3 (aq (aa (ae 0)) (aq (aa (ae 2)) (aq (aa (ae 4)) aX)))) (fT 5))
 (aZ (b6 (uM (aA 3) (d6 (aA 5) (aa (~~~0)))))
 (dI (d6 (aA 5) (aa (~~~1))) (fT 2)))))
 (fR (kg (aq (aA 3) (aq (aA 2) aX)))))))
def qX:jr:=dL 6 Ju
def kQ:eK:=(aZ (dI (aa (dh {bZ {bZ {bZ aD,pC .none,pC .none},bZ {bZ aD,pC .none,pC .none}}})) (fT 3))
 (aZ (dI (JA (d6 (aA 3) (aa (~~~0))) (aa (~~~0))) (fT 4))
 (aZ (dI (aa (~~~0)) (fT 5))
 (aZ (uN (nX (bt (iU Qz (aa (ae 5)) (nt dB (aq (aA 3) aX)))) (bt (iU TB (nt dB (aq (aA 3) aX)) (aa (ae 2))))) (aZ (A3 (pc (lw (db cj 1 {ae 0}))) (fT 6) (aZ (dI (sd (kg (aq (d6 (lH STP.dQ 3 (aq (aa (ae 0)) (aq (d6 (d6 (aA 3) (aa (ae 5))) (aa (~~~0))) (aq (aa (ae 6)) aX)))) (aa (~~~1))) (aq (d6 (lH STP.dQ 3 (aq (aa (ae 1)) (aq (d6 (d6 (aA 3) (aa (ae 5))) (aa (~~~1))) (aq (aa (ae 6)) aX)))) (aa (~~~1))) aX)))) (fT 7))
 (cH (bt (wI P (aa (ae 7)) (aA 4))) (aZ (vh (aA 4) (aa (ae 7)) (iU dM (rD (aA 4) (d6 (aA 3) (aa (ae 5)))) (aa (~~~1))))
 (b6 (uM (aA 3) (aa (ae 7))))) cL)))
 (dI (aa (aY dM (ae 5) (~~~1))) (fT 5))))
 (fR (kg (aq (aA 3) (aq (aA 4) aX))))))))
def d9:jr:=dL 8 kQ
def cM:jr
 |[.fz b,.fz c],Z=>(match gD [.fz b,.fz c,.fz (.int 100)] Z with
  |.ok x a=>.ok x a
  |.er x a=>(match x with
   |#[cl,[(f,.int k)]]=>if cl=("TooMany":Str)/\f=("most":Str)then .ok (.fz (.int k)) a else .bad
   |_=>.bad)
  |_=>.bad)
 |_,_=>.bad
def o0:eK:=(aZ (cH (wo (mX (bt (si "list" (aA 2)))) (wo (bt (iU cY (aA 2) (aa (dh aD)))) (mX (bt (nt vT (aq (rp 1 [0] (aA 2) (fT 0) iB (aa (aY Gp (ae 0) (db cj 1 {ae 1})))) aX)))))) (fR (aa (pC (.bool U0)))) cL)
 (aZ (dI (d6 (jt qX 2 (aq (aa (ae 0)) (aq (aA 2) aX))) (aa (~~~0))) (fT 3))
 (aZ (dI (d6 (jt qX 2 (aq (aa (ae 1)) (aq (aA 2) aX))) (aa (~~~0))) (fT 4))
 (fR (yf (iU cY (JZ (aA 3) zB (zE (aa (FQ vW (~~~1))))) (JZ (aA 4) zB (zE (aa (FQ vW (~~~1)))))) (iU nj (d6 (aA 3) (aa (FQ vW (~~~1)))) (d6 (aA 4) (aa (FQ vW (~~~1))))))))))
def fD:jr:=dL 5 o0
def NK:eK:=(aZ (dI (aa (db fQ 3 {ae 0,~~~1,db jC 1 {ae 0}})) (fT 1))
 (aZ (dI (aa (db fE 2 {ae 0,ae 1})) (fT 2))
 (aZ (dI (jt cM 2 (aq (aa (ae 1)) (aq (aa (ae 2)) aX))) (fT 3))
 (aZ (cH (bt (iU cY (aA 3) (aa (~~~100)))) (fR (iU Lf (nt dB (aq (d6 (jt d9 3 (aq (aa (ae 1)) (aq (aa (ae 2)) (aq (aa (~~~100)) aX)))) (aa (~~~0))) aX)) (aa (~~~100)))) cL)
 (aZ (cH (wo (mX (bt (si "tuple" (aA 3)))) (wo (bt (iU nj (nt dB (aq (aA 3) aX)) (aa (~~~2)))) (mX (bt (si "list" (d6 (aA 3) (aa (~~~1)))))))) (fR (aa (pC (.bool U0)))) cL)
 (aZ (cH (bt (iU cY (d6 (aA 3) (aa (~~~0))) (aa (pC (.str "apart"))))) (aZ (cH (mX (bt (jt fD 3 (aq (aa (ae 1)) (aq (aa (ae 2)) (aq (d6 (aA 3) (aa (~~~1))) aX)))))) (fR (aa (pC (.bool U0)))) cL)
 (aZ (b6 (HM (d6 (aA 3) (aa (~~~1)))))
 (aZ (dI (jt cM 2 (aq (aa (ae 1)) (aq (aa (ae 2)) aX))) (fT 4))
 (fR (yf (si "tuple" (aA 4)) (yf (iU cY (d6 (aA 4) (aa (~~~0))) (aa (pC (.str "apart")))) (jt fD 3 (aq (aa (ae 1)) (aq (aa (ae 2)) (aq (d6 (aA 4) (aa (~~~1))) aX)))))))))) cL)
 (aZ (dI (jt d9 3 (aq (aa (ae 1)) (aq (aa (ae 2)) (aq (aa (~~~100)) aX)))) (Rt 2 (xU (fT 5) (xU (fT 6) Gy))))
 (aZ (cH (wo (bt (iU nj (d6 (aA 3) (aa (~~~0))) (aa (pC (.str "same"))))) (wo (bt (iU nj (nt dB (aq (d6 (aA 3) (aa (~~~1))) aX)) (nt dB (aq (aA 5) aX)))) (bt (iU Lf (nt dB (aq (aA 5) aX)) (aa (~~~100)))))) (fR (aa (pC (.bool U0)))) cL)
 (aZ (cH (wo (mX (bt (nt vT (aq (rp 1 [6] (d6 (aA 3) (aa (~~~1))) (fT 0) iB (wI U0 (aa (ae 0)) (aA 1))) aX)))) (bt (iU nj (nt LD.setLenN (aq (d6 (aA 3) (aa (~~~1))) aX)) (nt dB (aq (aA 5) aX))))) (fR (aa (pC (.bool U0)))) cL)
 (aZ (cH (bt (nt LQ (aq (rp 1 [1,2] (aA 5) (fT 0) iB (aa (db fK 3 {ae 1,ae 2,ae 0}))) aX))) (fR (aa (pC (.bool U0)))) cL)
 (aZ (b6 (HM (d6 (aA 3) (aa (~~~1)))))
 (fR (iU cY (nt dB (aq (d6 (ym gD 3 [] (aq (aa (ae 1)) (aq (aa (ae 2)) (aq (aa (~~~100)) aX)))) (aa (~~~1))) aX)) (nt dB (aq (aA 5) aX)))))))))))))))
def F_law:jr:=dL 7 NK
abbrev zf(d:D):I PV:=-(d)
abbrev zo(l:G D):I PV:=R (.ow l)
def pp(a:G Int)(k:Nat):∃c:Int,bQ [.list (a.map .int),nd k]=.ok (.fz (.int c)):=by
 let d:dB [.list (a.map .int)]=-(nd a.length):=(fq _).trans (by rw[UR]);let lt:=n6 (k:Int) (a.length:Int);by_cases h:k<a.length
 .rw[aP ()]at lt;let e:bE (.list (a.map .int)) (nd k)=-(.int a[k]):=Ex (by rw[U4,U7 h];rfl);show#[a[k],ii (ρ:=[zf (.list (a.map .int)),zf (nd k)]) W (iZ (b:=P) (bX (aN (rv:=.fz (.bool P)) (ag W) (gI (rv:=.fz (nd a.length)) (aj (ag W) aM) W d) W W lt) W) (λ_=>fJ (pv:=.fz (.int a[k])) (rv:=.fz (.int a[k])) (aN (rv:=.fz (.int a[k])) (ag W) (ag W) W W e) W W) λq=>nomatch q)]
 .rw[a4 ()]at lt;show#[0,ii (ρ:=[zf (.list (a.map .int)),zf (nd k)]) W (iZ (b:=U0) (bX (aN (rv:=.fz (.bool U0)) (ag W) (gI (rv:=.fz (nd a.length)) (aj (ag W) aM) W d) W W lt) W) (λq=>nomatch q) λ_=>dS (fw (pv:=.fz (.int 0)) (rv:=.fz (.int 0)) aG W W))]
abbrev ET(c:Int)(k m:Nat)(a b:I PV):bA:=[zf (.int c),zf (nd k),zf (nd m),a,b]
def fG(c:Int)(k m:Nat)(o:k<=1000)(hm:0<m):∃r:Nat,aR [.int c,nd k,nd m]=.ok (.fz (nd r))/\r<m:=by
 let a:∀x:Int,∃r:Nat,qC (.int x) (nd m)=-(nd r)/\r<m:=λx=>by let A:0<=x % (m:Int):=acw _ ();let J:x % (m:Int)<m:=abA _ ();show#[(x % (m:Int)).toNat,?_,by ext];rw[tZ (),nd,abj A]
 let g:∃L,gG 5 g8 [.int c,nd k,nd m]=.ok L/\∃r:Nat,L=.fz (nd r)/\r<m:=by
  show qQ (T:=λL=>∃r:Nat,L=.fz (nd r)/\r<m) (ρ:=ET c k m S S) W ?_;ext g8;let f:=NG;show iZ (b:=decide (c<0)||decide ((10:Int)^18<=c)) (ρ1:=ET c k m S S) (Jy (bX (aN (rv:=.fz (.bool (decide (c<0)))) (ag W) aG W W (n6 _ _)) W) λ_=>bX (aN (rv:=.fz (.bool (decide ((10:Int)^18<=c)))) (ag W) (aN (rv:=.fz (.int ((10:Int)^18))) aG aG W W f) W W (z6 _ _)) W) (λ_=>BK ?_) (λ_=>dS ?_)
  .let B:=ku (n:=k) ()
   show uz (λ_ N=>∃(x:Int) (t:br PV),N=ET x k m t S) (ds:=cb (Vc k)) (ρ1:=ET c k m S S) (by ext:0) #[c,S,W] ?_ ?_
   .rintro i d N U ⟨x,t,rfl⟩;let e:Gh (.int x) (.int 1000)=-(.int (x/1000)):=Hg #[by decide,by decide];show#[_,W,Hb (ρ2:=ET (x/1000) k m (zf d) S) (aN (rv:=.fz (.int (x/1000))) (ag W) aG W W e) W #[_,_,W]]
   .rintro N ⟨x,t,rfl⟩;let(r,l,j):=a x;show fJ (pv:=.fz (nd r)) (rv:=.fz (nd r)) (ρ1:=ET x k m t S) (aN (rv:=.fz (nd r)) (ag W) (ag W) W W l) W #[r,W,j]
  .let K:0<=c % 1000033/\c % 1000033<1000033:=#[acw _ (),abA _ ()]
   let I:(k:Int)*k<=1000000:=by
    let:k*k<=1000*1000:=aa3 o o;let e:(k:Int)*k=((k*k:Nat):Int):=by rw[Int.natCast_mul]
    ext
   let v:0<=(k:Int)*k:=Int.mul_nonneg () ();let H:qC (.int c) (.int 1000033)=-(.int (c % 1000033)):=tZ ();let G:jf (.int 77) (nd k)=-(.int (77*k)):=pN #[by ext,by ext];let F:jf (nd k) (nd k)=-(.int (k*k)):=pN #[by ext,by ext];let u:jf (.int (c % 1000033+77*k+5)) (.int (k*k+40009))=-(.int ((c % 1000033+77*k+5)*(k*k+40009))):=pN #[by ext,by ext];generalize Q:(c % 1000033+77*(k:Int)+5)*(k*k+40009)=x at u;let E:qC (.int x) (.int 998857)=-(.int (x % 998857)):=tZ ();let q:jf (.int (x % 998857)) (.int 30011)=-(.int (x % 998857*30011)):=GU #[by ext,by ext];generalize x % 998857*30011=y at q;let p:qC (.int (y+k)) (.int 999983)=-(.int ((y+k) % 999983)):=tZ ();generalize (y+(k:Int)) % 999983=z at p;let C:Gh (.int z) (.int 3)=-(.int (z/3)):=Hg #[by ext,by ext];let(r,l,j):=a (z/3);show dj (ρ3:=ET c k m S (zf (.int x))) (by ext:0) W W ?_;show fw (pv:=.fz (nd r)) (rv:=.fz (nd r)) (ρ1:=ET c k m S (zf (.int x))) (aN (rv:=.fz (nd r)) (by ext:0) (ag W) W W l) W #[r,W,j]
 let(L,h,r,rfl,w):=g;show#[r,h,w]
def Q9{z:Str}{cs:G Nat}(b:z.cps.toList=cs.map (97+·))(a:z.length<=1000000){r:Int}{c:Nat}(h0:0<=r)(h:cs[r.toNat]?=R c):L3.d6 (.str z) (.int r)=-(.str (kh c)):=by show(if z.length<=1000000 then(lA z.cps.toList r).map (λc=>RV.fz (.str #[#v[c]]))else S)=_;rw[av a,b,xj (v:=97+c) h0 (by rw[U4,h];rfl)];rfl
def Ct{z:Str}(cs:G Nat)(f:z.cps.toList=cs.map (97+·))(b:z.length<=1000000)(d:∀c∈cs,c<26){r:Int}(h0:0<=r)(e:r<cs.length):∃c,c<26/\L3.d6 (.str z) (.int r)=-(.str (kh c)):=by
 let a:r.toNat<cs.length:=by ext
 show#[cs[r.toNat],d _ (abY a),Q9 f b h0 (U7 a)]
def Ag{n i k:Nat}(h:(Vc n)[i]?=R k):k=i/\i<n:=by let(b,a):=UP.mp h;rw[aeO]at a;rw[VS]at b;show#[a.symm,b]
def K2{n a:Int}{d:G (G Mn)}{b:G Mn}(h:VL n a d)(e:(b.length:Int)=n)(c:∀m∈b,VM d.length a m):VL n a (d++[b]):=by
 intro i l f;rcases L10.bM f with g|⟨rfl,rfl⟩
 .show h i l g
 .show#[e,c]
def wa(c:Int)(k:Nat)(d:k<=1000):∃l,l<26/\dJ [.int c,nd k]=.ok (.fz (.str (kh l))):=by let(r,er,f):=fG c k 3 d ();let a:aR [.int c,nd k,.int 3]=.ok (.fz (nd r)):=er;let(l,b,e):=Ct (z:= "abz") [0,1,25] (by left) (by left) () (show(0:Int)<=(r:Int) by ext) (show(r:Int)<3 by ext);show#[l,b,ii (ρ:=[zf (.int c),zf (nd k)]) W (fw (pv:=.fz (.str (kh l))) (rv:=.fz (.str (kh l))) (ρ1:=[zf (.int c),zf (nd k)]) (aN (rv:=.fz (.str (kh l))) aG (bS (rv:=.fz (nd r)) (ds:=[.int c,nd k,.int 3]) (aj (ag W) (aj (ag W) (aj aG aM))) W W a) W W e) W W)]
def QW{a:Nat}(b:1<=a):∃M:Nat,ED [.int 1,.int ((a:Int) - 1)]=-(nd M)/\1<=M/\(1<a->M=a - 1):=by
 by_cases h:1<a
 .show#[a - 1,?_,by ext,λ_=>W];show R (RV.fz (.int (if(1:Int)<(a:Int) - 1 then(a:Int) - 1 else 1)))=R (RV.fz (.int ((a - 1:Nat):Int)));congr 3;split<;>ext
 .obtain rfl:a=1:=by ext
  show#[1,W,by ext,λh=>by ext]
abbrev E5(c:Int)(L d:Nat)(a b:I PV):bA:=[zf (.int c),zf (nd L),zf (nd d),a,b]
def Li(c:Int)(L a:Nat)(n:1<=a)(P:a<=1000):∃m:Mn,VM L a m/\eT [.int c,nd L,nd a]=.ok (.fz (mD m)):=by
 let(i,e0,E):=fG c 11 12 () ();let(f,u,C):=fG c 12 4 () ();let(M,K,M1,M2):=QW n;let(d,t,F):=fG c 13 M () ();let(l,H,y):=wa c 14 ();let(j,G,v):=wa c 15 ();let e0:aR [.int c,.int 11,.int 12]=.ok (.fz (nd i)):=e0;let u:aR [.int c,.int 12,.int 4]=.ok (.fz (nd f)):=u;let t:aR [.int c,.int 13,nd M]=.ok (.fz (nd d)):=t;let y:dJ [.int c,.int 14]=.ok (.fz (.str (kh l))):=y;let v:dJ [.int c,.int 15]=.ok (.fz (.str (kh j))):=v;let o:∃Q,gG 5 eY [.int c,nd L,nd a]=.ok Q/\∃m:Mn,VM L a m/\Q=.fz (mD m):=by
  show qQ (T:=λQ=>∃m:Mn,VM L a m/\Q=.fz (mD m)) (ρ:=E5 c L a S S) W ?_;ext eY;show dj (ρ3:=E5 c L a (zf (nd i)) S) (bS (rv:=.fz (nd i)) (ds:=[.int c,.int 11,.int 12]) (aj (ag W) (aj aG (aj aG aM))) W W e0) W W ?_;show Gq (Go.imp (N:=λr=>∃w:Int,(a=1->w=1\/w=8)/\r=E5 c L a (zf (.int w)) S) (CZ (b:=decide ((a:Int)=1)) (ρ1:=E5 c L a (zf (nd i)) S) (bX (aN (rv:=.fz (.bool (decide ((a:Int)=1)))) (ag W) aG W W (iL _ _)) W) (λq=>?_) (λq=>?_)) (λr #[w,p,e]=>?_) (λ_ h=>h) (λ_ h=>h))
  .obtain⟨x,B,J⟩:∃x:Int,(x=1\/x=8)/\bE (.list [.int 1,.int 1,.int 1,.int 8]) (nd f)=-(.int x):=by
    let:f=0\/f=1\/f=2\/f=3:=by ext
    rcases this with rfl|rfl|rfl|rfl
    .show#[1,.inl W,Ex W]
    .show#[1,.inl W,Ex W]
    .show#[1,.inl W,Ex W]
    .show#[8,.inr W,Ex W]
   show Hb (pv:=.fz (.int x)) (ρ2:=E5 c L a (zf (.int x)) S) (aN (rv:=.fz (.int x)) (by ext:0) (bS (rv:=.fz (nd f)) (ds:=[.int c,.int 12,.int 4]) (aj (ag W) (aj aG (aj aG aM))) W W u) W W J) W #[x,λ_=>B,W]
  .let q:=of_decide_eq_false q;show sU #[i,λz=>by ext,W]
  subst e;show dj (ρ3:=E5 c L a (zf (.int w)) (zf (.int (1+(d:Int))))) (aN (rv:=.fz (.int (1+(d:Int)))) aG (bS (rv:=.fz (nd d)) (ds:=[.int c,.int 13,nd M]) (aj (ag W) (aj aG (aj (gI (rv:=.fz (nd M)) (ds:=[.int 1,.int ((a:Int) - 1)]) (aj aG (aj (aN (rv:=.fz (.int ((a:Int) - 1))) (ag W) aG W W (vg _ _)) aM)) W K) aM))) W W t) W W (gw _ _)) W W ?_;let g:1<a->(1:Int)<=1+(d:Int)/\1+(d:Int)<a:=λz=>by let:=M2 z;ext
  show iZ (b:=decide (w=4)||decide (w=5)) (ρ1:=E5 c L a (zf (.int w)) (zf (.int (1+(d:Int))))) (by ext:0) (λq=>?_) (λ_=>dS ?_)
  .show fJ (pv:=.fz (mD (.X7 (1+(d:Int))))) (rv:=.fz (mD (.X7 (1+(d:Int))))) (ρ1:=E5 c L a (zf (.int w)) (zf (.int (1+(d:Int))))) (show _=Res.ok (PV.fz (.tuple [.str "layer",.int (1+(d:Int))]),_) by ext:0) W #[_,?_,W];rw[Zc,decide_eq_true_eq,decide_eq_true_eq]at q;show g (abB n λz=>by let:=p z.symm;ext)
  show iZ (b:=decide (w=6)||decide (w=7)) (ρ1:=E5 c L a (zf (.int w)) (zf (.int (1+(d:Int))))) (by ext:0) (λq=>?_) (λ_=>dS ?_)
  .show fJ (pv:=.fz (mD (.tap l (1+(d:Int))))) (rv:=.fz (mD (.tap l (1+(d:Int))))) (ρ1:=E5 c L a (zf (.int w)) (zf (.int (1+(d:Int))))) (show _=Res.ok (PV.fz (.tuple [.str "tap",.str (kh l),.int (1+(d:Int))]),_) by ext:0) W #[_,?_,W];rw[Zc,decide_eq_true_eq,decide_eq_true_eq]at q;show#[H,g (abB n λz=>by let:=p z.symm;ext)]
  show iZ (b:=decide (w=8)) (ρ1:=E5 c L a (zf (.int w)) (zf (.int (1+(d:Int))))) (by ext:0) (λq=>?_) (λ_=>dS ?_)
  .show fJ (pv:=.fz (mD .none)) (rv:=.fz (mD .none)) (ρ1:=E5 c L a (zf (.int w)) (zf (.int (1+(d:Int))))) (show _=Res.ok (PV.fz (.tuple [.str "none"]),_) by ext:0) W #[.none,trivial,W]
  show iZ (b:=decide (w=9)) (ρ1:=E5 c L a (zf (.int w)) (zf (.int (1+(d:Int))))) (by ext:0) (λq=>?_) (λ_=>dS ?_)
  .show fJ (pv:=.fz (mD (.once (1+(d:Int))))) (rv:=.fz (mD (.once (1+(d:Int))))) (ρ1:=E5 c L a (zf (.int w)) (zf (.int (1+(d:Int))))) (show _=Res.ok (PV.fz (.tuple [.str "once",.int (1+(d:Int))]),_) by ext:0) W #[_,?_,W];rw[decide_eq_true_eq]at q;show g (abB n λz=>by let:=p z.symm;ext)
  let I:Lf (nd L) (.int 0)=-(.bool (decide ((0:Int)<L))):=W;show iZ (b:=(decide (9<w)&&decide ((0:Int)<L))) (ρ1:=E5 c L a (zf (.int w)) (zf (.int (1+(d:Int))))) (by ext:0) (λq=>?_) (λ_=>dS ?_)
  .rw[Vh]at q;let O:=a5 q.2;show fJ (pv:=.fz (mD .below)) (rv:=.fz (mD .below)) (ρ1:=E5 c L a (zf (.int w)) (zf (.int (1+(d:Int))))) (show _=Res.ok (PV.fz (.tuple [.str "below"]),_) by ext:0) W #[.below,by show(L:Int)≠0;ext,W]
  show fw (pv:=.fz (mD (.VI j))) (rv:=.fz (mD (.VI j))) (ρ1:=E5 c L a (zf (.int w)) (zf (.int (1+(d:Int))))) (show _=Res.ok (PV.fz (.tuple [.str "letter",.str (kh j)]),_) by ext:0) W #[.VI j,G,W]
 let(Q,h,m,A,rfl):=o;show#[m,A,h]
structure CsV(l0:G Mn)(cs:G (G Nat×Nat)):Prop where
 vc:∀c∈cs,VC l0 c
 un:cs.Pairwise λa c=>a.1≠c.1
theorem CsV.nil(l0:G Mn):CsV l0 []:=#[λc a=>(by ext a),Y2]
def CsV.add(h:CsV l0 cs)(j:2<=s.length)(e:s.Pairwise (·<·))(g:∀k∈s,A4 l0 k=P)(f:l<26)(d:s∉cs.map (·.1)):CsV l0 (cs++[(s,l)]):=by
 show#[λc b=>(VH.mp b).elim (h.vc c) λz=>?_,Y3.mpr #[h.un,Wx _ _,λa i c b=>?_]]
 .rw[U9.mp z];show#[j,e,g,f]
 .rw[U9.mp b];show λz=>d (Vs.mpr #[a,i,z])
def OW(a:k<l0.length):∃d,bE (eN l0) (nd k)=-(d)/\∃w,bE d (.int 0)=-(.str w)/\cY (.str w) (.str "letter")=-(.bool (A4 l0 k)):=by
 let b:A4 l0 k=l0[k].isL:=by ext A4;rw[U7 a];rfl
 rw[b];show#[mD l0[k],HD (by rw[U4,U7 a];rfl),_,oS _,j9 _]
def RO(i:Int)(k:Nat):ND (.int i) (nd k)=-(.int (i/2^k)):=by show(if Tw i (k:Int)=P then R (RV.fz (.int (i/2^((k:Nat):Int).toNat)))else S)=_;rw[av (by ext Tw;show aP ()),Wl]
def Pg(x:Int)(k:Nat):Bool:=decide (Builtin.bitAnd (x/2^k) 1=1)
def sg(n m:Nat):G Nat:=(Vc n).filter (Pg m)
def L8:∀n,n<4->∀a,a<2^n->∀b,b<2^n->sg n a=sg n b->a=b:=by left
theorem j7(p:α->Bool):∀l:G α,ox (l.map λc=>UU.bool (p c))=R (l.map p)
 |[]=>rfl
 |c::r=>by show(ox (r.map λc=>UU.bool (p c))).map (p c::·)=_;rw[j7 p r];rfl
def p9(p:α->Bool)(l:G α):vT [.list (l.map λc=>UU.bool (p c))]=-(.bool (l.all p)):=by show(ox _).map (λbs=>RV.fz (.bool (bs.all id)))=_;rw[j7];show R (RV.fz (.bool _))=_;rw[aht];rfl
abbrev E7(c:Int)(n:Nat)(l0:G Mn)(cs:G (G Nat×Nat))(a b d:I PV):bA:=[zf (.int c),zf (nd n),zf (eN l0),zo (cs.map eP),a,b,d]
def Fd(c:Int)(n:Nat)(D:n<4)(l0:bg Mn)(V:l0.length=n):∃cs,CsV l0 cs/\cs.length<=4/\gR [.int c,nd n,eN l0]=.ok (.fz (.tuple (cs.map eP))):=by
 let p8:2^n<=8:=VT (Nat.pow_le_pow_right () (show n<=3 by ext)) ();let rgm:lm [nd (2^n)]=lD (cb (Vc (2^n))):=ku ();let rgn:lm [nd n]=lD (cb (Vc n)):=ku ();let X:=Nz n ();let E:∃rv,gG 7 gX [.int c,nd n,eN l0]=.ok rv/\∃cs,CsV l0 cs/\cs.length<=4/\rv=.fz (.tuple (cs.map eP)):=by
  show qQ W ?_;ext gX;show dj (ρ3:=E7 c n l0 [] UO UO UO) (by ext:0) W W ?_;show uz (λi ρ=>∃(cs:bg (bg Nat×Nat)) (A p o:br PV),CsV l0 cs/\cs.length<=4/\(∀s∈cs.map (·.1),∃m,m<i/\m<2^n/\s=sg n m)/\ρ=E7 c n l0 cs A p o) (by ext:0) #[[],UO,UO,UO,CsV.nil _,VF _,(λs F=>by ext F),W] ?_ ?_
  .rintro i d ρ hi ⟨cs,A,p,o,g,y,v,rfl⟩
   let(k,hk,rfl):=sO hi;let(rfl,e):=Ag hk;show#[E7 c n l0 cs (zf (nd k)) p o,W,?_];let f:nW (eX (gN 0) (a8 (aY cY (aY CY (aY ND (ae 1) (ae 0)) (~~~1)) (~~~1))) (ae 0) (cb (Vc n)) [UO,-(nd k)] [])=.ok ((sg n k).map nd):=yp nd nd (Pg k) (Vc n) (by rw[VS];ext) W (λj r=>by let Z:=RO (k:Int) j;let Y:CY (.int ((k:Int)/2^j)) (.int 1)=-(.int (Builtin.bitAnd ((k:Int)/2^j) 1)):=W;show bX (aN (aN (aN (ag W) (ag W) W W Z) aG W W Y) aG W W (iL _ _)) W) λj _ _=>ag W;let N:(sg n k).Pairwise (·<·):=aid _ aaq;let P:∀j∈sg n k,j<n:=λj r=>Wh.mp (Xj.mp r).1;let U:(sg n k).length<=n:=by let:=aaH (Pg k) (Vc n);rw[VS]at this;show this
   let O:sg n k∉cs.map (·.1):=λz=>by let(m,m1,C,B):=v _ z;let:=L8 n D k e m C B;ext
   let b:∀s∈cs.map (·.1),∃m,m<k+1/\m<2^n/\s=sg n m:=λs F=>by let(m,m1,C,B):=v s F;show#[m,by ext,C,B]
   let Q:∃m,m<k+1/\m<2^n/\sg n k=sg n m:=#[k,by ext,e,W];generalize sg n k=s at f N P U O Q;show dj (gI (aj (gW (by ext:0) W f) aM) W W) W W ?_;let G:dB [.tuple (cb s)]=-(nd s.length):=(jT _).trans (by rw[gY]);let L:nW (eX (gN 0) hV (aY cY (aY bE (aY bE (ae 1) (ae 0)) (~~~0)) (pC (.str "letter"))) (cb s) [UO,-(eN l0)] [])=.ok (s.map λj=>.bool (A4 l0 j)):=pB nd (λj=>.bool (A4 l0 j)) s () W (λj r=>by let(d,e1,w,e2,e3):=OW (l0:=l0) (k:=j) (by let:=P j r;ext);show aN (aN (aN (ag W) (ag W) W W e1) aG W W e2) aG W W e3);show dj (xo (bX (aN (gI (aj (ag W) aM) W G) aG W W (wG _ _)) W) λ_=>gI (aj (gW (by ext:0) W L) aM) W (p9 _ _)) W W ?_;let(t,K,ht):=fG c (20+k) 3 () ();let K:=K;let(u,J,hu):=fG c (40+k) 4 () ();let J:=J;let(l,M,el):=Ct (z:= "abcz") [0,1,2,25] (by left) (by left) () (show(0:Int)<=(u:Int) by ext) (show(u:Int)<4 by ext);let H:dB [.list (cs.map eP)]=-(nd cs.length):=(fq _).trans (by rw[UR]);generalize hg:(decide ((1:Int)<(s.length:Int))&&s.all (A4 l0))=gd;show CZ
    (pA (bX (ag W) W) λ_=>pA (bX (aN (gI (aj (kS W) aM) W H) aG W W (n6 _ _)) W) λ_=>bX (aN (bS (aj (ag W) (aj (aN aG (ag W) W W (gw _ _)) (aj aG aM))) W W K) aG W W (iL _ _)) W) (λq=>?_) λ_=>sU #[cs,_,_,_,g,y,b,W]
   rw[Vh,Vh]at q;let(I,R,_):=q;let R:=a5 R;rw[<-hg,Vh,Wr]at I;let g3:=a5 I.1;show sY (xF W (c9 (aj (ag W) (aj (aN aG (bS (aj (ag W) (aj (aN aG (ag W) W W (gw _ _)) (aj aG aM))) W W J) W W el) aM)) W (UW W)) W W (by rw[UR];ext) (by show _=[zf (.int c),zf (nd n),zf (eN l0),zo ((cs++[(s,l)]).map eP),_,_,_];rw[Vu];rfl)) #[cs++[(s,l)],_,_,_,g.add () N I.2 M O,by rw[UZ];show cs.length+1<=4;ext,λx a=>by
    rw[Vu,VH]at a;rcases a with a|a
    .show b x a
    .rw[U9.mp a];show Q,W]
  .rintro ρ ⟨cs,A,p,o,g,y,v,rfl⟩;show fw (gI (aj (kS W) aM) W W) W #[cs,g,y,W]
 let(rv,h,cs,T,S,rfl):=E;show#[cs,T,S,h]
def SU(f:1<=n)(e:n<=5)(h:rs.length<=3)(h0:rs[0]?=R l0)(g:VL n rs.length rs)(a:CsV l0 cs)(i:cs.length<=4)(d:1<=w)(b:w<=4):VB #[n,rs,cs,w]:=by
 cases rs with
 |nil=>ext h0
 |cons x r=>cases Vi h0;show#[f,e,by show 1<=r.length+1;ext,h,g,i,a.vc,a.un,d,b]
abbrev E9(b:G Int)(a n:Nat)(c:Int)(d:Nat)(e h g f:I PV):bA:=[zf (.list (b.map .int)),zf (nd a),zf (nd n),zf (.int c),zf (nd d),e,h,g,f]
def Ut{n:Nat}(a:n=1\/n=2\/n=3):∃w:Nat,0<w/\w<=4/\bE (.list [.int 4,.int 4,.int 2]) (.int ((n:Int) - 1))=-(nd w):=by
 rcases a with rfl|rfl|rfl
 .show#[4,by decide,by decide,Mc () W]
 .show#[4,by decide,by decide,Mc () W]
 .show#[2,by decide,by decide,Mc () W]
def UG{r:Nat}(a:r<5):∃w:Nat,1<=w/\w<=3/\bE (.list [.int 1,.int 2,.int 2,.int 2,.int 3]) (nd r)=-(nd w):=by
 let:r=0\/r=1\/r=2\/r=3\/r=4:=by ext
 rcases this with rfl|rfl|rfl|rfl|rfl
 .show#[1,by decide,by decide,Ex W]
 .show#[2,by decide,by decide,Ex W]
 .show#[2,by decide,by decide,Ex W]
 .show#[2,by decide,by decide,Ex W]
 .show#[3,by decide,by decide,Ex W]
def Mr(a:G Int):∃n:Nat,(n=1\/n=2\/n=3)/\jC [.list (a.map .int)]=.ok (.fz (nd n)):=by
 let(c,b):=pp a 0;let b:bQ [.list (a.map .int),.int 0]=.ok (.fz (.int c)):=b;let(r,er,e):=fG c 1 4 () ();let er:aR [.int c,.int 1,.int 4]=.ok (.fz (nd r)):=er;obtain⟨n,f,d⟩:∃n:Nat,(n=1\/n=2\/n=3)/\bE (.list [.int 1,.int 2,.int 2,.int 3]) (nd r)=-(nd n):=by
  let:r=0\/r=1\/r=2\/r=3:=by ext
  rcases this with rfl|rfl|rfl|rfl
  .show#[1,by decide,Ex W]
  .show#[2,by decide,Ex W]
  .show#[2,by decide,Ex W]
  .show#[3,by decide,Ex W]
 show#[n,f,ii (ρ:=[zf (.list (a.map .int))]) W (fw (pv:=.fz (nd n)) (rv:=.fz (nd n)) (ρ1:=[zf (.list (a.map .int))]) (aN (rv:=.fz (nd n)) (by ext:0) (bS (rv:=.fz (nd r)) (ds:=[.int c,.int 1,.int 4]) (aj (bS (rv:=.fz (.int c)) (ds:=[.list (a.map .int),.int 0]) (aj (ag W) (aj aG aM)) W W b) (aj aG (aj aG aM))) W W er) W W d) W W)]
def J1(g:bg Int)(a n:Nat)(s:n=1\/n=2\/n=3):∃b:Bd,VB b/\b.n=n/\fQ [.list (g.map .int),nd a,nd n]=.ok (.fz (bD b)):=by
 let(p,e0):=pp g a;let(U,S,h5):=fG p 5 5 () ();let S:aR [.int p,.int 5,.int 5]=.ok (.fz (nd U)):=S;let(l,l1,l3,el):=UG h5;let(w,Y,w4,ew):=Ut s;let(C,R,h6):=fG p 6 w () Y;let R:aR [.int p,.int 6,nd w]=.ok (.fz (nd C)):=R;let(J,A):=pp g (a+10);let A:bQ [.list (g.map .int),.int ((a:Int)+10)]=.ok (.fz (.int J)):=A;let n1:(1:Int)<=(n:Int):=by rcases s with rfl|rfl|rfl<;>decide
 let n3:(n:Int)<=3:=by rcases s with rfl|rfl|rfl<;>decide
 let rgn:lm [nd n]=lD (cb (Vc n)):=ku ();let rgl:lm [nd l]=lD (cb (Vc l)):=ku ();let N:∃rv,gG 9 kJ [.list (g.map .int),nd a,nd n]=.ok rv/\∃b:Bd,(VB b/\b.n=n)/\rv=.fz (bD b):=by
  show qQ (T:=λrv=>∃b:Bd,(VB b/\b.n=n)/\rv=.fz (bD b)) (ρ:=[zf (.list (g.map .int)),zf (nd a),zf (nd n),UO,UO,UO,UO,UO,UO]) W ?_;ext kJ;show dj (ρ3:=[zf (.list (g.map .int)),zf (nd a),zf (nd n),zf (.int p),UO,UO,UO,UO,UO]) (by ext:0) W W ?_;show dj (ρ3:=E9 g a n p l UO UO UO UO) (aN (rv:=.fz (nd l)) (by ext:0) (bS (rv:=.fz (nd U)) (ds:=[.int p,.int 5,.int 5]) (aj (ag W) (aj aG (aj aG aM))) W W S) W W el) W W ?_;show dj (ρ3:=E9 g a n p l (zo []) UO UO UO) (by ext:0) W W ?_;show uz (λi ρ=>∃(e:bg (bg Mn)) (F E:br PV),e.length=i/\VL n l e/\ρ=E9 g a n p l (zo (e.map eN)) F E UO) (ds:=cb (Vc l)) (ρ1:=E9 g a n p l (zo []) UO UO UO) (by ext:0) #[[],UO,UO,W,(λj r h=>by ext h),W] ?_ ?_
  .rintro i d ρ hi ⟨e,F,E,G,I,rfl⟩
   let(L,hL,rfl):=sO hi;let(rfl,hin):=Ag hL;show#[E9 g a n p l (zo (e.map eN)) (zf (nd L)) E UO,W,?_];let mu:jf (nd n) (nd L)=-(.int ((n:Int)*L)):=pN #[by ext,by ext];let(xs,c1,c2,c3):=AH (gt:=gN 0) (ft:=hV) (fe:=db bQ 2 {ae 1,aY dM (aY dM (aY dM (ae 2) (~~~1)) (aY jf (ae 3) (ae 4))) (ae 0)}) (ds:=cb (Vc n)) (ρ:=[UO,zf (.list (g.map .int)),zf (nd a),zf (nd n),zf (nd L)]) (λρ=>∃o,ρ=[o,zf (.list (g.map .int)),zf (nd a),zf (nd n),zf (nd L)]) (λ_ x=>∃y:Int,x=.int y/\True) #[UO,W] (by rw[gY,VS];ext) (by rintro j d z ρ ⟨o,rfl⟩;let(k,hk,rfl):=sO z;let(c,H):=pp g (a+1+n*L+k);let H:bQ [.list (g.map .int),.int ((a:Int)+1+(n:Int)*L+k)]=.ok (.fz (.int c)):=H;show#[.int c,_,MD (ρ1:=[zf (nd k),zf (.list (g.map .int)),zf (nd a),zf (nd n),zf (nd L)]) W W (bS (rv:=.fz (.int c)) (ds:=[.list (g.map .int),.int ((a:Int)+1+(n:Int)*L+k)]) (aj (ag W) (aj (aN (rv:=.fz (.int ((a:Int)+1+(n:Int)*L+k))) (aN (rv:=.fz (.int ((a:Int)+1+(n:Int)*L))) (aN (rv:=.fz (.int ((a:Int)+1))) (ag W) aG W W (gw _ _)) (aN (rv:=.fz (.int ((n:Int)*L))) (ag W) (ag W) W W mu) W W (gw _ _)) (ag W) W W (gw _ _)) aM)) W W H) W W,#[_,W],c,W,trivial]);let(cs,rfl,_):=xi (f:=UU.int) (Q:=λ_ (_:Int)=>True) xs 0 c3;rw[gY,VS,UR]at c2;show dj (pv:=.ow (cs.map .int)) (ρ3:=E9 g a n p l (zo (e.map eN)) (zf (nd L)) (zo (cs.map .int)) UO) (gW (cs:=[.list (g.map .int),nd a,nd n,nd L]) (ds:=cb (Vc n)) (by ext:0) W c1) W W ?_;let(X,c4,c5,c6):=AH (gt:=gN 0) (ft:=hV) (fe:=db eT 3 {ae 0,ae 1,ae 2}) (ds:=cs.map .int) (ρ:=[UO,zf (nd L),zf (nd l)]) (λρ=>∃o,ρ=[o,zf (nd L),zf (nd l)]) (λ_ x=>∃y:Mn,x=mD y/\VM L l y) #[UO,W] (by rw[UR];ext) (by
    rintro j d z ρ ⟨o,rfl⟩;obtain⟨c,rfl⟩:∃c:Int,d=.int c:=by
     rw[U4]at z;cases q:cs[j]? with
     |none=>rw[q]at z;ext z
     |some x=>rw[q]at z;show#[x,(Vi z).symm]
    let(m,K,em):=Li c L l l1 ();show#[mD m,_,MD (ρ1:=[zf (.int c),zf (nd L),zf (nd l)]) W W (bS (rv:=.fz (mD m)) (ds:=[.int c,nd L,nd l]) (aj (ag W) (aj (ag W) (aj (ag W) aM))) W W em) W W,#[_,W],m,W,K])
   let(u,rfl,q6):=xi (f:=mD) (Q:=λ_ y=>VM L l y) X 0 c6;rw[UR,UR]at c5;let M:t7 [.list (u.map mD)]=-(eN u):=W;let O:(e.map eN).length<1000000:=by rw[UR];ext
   show sY (pv:=.fz .none) (ρ1:=E9 g a n p l (zo (e.map eN++[eN u])) (zf (nd L)) (zf (.list (cs.map .int))) UO) (xF (pa:=.fz (eN u)) (d:=eN u) W (gI (rv:=.fz (eN u)) (ds:=[.list (u.map mD)]) (aj (gW (cs:=[nd L,nd l]) (ds:=cs.map .int) (mW (kS W) W W) W c4) aM) W M) W W O W) #[e++[u],_,_,by rw[UZ,G];rfl,K2 I () (λm hm=>?_),by rw[Vu];rfl];let(t,ht):=V9.mp hm;rw[G];show q6 t m ht
  .rintro ρ ⟨e,F,E,G,I,rfl⟩;rw[gY,VS]at G;obtain⟨v,P⟩:∃v,e[0]?=lD v:=#[_,U7 (show 0<e.length by ext)];let hl0:=(I 0 v P).1;let(cs,K,Z,H):=Fd J n () v ();let i0:bE (.list (e.map eN)) (.int 0)=-(eN v):=Mc () (by show(e.map eN)[0]?=_;rw[U4,P];rfl);show dj (ρ3:=E9 g a n p l (zo (e.map eN)) F E (zf (.tuple (cs.map eP)))) (bS (rv:=.fz (.tuple (cs.map eP))) (ds:=[.int J,nd n,eN v]) (aj (bS (rv:=.fz (.int J)) (ds:=[.list (g.map .int),.int ((a:Int)+10)]) (aj (ag W) (aj (aN (rv:=.fz (.int ((a:Int)+10))) (ag W) aG W W (gw _ _)) aM)) W W A) (aj (ag W) (aj (aN (rv:=.fz (eN v)) (dx:=.list (e.map eN)) (kS W) aG W W i0) aM))) W W H) W W ?_;let M:t7 [.list (e.map eN)]=-(.tuple (e.map eN)):=W;show fw (pv:=.fz (bD #[n,e,cs,1+(C:Int)])) (rv:=.fz (bD #[n,e,cs,1+(C:Int)])) (ρ1:=E9 g a n p l (zo (e.map eN)) F E (zf (.tuple (cs.map eP)))) (c9 (ds:=[nd n,.tuple (e.map eN),.tuple (cs.map eP),.int (1+(C:Int))]) (aj (ag W) (aj (gI (rv:=.fz (.tuple (e.map eN))) (ds:=[.list (e.map eN)]) (aj (kS W) aM) W M) (aj (ag W) (aj (aN (rv:=.fz (.int (1+(C:Int)))) aG (bS (rv:=.fz (nd C)) (ds:=[.int p,.int 6,nd w]) (aj (ag W) (aj aG (aj (aN (rv:=.fz (nd w)) (dx:=.list [.int 4,.int 4,.int 2]) (by ext:0) (aN (rv:=.fz (.int ((n:Int) - 1))) (ag W) aG W W (vg _ _)) W W ew) aM))) W W R) W W (gw _ _)) aM)))) W (UW W)) W #[_,#[SU n1 (Int.le_trans n3 ()) () P (by rw[G];show I) K Z () (),W],W]
 let(rv,h,b,(B,hb),rfl):=N;show#[b,B,hb,h]
section
variable{ρ Q:bC}{Z U Y T:bh}{x y z:SV}{i:Nat}{d:D}{X:bg (D×D)}
def Ky(h:Z[i]?=R (.dd X)):vX Z (.rf i)=R (i,X):=by ext vX;dsimp only;rw[h]
def x8(a:fk ρ Z=.ok x U)(hd:fd ρ U=.ok (.rf i) Y)(b:lh x=R k)(c:Y[i]?=R (.dd X)):wI neg fk fd ρ Z=.ok (.fz (.bool ((iA X k).isSome !=neg))) Y:=by ext wI;rw[a,eH,hd,eH,b];show((RS.V4 Y (vX Y (.rf i))).bind _)=_;rw[Ky c];rfl
def zj(hd:fd ρ Z=.ok (.rf i) U)(a:fk ρ U=.ok x Y)(e:lh x=R k)(c:Y[i]?=R (.dd X))(b:iA X k=R d):rD fd fk ρ Z=.ok (.fz d) Y:=by ext rD;rw[hd,eH,a,eH,e];show((RS.V4 Y (vX Y (.rf i))).bind _)=_;rw[Ky c];show((RS.V4 Y (iA X k)).bind _)=_;rw[b];rfl
def Ak(a:o ρ Z=.ok (.fz d) U)(hd:fd ρ U=.ok (.rf i) Y)(e:fk ρ Y=.ok x T)(f:lh x=R k)(c:T[i]?=R (.dd X))(b:X.length<1000000):vh fd fk o ρ Z=.ok (.nx ρ) (T.set i (.dd (jX X k d))):=by ext vh;rw[a,eH,hd,eH,e,eH,f];show((RS.V4 T (vX T (.rf i))).bind _)=_;rw[Ky c];show(if X.length<1000000 then _ else _)=_;rw[av b]
def kr(c:fa ρ Z=.ok xs U)(b:xs.length=n)(a:F xs U=.ok x Y):jt F n fa ρ Z=.ok x Y:=by ext jt;rw[c,eH,av b,a,lV]
end
def uv{l r:bh}:(l++r)[l.length+t]?=r[t]? :=by rw[Vr (),XG]
def FL{l r:bh}:(l++r).set (l.length+t) c=l++r.set t c:=by rw[adO _ _ (),XG]
structure Pl where
 p:D
 b:D
 e:D
def yo(q:Pl):D:=.tuple [q.p,q.b,q.e]
def jj:G Pl->D->I Nat
 |[],_=>S
 |q::r,p=>if UU.eqv q.p p=P then R 0 else(jj r p).map (·+1)
def jV:Nat->G Pl->G (D×D)
 |_,[]=>[]
 |k,q::r=>(q.p,nd k)::jV (k+1) r
theorem pU:∀(k:Nat) (fs:G Pl) (p:D),iA (jV k fs) p=(jj fs p).map λi=>nd (k+i)
 |_,[],_=>rfl
 |k,q::r,p=>by
  let a:=pU (k+1) r p;unfold iA at a⊢;unfold jV jj;rw[VY];cases UU.eqv q.p p with
  |true=>rfl
  |false=>dsimp only;rw[a,ax Vg,Option.map_map];congr 1;funext i;show nd (k+1+i)=nd (k+(i+1));rw[WU,YG 1 i]
theorem Ae:∀(k:Nat) (fs:G Pl) (q:Pl),jV k (fs++[q])=jV k fs++[(q.p,nd (k+fs.length))]
 |k,[],q=>rfl
 |k,a::r,q=>by show(a.p,nd k)::jV (k+1) (r++[q])=(a.p,nd k)::(jV (k+1) r++[(q.p,nd (k+(r.length+1)))]);rw[Ae (k+1) r q,WU,YG 1 r.length]
theorem DW:∀(k:Nat) (fs:G Pl),(jV k fs).length=fs.length
 |_,[]=>rfl
 |k,q::r=>et (·+1) (DW (k+1) r)
def Mg(h:jj fs p=S):jX (jV 0 fs) p (nd fs.length)=jV 0 (fs++[#[p,b,e]]):=by
 let g:=pU 0 fs p;rw[h]at g;unfold iA at g;let d:((jV 0 fs).find? λa=>UU.eqv a.1 p)=S:=by
  cases q:(jV 0 fs).find? λa=>UU.eqv a.1 p with
  |none=>rfl
  |some x=>rw[q]at g;ext g
 ext jX;rw[d,Ae,W4];rfl
def GD(h:jj fs q.p=S)(d:UU.eqv q.p q.p=P):jj (fs++[q]) q.p=R fs.length:=by
 induction fs with
 |nil=>show(if UU.eqv q.p q.p=P then R 0 else _)=_;rw[av d];rfl
 |cons a r b=>
  unfold jj at h;show(if UU.eqv a.p q.p=P then R 0 else(jj (r++[q]) q.p).map (·+1))=_;by_cases e:UU.eqv a.p q.p=P
  .rw[av e]at h;ext h
  .rw[ax e]at h⊢;rw[b (by cases k:jj r q.p with|none=>rfl|some _=>rw[k]at h;ext h)];rfl
def yn(h:LD.keyD p=P):UU.eqv p p=P:=by
 show XQ p (LD.kd_lay p ?_);cases p with
 |tuple xs=>unfold LD.keyD at h;rw[Vh]at h;ext LD.kd;show h.1
 |_=>simp[LD.keyD]at h
def pF(m:Int)(j k:Nat):G (Str×SV):=[("most",.fz (.int m)),("found",.rf j),("numbers",.rf k)]
structure PSt(i j k:Nat)(m:Int)(fs:G Pl)(Z:bh):Prop where
 o:Z[i]?=R (.obj "Places" (pF m j k))
 f:Z[j]?=R (.lst ((fs.map yo).map .fz))
 n:Z[k]?=R (.dd (jV 0 fs))
 jk:j≠k
 ij:i≠j
 ik:i≠k
 lt:fs.length<100000
def vL(j k:Nat)(fs:G Pl)(Z:bh):bh:=(Z.set k (.dd (jV 0 fs))).set j (.lst ((fs.map yo).map .fz))
section
variable{i j k:Nat}{m:Int}{fs:bg Pl}{Z:bh}{p b e:D}
def PSt.ent(h:PSt i j k m fs Z)(g:fs.length+1<100000):PSt i j k m (fs++[q]) (vL j k (fs++[q]) Z):=by
 let d:=(UP.mp h.f).1;let a:=(UP.mp h.n).1;show#[?_,?_,?_,h.jk,h.ij,h.ik,by rw[UZ];show g]
 .ext vL;rw[VX (ef h.ij),VX (ef h.ik)];show h.o
 .ext vL;rw[Wg (by rw[V2];show d)]
 .ext vL;rw[VX h.jk,Wg a]
def Gw:(pF m j k).lookup ("most":Str)=-(.int m):=by rfl
def qu:(pF m j k).lookup ("found":Str)=R (.rf j):=by rfl
def AI:(pF m j k).lookup ("numbers":Str)=R (.rf k):=by rfl
def wC:(pF m j k).lookup ("enter":Str)=S:=by rfl
theorem lJ(a:LD.keyD p=P):lh (.fz p)=R p:=av a
def wE(h:PSt i j k m fs Z)(hm:L9.RE (.int m)=US)(N:m<=1000)(C:LD.keyD p=US):cy [.rf i,.fz p,.fz b,.fz e] Z=(match jj fs p with
  |some t=>.ok (.fz (nd t)) Z
  |none=>if m<=(fs.length:Int)then .er #["TooMany",[("most",.int m)]] Z else .ok (.fz (nd fs.length)) (vL j k (fs++[#[p,b,e]]) Z)):=by
 let v:=lJ C;let y:∀{a:bh},a[i]?=R (.obj "Places" (pF m j k))->bH "Places" "numbers" (aA 0) [R (.rf i),-(p),-(b),-(e)] a=.ok (.rf k) a:=λz=>jH (bf W) z AI;let E:∀{a:bh},a[i]?=R (.obj "Places" (pF m j k))->bH "Places" "found" (aA 0) [R (.rf i),-(p),-(b),-(e)] a=.ok (.rf j) a:=λz=>jH (bf W) z qu;let A:∀{a:bh},a[i]?=R (.obj "Places" (pF m j k))->bH "Places" "most" (aA 0) [R (.rf i),-(p),-(b),-(e)] a=.ok (.fz (.int m)) a:=λz=>jH (bf W) z Gw;let r:∀{a:bh},aa (ae 1) [R (.rf i),-(p),-(b),-(e)] a=.ok (.fz p) a:=ah (ag W);let d:=x8 (neg:=US) r (y h.o) v h.n;rw[pU]at d;let get:∀{g:bg Pl} {a:bh} {t:Nat},a[i]?=R (.obj "Places" (pF m j k))->a[k]?=R (.dd (jV 0 g))->jj g p=R t->fR (rD (bH "Places" "numbers" (aA 0)) (aa (ae 1))) [R (.rf i),-(p),-(b),-(e)] a=.ok (.rt (.fz (nd t))) a:=λJ I H=>by show jM (zj (y J) r v I ?_);rw[pU,H];show R (nd (0+_))=_;rw[W4]
 let u:=k8 (aw (E h.o) aV) (by ext aJ;rw[cJ h.f];rfl) ((fq _).trans (by rw[UR]));cases q:jj fs p with
 |some t=>rw[q]at d;show kY W ?_;show dk (jg (aW d) iH) (get h.o h.n q)
 |none=>
  rw[q]at d;dsimp only;by_cases l:m<=(fs.length:Int)
  .rw[av l]
   let w:=aW (b4 u (A h.o) (bL ((z6 _ _).trans (by rw[aP l]))));show dL 4 d4 _ _=_;ext dL;show((d4 [R (.rf i),-(p),-(b),-(e)] Z).bind _)=_;let M:d4 [R (.rf i),-(p),-(b),-(e)] Z=.er #["TooMany",[("most",.int m)]] Z:=by ext d4;ext aZ;rw[gl (aW d) W,gl w W,F6 (A h.o) hm];rfl
   rw[M];rfl
  .rw[ax l]
   let w:=aW (b4 u (A h.o) (bL ((z6 _ _).trans (by rw[a4 l]))));let B:=Ak u (y h.o) r v h.n (by rw[DW];let:=h.lt;ext);rw[Mg q]at B;let K:(Z.set k (.dd (jV 0 (fs++[#[p,b,e]]))))[i]?=R (.obj "Places" (pF m j k)):=(VX (ef h.ik)).trans h.o;let F:(Z.set k (.dd (jV 0 (fs++[#[p,b,e]]))))[j]?=R (.lst ((fs.map yo).map .fz)):=(VX (ef h.jk)).trans h.f;let G:=uW (fe:=aa (bZ {ae 1,ae 2,ae 3})) (x:=.fz (yo #[p,b,e])) (E K) F (ah (c9 (aj (ag W) (aj (ag W) (aj (ag W) aM))) W (UW W))) F (by rw[UR,UR];let:=h.lt;ext);let L:(Z.set k (.dd (jV 0 (fs++[#[p,b,e]])))).set j (.lst ((fs.map yo).map SV.fz++[.fz (yo #[p,b,e])]))=vL j k (fs++[#[p,b,e]]) Z:=by ext vL;rw[Vu,Vu];rfl
   rw[L]at G;let P:=h.ent (q:=#[p,b,e]) ();show kY W ?_;show dk (gl (aW d) (dk (jg w iH) (dk B (gB G)))) (get P.o P.n (GD q (yn C)))
end
def kq(Z:bh)(m:Int)(fs:G Pl)(J:bh):bh:=Z++(Cell.obj "Places" (pF m (Z.length+1) (Z.length+2)):: .lst ((fs.map yo).map .fz):: .dd (jV 0 fs)::J)
theorem GW(h:fs.length<100000):PSt Z.length (Z.length+1) (Z.length+2) m fs (kq Z m fs J):=
 #[by let:=uv (l:=Z) (r:=Cell.obj "Places" (pF m (Z.length+1) (Z.length+2)):: .lst ((fs.map yo).map .fz):: .dd (jV 0 fs)::J) (t:=0);show this,uv,uv,by ext,by ext,by ext,h]
def C0:vL (Z.length+1) (Z.length+2) o (kq Z m fs J)=kq Z m o J:=by unfold vL kq;rw[FL,FL];rfl
def TM(m:Int):Xc:=#["TooMany",[("most",.int m)]]
def zK(h0:0<=m)(h:m<=1000):L9.RE (.int m)=P:=by show aP (ZF (Nat.log2_le_self m.natAbs) ?_);ext
def Hq(j:LD.keyD p=US)(i:0<=m)(d:m<=1000):dA [.rf Z.length,.fz p,.fz (.int m)] (Z++[.obj "Places" []])=if m<=0 then .er (TM m) (kq Z m [] [])else .ok (.fz .none) (kq Z m [#[p,.none,.none]] []):=by
 let h:gj "Places" "most" (aA 0) (aa (ae 2)) [R (.rf Z.length),-(p),-(.int m)] (Z++[.obj "Places" []])=.ok (.nx [R (.rf Z.length),-(p),-(.int m)]) (Z++[.obj "Places" [("most",.fz (.int m))]]):=
  (qN (ah (ag W)) (bf W) a9 ()).trans (by rw[hJ];rfl)
 let g:gj "Places" "found" (aA 0) (aa (dh aD)) [R (.rf Z.length),-(p),-(.int m)] (Z++[.obj "Places" [("most",.fz (.int m))]])=.ok (.nx [R (.rf Z.length),-(p),-(.int m)]) (Z++[.obj "Places" [("most",.fz (.int m)),("found",.rf (Z.length+1))],.lst []]):=by show(qN (eS (by ext:0)) (bf W) (by rw[Vw];show uv (t:=0)) (UW W)).trans ?_;rw[Vw,show Z.length=Z.length+0 from rfl,FL,UZ];rfl
 let f:gj "Places" "numbers" (aA 0) Cd [R (.rf Z.length),-(p),-(.int m)] (Z++[.obj "Places" [("most",.fz (.int m)),("found",.rf (Z.length+1))],.lst []])=.ok (.nx [R (.rf Z.length),-(p),-(.int m)]) (kq Z m [] []):=by show(qN W (bf W) (by rw[Vw];show uv (t:=0)) (UW W)).trans ?_;rw[Vw,show Z.length=Z.length+0 from rfl,FL,UZ];rfl
 let P:PSt Z.length (Z.length+1) (Z.length+2) m [] (kq Z m [] []):=GW ();let l:=wE (b:=.none) (e:=.none) P (zK i d) d j;let a:=Ek (F:=cy) (fo:=aA 0) (fa:=aq (aa (ae 1)) (aq (aa (pC .none)) (aq (aa (pC .none)) aX))) (ρ:=[R (.rf Z.length),-(p),-(.int m)]) (bf W) P.o wC (aw (ah (ag W)) (aw (ah aG) (aw (ah aG) aV))) W;rw[l]at a;let a:t9 "Places" "enter" cy 4 (aA 0) (aq (aa (ae 1)) (aq (aa (pC .none)) (aq (aa (pC .none)) aX))) [R (.rf Z.length),-(p),-(.int m)] (kq Z m [] [])=if m<=0 then .er (TM m) (kq Z m [] [])else .ok (.fz (nd 0)) (vL (Z.length+1) (Z.length+2) [#[p,.none,.none]] (kq Z m [] [])):=a
 rw[C0]at a;show dL 3 dG _ _=_;ext dL;show((dG [R (.rf Z.length),-(p),-(.int m)] (Z++[.obj "Places" []])).bind _)=_;ext dG;rw[dk h W,dk g W,dk f W];ext b6;rw[a];split<;>rfl
theorem sJ:∀{l:G α},(∀a∈l,LD.kd (f a)=P)->LD.kds (l.map f)=P
 |[],_=>by rw[Yz,LD.kds]
 |a::r,h=>by rw[Vf,LD.kds,h a U5,sJ λx b=>h x (U6 _ b)];rfl
theorem K9:∀b:G Nat,LD.kds (cb b)=P:=λb=>sJ λa _=>by show LD.kd (.int a)=P;rw[LD.kd]
def Gv(h:LB m):LD.kd (mD m)=P:=by
 cases m with
 |VI c=>show LD.kd (.tuple [.str "letter",.str (kh c)])=P;simp only[LD.kd,LD.kds];rw[og h,show UU.strOk "letter"=P by left];rfl
 |X7 n=>show LD.kd (.tuple [.str "layer",.int n])=P;simp only[LD.kd,LD.kds];rw[show UU.strOk "layer"=P by left];rfl
 |tap c n=>show LD.kd (.tuple [.str "tap",.str (kh c),.int n])=P;simp only[LD.kd,LD.kds];rw[og h,show UU.strOk "tap"=P by left];rfl
 |once n=>show LD.kd (.tuple [.str "once",.int n])=P;simp only[LD.kd,LD.kds];rw[show UU.strOk "once"=P by left];rfl
 |none=>show LD.kd (.tuple [.str "none"])=P;simp only[LD.kd,LD.kds];rw[show UU.strOk "none"=P by left];rfl
 |below=>show LD.kd (.tuple [.str "below"])=P;simp only[LD.kd,LD.kds];rw[show UU.strOk "below"=P by left];rfl
def Ke(h:SW b s):LD.kd (eJ s)=P/\UU.depth (eJ s)<=4:=by
 let i:LD.kds ((iS s.ac).map pD)=P:=sJ λq j=>by show LD.kd (.tuple [nd q.1,mD q.2])=P;simp only[LD.kd,LD.kds];rw[Gv (h.sa.ac _ _ (gZ.mp j).2).2.lb];rfl
 let l:∀m:Mn,UU.depth (mD m)<=1:=λm=>by ext m<;>show UW W
 let o:UU.depthAll ((iS s.ac).map pD)<=2:=jv λq _=>by show max 0 (max (UU.depth (mD q.2)) 0)+1<=2;let:=l q.2;ext
 let e:LD.kd (kT s.wt)=P/\UU.depth (kT s.wt)<=2:=by
  cases q:s.wt with
  |none=>show#[by show LD.kd .none=P;rw[LD.kd],VF _]
  |some x=>
   let(a,g,w):=x;let v:=(h.wt a g w q).1;constructor
   .show LD.kd (.tuple [.tuple (cb a),.int g,vM w])=P
    simp only[LD.kd,LD.kds];rw[K9];cases w with
    |none=>show(P&&(P&&(LD.kd (.tuple [.str "chord"])&&P)))=P;simp only[LD.kd,LD.kds];rw[show UU.strOk "chord"=P by left];rfl
    |some f=>let(c,n):=f;let lb:LB (.tap c n):=(v.tp c n W).1;show(P&&(P&&(LD.kd (mD (.tap c n))&&P)))=P;rw[Gv lb];rfl
   .show max (UU.depthAll (cb a)+1) (max 0 (max (UU.depth (vM w)) 0))+1<=2
    rw[tm];cases w with
    |none=>show UW W
    |some f=>show UW W
 let d:LD.kd (vI s.oc)=P/\UU.depth (vI s.oc)=0:=by cases s.oc<;>show#[by show LD.kd _=P;ext vI;simp only[LD.kd],W]
 constructor
 .show LD.kd (.tuple [.tuple ((iS s.ac).map pD),kT s.wt,vI s.oc])=P;simp only[LD.kd,LD.kds];rw[i,e.1,d.1];rfl
 .show max (UU.depthAll ((iS s.ac).map pD)+1) (max (UU.depth (kT s.wt)) (max (UU.depth (vI s.oc)) 0))+1<=4;rw[d.2];let:=e.2;ext
def oy(n:Nat):G YD:=(Vc n).map .down++(Vc n).map .up++[.turn]
def jI{b:Bd}{n:Nat}(c:b.n=n):∀e∈oy n,EV b e:=by
 intro e a;rcases VH.mp a with a|a
 .rcases VH.mp a with a|a
  .let(k,d,rfl):=Vs.mp a;let:=Wh.mp d;show(k:Int)<b.n;ext
  .let(k,d,rfl):=Vs.mp a;let:=Wh.mp d;show(k:Int)<b.n;ext
 .rw[U9.mp a];trivial
theorem Lq(h:xs.length+ys.length<=1000000):dM (.list xs) (.list ys)=R (.ow (xs++ys)):=av h
theorem Na(b:Bd):bE (bD b) (.int 0)=-(.int b.n):=io
def Pq{b:Bd}{n:Nat}(c:b.n=n)(j:n<=5):g9 [bD b]=.ok (.ow ((oy n).map c8)):=by
 let h:lm [.int b.n]=R (cb (Vc n)):=by rw[c];show ku ()
 let i:=Na b;let a:(Vc n).length<=1000:=by rw[VS];ext
 let e:nW (eX (gN 0) hV (bZ {pC (.str "down"),ae 0}) (cb (Vc n)) [S] [])=.ok ((Vc n).map λk=>c8 (.down k)):=pB nd (λk=>c8 (.down k)) (Vc n) a W λk _=>c9 (aj aG (aj (ag W) aM)) W (UW W);let d:nW (eX (gN 0) hV (bZ {pC (.str "up"),ae 0}) (cb (Vc n)) [S] [])=.ok ((Vc n).map λk=>c8 (.up k)):=pB nd (λk=>c8 (.up k)) (Vc n) a W λk _=>c9 (aj aG (aj (ag W) aM)) W (UW W);let g:dM (.list ((Vc n).map λk=>c8 (.down k))) (.list ((Vc n).map λk=>c8 (.up k)))=R (.ow (((Vc n).map λk=>c8 (.down k))++(Vc n).map λk=>c8 (.up k))):=Lq (by rw[UR,UR];ext);let f:dM (.list (((Vc n).map λk=>c8 (.down k))++(Vc n).map λk=>c8 (.up k))) (.list [c8 .turn])=R (.ow ((oy n).map c8)):=(Lq (by rw[UZ,UR,UR];show _+1<=_;ext)).trans (by ext oy;rw[Vu,Vu,VG,VG];rfl);show ii W ?_;ext l6;show dj (gW (by ext:0) W e) W W ?_;show dj (gW (by ext:0) W d) W W ?_;show fw (aN (aN (kS W) (kS W) W W g) (ro (aj (c9 (aj aG (aj aG aM)) W (UW W)) aM) W (UW W)) W W f) W W
theorem KM(h:cb o=cb C):o=C:=(abv λx y e=>by injection e with e;show aeP e).mp h
def Ci(h:mD m=mD n):m=n:=by
 let e:=(oS m).symm.trans ((et (λz=>bE z (.int 0)) h).trans (oS n));injection e with e;injection e with e;injection e with e
 let w:=zt _ (rH m) _ (rH n);rw[show ws (wn m)=ws (wn n)from e,eu]at w;ext m<;>ext n<;>first|rfl|(exfalso;revert w;simp[wn];done)|(injection h with h;injection h with _ h;injection h with h g;injection h with h)
 .rw[sI h]
 .rw[h]
 .injection g with g;injection g with g;rw[sI h,g]
 .rw[h]
def Hi(l:VB b)(j:VB c)(D:SW b s)(A:SW c t)(h:eJ s=eJ t):s=t:=by
 injection h with h
 injection h with h1 h
 injection h with h2 h
 injection h with h3 _
 injection h1 with h1
 let f:=(abv λx y e=>by
  injection e with e;injection e with d e;injection e with e2 _;injection d with d
  show Prod.ext (aeP d) (Ci e2)).mp h1
 let E:=funext λk=>Option.ext λa=>#[λe=>by
   let:=(gZ (p:=(k,a))).mpr #[(SA.ak l D.sa k a e).1,e];rw[f]at this;show(gZ.mp this).2,λe=>by
   let:=(gZ (p:=(k,a))).mpr #[(SA.ak j A.sa k a e).1,e];rw[<-f]at this;show(gZ.mp this).2]
 let B:s.wt=t.wt:=by
  revert h2;cases s.wt with
  |none=>cases t.wt with
   |none=>show λ_=>W
   |some y=>show λe=>by ext e
  |some x=>cases t.wt with
   |none=>show λe=>by ext e
   |some y=>
    let(F,g,w):=x;let(G,i,v):=y;intro e;injection e with e;injection e with d e;injection e with e2 e;injection e with e3 _;injection d with d;injection e2 with e2;let d:=KM d;let:w=v:=by
     revert e3;cases w with
     |none=>cases v with
      |none=>show λ_=>W
      |some q=>show λe=>by injection e with e;injection e with _ e;ext e
     |some p=>cases v with
      |none=>show λe=>by injection e with e;injection e with _ e;ext e
      |some q=>let(z,u):=p;let(r,o):=q;show λe=>by let:=Ci (m:=.tap z u) (n:=.tap r o) e;injection this with a b;rw[a,b]
    rw[d,e2,this]
 let C:s.oc=t.oc:=by
  revert h3;cases s.oc<;>cases t.oc<;>intro e
  .rfl
  .ext e
  .ext e
  .injection e with e;rw[e]
 ext s;ext t;ext E;ext B;ext C;rfl
abbrev PP:=Yg×Yg
def kP(p:PP):D:=.tuple [eJ p.1,eJ p.2]
def ko(b c:Bd)(p:PP)(e:YD):PP:=((bp b p.1 e).1,(bp c p.2 e).1)
def BW(b c:Bd)(p:PP)(e:YD):Prop:=(bp b p.1 e).2=(bp c p.2 e).2
def vJ:PP:=(fW,fW)
def RW(b c:Bd)(a:G YD):Nat->PP->Prop
 |0,p=>p=vJ
 |k+1,p=>∃q e,RW b c a k q/\e∈a/\p=ko b c q e
def PW(b c:Bd)(p:PP):Prop:=SW b p.1/\SW c p.2
structure BB(b c:Bd)(es:G YD):Prop where
 vb:VB b
 vc:VB c
 eb:∀e∈es,EV b e
 ec:∀e∈es,EV c e
section
variable{b c:Bd}{es:bg YD}
theorem BB.sw(h:BB b c es):BB c b es:=#[h.vc,h.vb,h.ec,h.eb]
theorem BB.nx(h:BB b c es)(a:PW b c p)(d:e∈es):PW b c (ko b c p e):=#[sM h.vb a.1 (h.eb e d),sM h.vc a.2 (h.ec e d)]
theorem BB.rw(h:BB b c es):∀{k p},RW b c es k p->PW b c p
 |0,p,e=>by rw[show p=vJ from e];show#[iM b,iM c]
 |k+1,p,#[q,e,a,he,d]=>by rw[d];show h.nx (h.rw a) he
def IA(h:BB b c es)(d:PW b c p)(a:PW b c q)(e:kP p=kP q):p=q:=by
 injection e with e;injection e with e1 e;injection e with e2 _
 show Prod.ext (Hi h.vb h.vb d.1 a.1 e1) (Hi h.vc h.vc d.2 a.2 e2)
theorem RW.swp:∀{k p},RW b c es k p->RW c b es k p.swap
 |0,p,e=>by rw[show p=vJ from e];rfl
 |k+1,p,#[q,e,a,he,d]=>#[q.swap,e,a.swp,he,by rw[d];rfl]
def fP(a:PW b c p):LD.keyD (kP p)=P:=by let(e,g):=Ke a.1;let(d,f):=Ke a.2;ext kP;rw[LD.keyD];simp only[LD.kds];rw[e,d,aP (show UU.depth (.tuple [eJ p.1,eJ p.2])<=8 by show max (UU.depth (eJ p.1)) (max (UU.depth (eJ p.2)) 0)+1<=8;ext)];rfl
structure ApD(b c:Bd)(es:G YD)(d:Nat):Prop where
 x:∃p e,RW b c es d p/\e∈es/\¬BW b c p e
 n:∀k p e,k<d->RW b c es k p->e∈es->BW b c p e
def ApD.one(h:ApD b c es d)(k:ApD b c es d'):d=d':=by
 let(p,e,o,m,l):=h.x;let(j,r,g,f,a):=k.x;by_cases q:d<d'
 .show a6 (k.n d p e q o m) l
 by_cases i:d'<d
 .show a6 (h.n d' j r i g f) a
 ext
def ApD.swp(h:ApD b c es d):ApD c b es d:=by let(p,e,m,l,j):=h.x;show#[#[p.swap,e,m.swp,l,λz=>j z.symm],λk q f g a i=>(h.n k q.swap f g a.swp i).symm]
structure AllP(b c:Bd)(es:G YD)(l:G PP):Prop where
 u:l.Nodup
 r:∀p∈l,∃k,RW b c es k p
 c:∀k p,RW b c es k p->p∈l
theorem Aj:∀{m l:G PP},m.Nodup->(∀x∈m,x∈l)->m.length<=l.length
 |[],_,_,_=>VF _
 |a::r,l,h,g=>by
  let(f,e,rfl):=List.append_of_mem (g a U5);rw[Wf]at h;let:=Aj (m:=r) (l:=f++e) h.2 λx d=>by
   rcases VH.mp (g x (U6 _ d))with q|q
   .show Wv _ q
   .rcases Vm.mp q with rfl|q
    .show a6 d h.1
    .show VQ _ q
  rw[UZ]at this⊢;rw[Vd,Vd];ext
def AllP.len(h:AllP b c es l){m:G PP}(a:m.Nodup)(d:∀p∈m,∃k,RW b c es k p):m.length<=l.length:=by show Aj a λp e=>?_;let(k,f):=d p e;show h.c k p f
theorem Nv{l:G PP}(h:l.Nodup):(l.map Prod.swap).Nodup:=aie _ (λa b n e=>n (by let:=et Prod.swap e;rwa [Prod.swap_swap,Prod.swap_swap]at this)) h
def AllP.swp(h:AllP b c es l):AllP c b es (l.map Prod.swap):=by
 show#[Nv h.u,λp e=>?_,λk p a=>?_]
 .let(q,d,rfl):=Vs.mp e;let(k,a):=h.r q d;show#[k,a.swp]
 .show Vs.mpr #[p.swap,h.c k p.swap a.swp,Prod.swap_swap p]
end
theorem Im:∀{fs:G Pl} {d:D} {t:Nat},jj fs d=R t->∃q,fs[t]?=R q/\UU.eqv q.p d=P
 |[],_,_,h=>by ext h
 |a::r,d,t,h=>by
  unfold jj at h;split at h
  .rename_i e;ext h;show#[a,W,e]
  .cases q:jj r d with
   |none=>rw[q]at h;ext h
   |some j=>rw[q]at h;ext h;let(x,f,b):=Im q;show#[x,by simpa using f,b]
structure Pe where
 p:PP
 b:D
 e:D
 d:Nat
def jO(q:Pe):Pl:=#[kP q.p,q.b,q.e]
def OA:Pe:=#[vJ,.none,.none,0]
def Dn(b c:Bd)(fs:G Pe)(q:Pe)(e:YD):Prop:=BW b c q.p e/\∃r∈fs,r.p=ko b c q.p e/\r.d<=q.d+1
def Alk(b c:Bd):PP->G YD->PP->Prop
 |p,[],q=>p=q
 |p,e::r,q=>BW b c p e/\Alk b c (ko b c p e) r q
structure BI(b c:Bd)(es:G YD)(fs:G Pe)(n:Nat):Prop where
 z:fs[0]?=R OA
 bk:∀i q,fs[i]?=R q->0<i->∃j r,j<i/\fs[j]?=R r/\q.b=nd j/\q.d=r.d+1/\∃e∈es,q.e=c8 e/\q.p=ko b c r.p e/\BW b c r.p e
 rw:∀q∈fs,RW b c es q.d q.p
 mo:fs.Pairwise λq r=>q.d<=r.d
 up:∀q,fs[n]?=R q->∀r∈fs,r.d<=q.d+1
 un:(fs.map (·.p)).Nodup
 dn:∀j q,j<n->fs[j]?=R q->∀e∈es,Dn b c fs q e
section
variable{b c:Bd}{Y:bg YD}{fs:bg Pe}{n:Nat}
def Uy:BI b c Y [OA] 0:=by
 show#[W,λi q h f=>?_,λq a=>?_,Wx _ _,λq a r d=>?_,Wx _ _,λj q e=>a6 e (Xr _)]
 .match i,f,h with
  |i+1,_,h=>ext h
 .rw[U9.mp a];rfl
 .rw[U9.mp d];show VF _
def Dn.mono(h:Dn b c fs q e)(l:G Pe):Dn b c (fs++l) q e:=by let(a,r,d,x):=h;show#[a,r,Wv _ d,x]
def BI.old(B:BB b c Y)(h:BI b c Y fs n)(i:fs[n]?=R q)(j:e∈Y)(m:BW b c q.p e)(k:jj (fs.map jO) (kP (ko b c q.p e))=R t):Dn b c fs q e:=by
 let(r,a,l):=Im k;rw[U4]at a;cases z:fs[t]? with
 |none=>rw[z]at a;ext a
 |some u=>rw[z]at a;ext a;let d:=Ve z;let f:=B.rw (h.rw u d);let g:=B.nx (B.rw (h.rw q (Ve i))) j;show#[m,u,d,IA B f g (LD.kd_eqv _ _ (LD.keyD_kd (fP f)).1 (LD.keyD_kd (fP g)).1 l),h.up q i u d]
theorem Ar:∀{fs:G Pl} {d:D},jj fs d=S->∀q∈fs,UU.eqv q.p d=U0
 |[],_,_,_,f=>by ext f
 |a::r,d,h,q,f=>by
  unfold jj at h;by_cases e:UU.eqv a.p d=P
  .rw[av e]at h;ext h
  .rw[ax e]at h
   rcases Vm.mp f with rfl|f
   .show abM.mpr e
   .show Ar (by cases z:jj r d with|none=>rfl|some _=>rw[z]at h;ext h) q f
def BI.new(B:BB b c Y)(h:BI b c Y fs n)(l:fs[n]?=R q)(t:e∈Y)(k:BW b c q.p e)(d:jj (fs.map jO) (kP (ko b c q.p e))=S):BI b c Y (fs++[#[ko b c q.p e,nd n,c8 e,q.d+1]]) n:=by
 let w:=(UP.mp l).1;let v:=Ve l;let old:∀{i:Nat} {r:Pe},fs[i]?=R r->(fs++[#[ko b c q.p e,L3.nd n,c8 e,q.d+1]])[i]?=R r:=λx=>(U3 (UP.mp x).1).trans x;show#[old h.z,λi r a o=>?_,λr a=>?_,?_,λr a u g=>?_,?_,λj r E a f F=>?_]
 .by_cases A:i<fs.length
  .rw[U3 A]at a;let(j,u,J,I,H):=h.bk i r a o;show#[j,u,J,old I,H]
  .rw[Vr ()]at a
   let z:i - fs.length=0:=by let:=(UP.mp a).1;rw[YR]at this;ext
   rw[z]at a;ext a;show#[n,q,by ext,old l,W,W,e,t,W,W,k]
 .rcases VH.mp a with a|a
  .show h.rw r a
  .rw[U9.mp a];show#[q.p,e,h.rw q v,t,W]
 .rw[Y3];show#[h.mo,Wx _ _,λr a u g=>?_];rw[U9.mp g];show h.up q l r a
 .rw[U3 w,l]at a
  ext a;rcases VH.mp g with g|g
  .show h.up q l u g
  .rw[U9.mp g];show U1 _
 .rw[Vu,X6];show#[h.un,Wx _ _,λx C y m G=>?_];let(r,a,rfl):=Vs.mp C;let m:y=ko b c q.p e:=U9.mp m;let:=Ar d (jO r) (Vs.mpr #[r,a,W]);rw[show(jO r).p=kP (ko b c q.p e) by show kP r.p=_;rw[G,m],yn (fP (B.nx (B.rw (h.rw q v)) t))]at this;ext this
 .rw[U3 ()]at a;show(h.dn j r E a f F).mono _
def BI.next(h:BI b c Y fs n)(d:fs[n]?=R q)(hd:∀e∈Y,Dn b c fs q e):BI b c Y fs (n+1):=by
 show#[h.z,h.bk,h.rw,h.mo,λr a u m=>?_,h.un,λj r o a e i=>?_]
 .let g:=(UP.mp d);let f:=(UP.mp a);let:=Xh.mp h.mo n (n+1) g.1 f.1 ();rw[g.2,f.2]at this;let:=h.up q d u m;ext
 .by_cases l:j<n
  .show h.dn j r l a e i
  .let:j=n:=by ext
   subst this;rw[d]at a;ext a;show hd e i
theorem BI.all(h:BI b c Y fs n)(f:fs[n]?=R q):∀k p,k<=q.d->RW b c Y k p->∃r∈fs,r.p=p/\r.d<=k
 |0,p,_,d=>#[OA,Ve h.z,(show p=vJ from d).symm,U1 _]
 |k+1,p,J,#[u,e,C,he,d]=>by
  let(r,v,t,A):=h.all f k u () C;let(j,a):=V9.mp v;let o:j<n:=Decidable.byContradiction λz=>by
   let i:=(UP.mp f);let g:=(UP.mp a);by_cases e:n=j
   .subst e;rw[f]at a;ext a;ext
   .let:=Xh.mp h.mo n j i.1 g.1 ();rw[i.2,g.2]at this;ext
  let(_,w,m,l,y):=h.dn j r o a e he;show#[w,m,by rw[l,d,t],by ext]
def BI.apart(h:BI b c Y fs n)(a:fs[n]?=R q)(u:e∈Y)(d:¬BW b c q.p e):ApD b c Y q.d:=by
 show#[#[q.p,e,h.rw q (Ve a),u,d],λk p f y o t=>?_];let(r,w,v,A):=h.all a k p () o;let(j,g):=V9.mp w;let m:j<n:=Decidable.byContradiction λz=>by
  let l:=(UP.mp a);let i:=(UP.mp g);by_cases e:n=j
  .subst e;rw[a]at g;ext g;ext
  .let:=Xh.mp h.mo n j l.1 i.1 ();rw[l.2,i.2]at this;ext
 rw[<-v];show(h.dn j r m g f t).1
def BI.same(h:BI b c Y fs n)(d:fs.length<=n):AllP b c Y (fs.map (·.p))/\∀k p e,RW b c Y k p->e∈Y->BW b c p e:=by
 let m:∀q∈fs,∀e∈Y,Dn b c fs q e:=λq C e f=>by let(j,l):=V9.mp C;show h.dn j q (Vo (UP.mp l).1 d) l e f
 let o:∀k p,RW b c Y k p->∃r∈fs,r.p=p:=by
  intro k
  induction k with
  |zero=>show λp a=>#[OA,Ve h.z,(show p=vJ from a).symm]
  |succ k y=>rintro p ⟨u,e,A,f,a⟩;let(r,i,g):=y u A;let(_,w,v,t,_):=m r i e f;show#[w,v,by rw[t,a,g]]
 show#[#[h.un,λp a=>?_,λk p a=>?_],λk p e a f=>?_]
 .let(r,B,rfl):=Vs.mp a;show#[r.d,h.rw r B]
 .let(r,i,g):=o k p a;show Vs.mpr #[r,i,g]
 .let(r,i,g):=o k p a;rw[<-g];show(m r i e f).1
end
inductive Oc where
 |same
 |apart
 |many
def Rk(b c:Bd)(m:Int)(n:Nat)(q:Pe):G YD->G Pe->G Pe⊕Oc
 |[],fs=>.inl fs
 |e::r,fs=>if(bp b q.p.1 e).2=(bp c q.p.2 e).2 then(match jj (fs.map jO) (kP (ko b c q.p e))with
  |some _=>Rk b c m n q r fs
  |none=>if m<=(fs.length:Int)then .inr .many else Rk b c m n q r (fs++[#[ko b c q.p e,nd n,c8 e,q.d+1]]))else .inr .apart
def Rn(b c:Bd)(d:G YD)(m:Int):Nat->G Pe->Nat->Oc
 |0,_,_=>.same
 |f+1,fs,n=>match fs[n]? with
  |none=>.same
  |some q=>match Rk b c m n q d fs with
   |.inl a=>Rn b c d m f a (n+1)
   |.inr o=>o
def Rh(b c:Bd)(a:G YD)(m:Int):Oc:=Rn b c a m 1001 [OA] 0
theorem D4{b c:Bd}{d:G YD}{m:Int}(f:Nat)(fs:G Pe)(n:Nat):Rn b c d m (f+1) fs n=match fs[n]? with
  |none=>.same
  |some q=>match Rk b c m n q d fs with
   |.inl a=>Rn b c d m f a (n+1)
   |.inr o=>o:=W
section
variable{ρ:bC}{Z Y X:bh}{x:SV}
def pL(b:o ρ Z=.ok xs Y)(a:wQ F n xs Y=.ok x X):lH F n o ρ Z=.ok x X:=by ext lH;rw[b,eH,a];rfl
def KA(sn:G D)(a:D):frz 4 (Z++[.lst (sn.map .fz)]) (.tp [.rf Z.length,.fz a])=R (.tuple [.list sn,a],Z++[.dead]):=by
 let d:frz 3 (Z++[.lst (sn.map .fz)]) (.rf Z.length)=R (.list sn,Z++[.dead]):=by ext frz;rw[a9];dsimp only;rw[xP];dsimp only;rw[hJ]
 let b:sj (frz 3) (Z++[.lst (sn.map .fz)]) [.rf Z.length,.fz a]=R ([.list sn,a],Z++[.dead]):=by ext sj;rw[d];rfl
 ext frz;rw[show([AV.rf Z.length,AV.fz a].map AV.sv)=[.rf Z.length,.fz a]from rfl,b]
theorem EE(a:VB b)(sw:SW b s)(d:EV b e)(g:fa ρ Z=.ok (.fz (bD b)) Z)(c:fb ρ Z=.ok (.fz (eJ s)) Z)(f:fc ρ Z=.ok (.fz (c8 e)) Z):sd (lH STP.dQ 3 (aq fa (aq fb (aq fc aX)))) ρ Z=.ok (.fz (.tuple [.list ((bp b s e).2.map ja),eJ (bp b s e).1])) (Z++[.dead]):=
 tT (pL (aw g (aw c (aw f aV))) (Es a sw d)) (KA _ _)
end
def EJ:kq Z m fs (J++K)=kq Z m fs J++K:=by ext kq;rw[Vw];rfl
def M3:(kq Z m fs J).length=Z.length+3+J.length:=by ext kq;rw[UZ];show Z.length+(J.length+1+1+1)=_;ext
theorem To{n:Nat}{v:SV}(h:xs[n]?=R v):lA xs (n:Int)=R v:=xj () (by rw[Wl];show h)
def PX{b c:Bd}{e:bg YD}{fs:bg Pe}{n t i j k:Nat}{q:Pe}{m:Int}{Z:bh}(B:BI b c e fs t)(h:PSt i j k m (fs.map jO) Z)(H:fs[n]?=lD q):∃(J:bh) (row:bg D) (g:bg YD),dw [.rf i,.fz (nd n)] Z=.ok (.rf (Z.length+1)) (Z++J)/\J[1]?=lD (.lst (row.map .fz))/\row.length=q.d/\row=g.map c8/\Alk b c vJ g q.p/\∀x∈g,x∈e:=by
 let lt:=h.lt;rw[UR]at lt;let F:Out (dw [.rf i,.fz (nd n)] Z) (λv u=>∃row:bg D,v=.rf (Z.length+1)/\u=Z++[.lst (row.reverse.map .fz),.lst (row.map .fz)]/\row.length=q.d/\∃g:bg YD,row=g.map c8/\Alk b c vJ g q.p/\∀x∈g,x∈e) (λ_=>False):=by
  show rz W ?_;ext ir;show di (ρ1:=[lD (.rf i),-(nd n),lD (.rf Z.length),UO]) (eS (by ext:0)) W ?_;let L:∀{X:bh},PSt i j k m (fs.map jO) (Z++X):=λ{X}=>by let U:=(UP.mp h.o).1;let T:=(UP.mp h.f).1;let S:=(UP.mp h.n).1;show#[(U3 U).trans h.o,(U3 T).trans h.f,(U3 S).trans h.n,h.jk,h.ij,h.ik,h.lt]
  let K:∀{X:bh} {d:bC} {f:cZ} {a:Nat} {r:Pe},d[0]?=lD (lD (.rf i))->f d (Z++X)=.ok (.fz (nd a)) (Z++X)->fs[a]?=lD r->d6 (bH "Places" "found" (aA 0)) f d (Z++X)=.ok (.fz (yo (jO r))) (Z++X):=λ{X d f a r} h0 C A=>qS (jH (bf h0) L.o qu) C W L.f (To (by rw[U4,U4,U4,A];rfl));show di (x:=.fz (yo (jO q))) (ρ1:=[lD (.rf i),-(nd n),lD (.rf Z.length),-(yo (jO q))]) (K W (ah (ag W)) H) W ?_;show kN (ul (λs d u=>∃(row:bg D) (a:Nat) (r:Pe),d=[lD (.rf i),-(nd n),lD (.rf Z.length),-(yo (jO r))]/\u=Z++[.lst (row.map .fz)]/\fs[a]?=lD r/\row.length=s/\a+s<=n/\row.length+r.d=q.d/\∃g:bg YD,row=g.reverse.map c8/\Alk b c r.p g q.p/\∀x∈g,x∈e) 100000 () #[[],n,q,W,W,H,W,U1 _,W4 _,[],W,W,λx G=>by ext G] ?_);rintro s d u ⟨row,a,r,rfl,rfl,o,hs,han,hd,g,y1,y2,p⟩;let nl:=(UP.mp H).1;by_cases Y:a=0
  .subst Y;rw[B.z]at o;ext o;let I:cr (a8 (aY pE (aY bE (ae 3) (~~~1)) (pC .none))) [lD (.rf i),-(nd n),lD (.rf Z.length),-(yo (jO OA))] (Z++[.lst (row.map .fz)])=.ok U0 (Z++[.lst (row.map .fz)]):=cx (bX (aN (rv:=.fz (.bool U0)) (aN (rv:=.fz .none) (ag W) aG W W jo) aG W W W) W);show .inl #[_,I,?_];show nQ ((MF (xs:=row.map .fz) (bf W) a9).trans (by rw[UZ,Vw,<-ab3];rfl)) #[row.reverse,W,by rw[aeh];rfl,by rw[Xz];show hd,g,by rw[y1,<-ab3,aeh],y2,p]
  .let(N,E,C,A,w,h4,ev,O,R,Q,P):=B.bk a r o ();let I:cr (a8 (aY pE (aY bE (ae 3) (~~~1)) (pC .none))) [lD (.rf i),-(nd n),lD (.rf Z.length),-(yo (jO r))] (Z++[.lst (row.map .fz)])=.ok US (Z++[.lst (row.map .fz)]):=cx (bX (aN (rv:=.fz (.bool US)) (aN (rv:=.fz r.b) (ag W) aG W W jo) aG W W (by rw[w];rfl)) W);show .inr #[by ext,_,I,?_];let M:=uW (ρ:=[lD (.rf i),-(nd n),lD (.rf Z.length),-(yo (jO r))]) (fo:=aA 2) (fe:=aa (aY bE (ae 3) (~~~2))) (x:=.fz r.e) (bf W) (a9 (l:=Z) (x:=Cell.lst (row.map .fz))) (ah (aN (rv:=.fz r.e) (ag W) aG W W u9)) a9 (by rw[UR];ext);rw[hJ,show row.map SV.fz++[.fz r.e]=(row++[r.e]).map SV.fz by rw[Vu];rfl]at M;show zF (gB M) ?_;show xt (ρ1:=[lD (.rf i),-(nd n),lD (.rf Z.length),-(yo (jO E))]) (qE (K W (ah (aN (rv:=.fz (nd N)) (ag W) aG W W (by rw[<-w];show jo))) A) W) #[row++[r.e],N,E,W,W,A,by rw[UZ,hs];rfl,by ext,by rw[UZ];show row.length+1+E.d=_;ext,ev::g,by rw[y1,R,WE,Vu];rfl,#[P,by rw[<-Q];show y2],λx G=>(Vm.mp G).elim (λz=>by rw[z];show O) (p x)]
 let(v,u,C,row,rfl,rfl,w,g,y):=F.all;show#[_,row,g,C,W,w,y]
theorem OV{x y:Sn}(h:x.map ja=y.map ja):x=y:=(abv λp q e=>by
 injection e with e;injection e with e1 e;injection e with e2 _;injection e1 with e1;injection e2 with e2
 show Prod.ext (sI e1) ?_;revert e2;cases p.2<;>cases q.2
 .show λ_=>W
 .show λe=>a6 e (by left)
 .show λe=>a6 e (by left)
 .show λ_=>W).mp h
theorem GN{x:Sn}(h:YK x):LD.kds (x.map ja)=P:=sJ λp a=>by show LD.kd (.tuple [.str (kh p.1),.str (if p.2=P then "down" else "up")])=P;simp only[LD.kd,LD.kds];rw[og (h p a)];cases p.2<;>left
def IT{x y:Sn}(a:YK x)(b:YK y):nj (.list (x.map ja)) (.list (y.map ja))=-(.bool (decide (x≠y))):=by
 let e:UU.eqv (.list (x.map ja)) (.list (y.map ja))=decide (x=y):=by
  rw[UU.eqv];by_cases q:x=y
  .subst q;rw[aP W];let:=XQ _ (lW (xQ a));rw[UU.eqv]at this;show this
  .rw[a4 q]
   cases z:UU.eqvAll (x.map ja) (y.map ja)with
   |false=>rfl
   |true=>show a6 (OV (LD.kds_eqv _ _ (GN a) (GN b) z)) q
 ext nj;rw[xQ a,lW (xQ b),WC,av W,e];by_cases q:x=y
 .rw[aP q,a4 (not_not_intro q)];rfl
 .rw[a4 q,aP q];rfl
def P6(b:sh Z x=R C)(a:sh Z y=R o)(h:f C o=R (.ow ds)):m9 f x y Z=.ok (.rf Z.length) (Z++[.lst (ds.map .fz)]):=by ext m9;rw[b,a];show((RS.V4 Z (f C o)).bind λe d=>mq d e)=_;rw[h];rfl
abbrev A7(b c:Bd)(m:Int)(g:G YD)(l n:Nat)(f e d a:I SV):bC:=[-(bD b),-(bD c),-(.int m),-(.list (g.map c8)),R (.rf l),-(nd n),f,e,d,a]
def Uj(b c:Bd)(g:G YD)(m:Int)(f:bh)(v:SV)(a:bh):Prop:=
 (∃(i:Nat) (w:G YD) (e:YD) (q:PP),v=.tp [.fz (.str "apart"),.rf i]/\a[i]?=R (.lst (((w++[e]).map c8).map .fz))/\Alk b c vJ w q/\¬BW b c q e/\(∀x∈w++[e],x∈g)/\w.length<=1000/\Rh b c g m=.apart)\/
 ∃(i:Nat) (l:G PP),v=.tp [.fz (.str "same"),.rf i]/\a[i]?=R (.lst ((l.map kP).map .fz))/\AllP b c g l/\(∀k p e,RW b c g k p->e∈g->BW b c p e)/\(l.length:Int)<=m/\Rh b c g m=.same/\∀(t:Nat) (d:Cell),f[t]?=R d->a[t]?=R d
def Ux(b c:Bd)(a:G YD)(m:Int)(x:Xc):Prop:=x=TM m/\Rh b c a m=.many/\∃l:G PP,l.Nodup/\(∀p∈l,∃k,RW b c a k p)/\m<(l.length:Int)
def zT{b c:Bd}(s:VB b)(k:VB c){n:Nat}(V:b.n=n)(U:c.n=n)(h5:n<=5){m:Int}(m0:0<m)(D:m<=1000)(E:bh):Out (gD [.fz (bD b),.fz (bD c),.fz (.int m)] E) (Uj b c (oy n) m E) (Ux b c (oy n) m):=by
 let ell:(oy n).length<=1000:=by ext oy;rw[UZ,UZ,UR,UR,VS];show n+n+1<=_;ext
 let ev:=Pq V h5;let BB:BB b c (oy n):=#[s,k,jI V,jI U];generalize oy n=es at ell ev BB;show rz W ?_;ext Bt;let t1:cr (a8 (aY nj (aY bE (ae 0) (~~~0)) (aY bE (ae 1) (~~~0)))) [-(bD b),-(bD c),-(.int m),UO,UO,UO,UO,UO,UO,UO] E=.ok U0 E:=cx (bX (aN (rv:=.fz (.bool U0)) (aN (rv:=.fz (.int b.n)) (ag W) aG W W (Na b)) (aN (rv:=.fz (.int c.n)) (ag W) aG W W (Na c)) W W (by rw[V,U];show tD W)) W);show ig t1 (fO ?_);let e1:sd (aa (db g9 1 {ae 0})) [-(bD b),-(bD c),-(.int m),UO,UO,UO,UO,UO,UO,UO] E=.ok (.fz (.list (es.map c8))) (E++[.dead]):=by show tT (eS (bS (aj (ag W) aM) W W ev)) ?_;rw[sK a9,hJ]
 show di e1 W ?_;let hB:∀(t:Nat) (I:Cell),E[t]?=lD I->(E++[Cell.dead])[t]?=lD I:=λt I h=>by rw[U3 (UP.mp h).1];show h
 generalize E++[Cell.dead]=base at hB⊢;let mk:=Ra (C:= "Places") (F:=dA) (fa:=aq (aa (bZ {pC (.tuple [(.tuple []),.none,.none]),pC (.tuple [(.tuple []),.none,.none])})) (aq (aa (ae 2)) aX)) (ρ:=[-(bD b),-(bD c),-(.int m),-(.list (es.map c8)),UO,UO,UO,UO,UO,UO]) (Z:=base) (aw (ah (d:=kP vJ) (c9 (aj aG (aj aG aM)) W (UW W))) (aw (ah (ag W)) aV)) W;rw[Hq (fP (b:=b) (c:=c) #[iM b,iM c]) () D,ax ()]at mk;show di (ρ1:=[-(bD b),-(bD c),-(.int m),-(.list (es.map c8)),lD (.rf base.length),UO,UO,UO,UO,UO]) mk W ?_;show di (ρ1:=A7 b c m es base.length 0 UO UO UO UO) (ah aG) W ?_;show kN (ul (λn ρ Z=>∃(fs:bg Pe) (J:bh) (o6 o7 o8 o9:br SV),ρ=A7 b c m es base.length n o6 o7 o8 o9/\Z=kq base m (fs.map jO) J/\BI b c es fs n/\n<=fs.length/\(fs.length:Int)<=m/\Rn b c es m (1001 - n) fs n=Rh b c es m) 1000 () #[[OA],[],UO,UO,UO,UO,W,W,Uy,VF _,by show(1:Int)<=m;ext,W] ?_);rintro n ρ Z ⟨fs,J,o6,o7,o8,o9,rfl,rfl,bi,hle,hlm,hR⟩;obtain⟨Y,hfu⟩:∃Y,1001 - n=Y+1:=#[1000 - n,by ext];rw[hfu]at hR;let P:∀{fs:bg Pe} {J:bh},(fs.length:Int)<=m->PSt base.length (base.length+1) (base.length+2) m (fs.map jO) (kq base m (fs.map jO) J):=λ{fs J} h=>GW (by rw[UR];ext);let ff:∀{fs:bg Pe} {J:bh} {o6 o7 o8 o9:br SV},(fs.length:Int)<=m->bH "Places" "found" (aA 4) (A7 b c m es base.length n o6 o7 o8 o9) (kq base m (fs.map jO) J)=.ok (.rf (base.length+1)) (kq base m (fs.map jO) J):=λh=>jH (bf W) (P h).o qu;let O:nt dB (aq (bH "Places" "found" (aA 4)) aX) (A7 b c m es base.length n o6 o7 o8 o9) (kq base m (fs.map jO) J)=.ok (.fz (nd fs.length)) (kq base m (fs.map jO) J):=k8 (aw (ff hlm) aV) (by ext aJ;rw[cJ (P hlm).f];rfl) ((fq _).trans (by rw[UR,UR]));let w:=aW (b4 (ah (f:=ae 5) (ag W)) O (bL (n6 (n:Int) (fs.length:Int))));by_cases Y6:n<fs.length
 case neg=>
  rw[a4 ()]at w;show .inl #[_,w,?_];let S:=bi.same ();let is:=Bu (ff (o6:=o6) (o7:=o7) (o8:=o8) (o9:=o9) (J:=J) hlm) (P hlm).f;let U:=mz (gt:=fT 0) (ft:=iB) (fe:=aa (aY bE (ae 0) (~~~0))) (λq:Pe=>yo (jO q)) (λq=>SV.fz (kP q.p)) ((kq base m (fs.map jO) J).set (base.length+1) .dead) (λρ=>∃o,ρ=[o]) fs [UO] [] #[UO,W] (by rw[WG];ext) (λq _ ρ #[o,ho]=>by subst ho;show#[[-(yo (jO q))],W,W,ah (aN (rv:=.fz (kP q.p)) (ag W) aG W W io),_,W]);let cs:oJ 1 [] (lC (bH "Places" "found" (aA 4))) (fT 0) iB (aa (aY bE (ae 0) (~~~0))) (A7 b c m es base.length n o6 o7 o8 o9) (kq base m (fs.map jO) J)=.ok (.rf ((kq base m (fs.map jO) J).set (base.length+1) .dead).length) ((kq base m (fs.map jO) J).set (base.length+1) .dead++[.lst (fs.map λq=>SV.fz (kP q.p))]):=xY is (by rw[VG];show U);show nQ (zD (aw (ah aG) (aw cs aV)) (UW W) W W) (.inr #[_,fs.map (·.p),W,?_,S.1,S.2,by rw[UR];show hlm,by rw[<-hR,D4,aaK ()],λt I h=>?_])
  case refine_2=>
   let tl:=(UP.mp (hB t I h)).1;rw[U3 (by rw[V2,M3];ext),VX ()];ext kq;rw[U3 tl];show hB t I h
  rw[a9,VG,VG];rfl
 case pos=>
  rw[aP ()]at w;show .inr #[by ext,_,w,?_];obtain⟨q,a⟩:∃q,fs[n]?=lD q:=#[_,U7 Y6];let st:d6 (d6 (bH "Places" "found" (aA 4)) (aa (ae 5))) (aa (~~~0)) (A7 b c m es base.length n o6 o7 o8 o9) (kq base m (fs.map jO) J)=.ok (.fz (kP q.p)) (kq base m (fs.map jO) J):=df (dx:=yo (jO q)) (qS (ff hlm) (ah (d:=nd n) (ag W)) W (P hlm).f (To (by rw[U4,U4,U4,a];rfl))) (ah aG) io;show di (x:=.fz (kP q.p)) (ρ1:=A7 b c m es base.length n (-(kP q.p)) o7 o8 o9) st W ?_;show kN (JY (λi ρ Z=>∃(fs:bg Pe) (J:bh) (o7 o8 o9:br SV),ρ=A7 b c m es base.length n (-(kP q.p)) o7 o8 o9/\Z=kq base m (fs.map jO) J/\BI b c es fs n/\fs[n]?=lD q/\(fs.length:Int)<=m/\(∀e∈es.take i,Dn b c fs q e)/\(match Rk b c m n q (es.drop i) fs with|.inl fs'=>Rn b c es m Y fs' (n+1)|.inr o=>o)=Rh b c es m) (uB (mW (d:=.list (es.map c8)) (ag W) W W)) #[fs,J,o7,o8,o9,W,W,bi,a,hlm,(λe he=>by ext he),by rw[<-hR,D4,a];rfl] ?_ ?_)
  .clear w O st Y6 a hle bi hlm hR
   rintro i d ρ Z N ⟨fs,J,o7,o8,o9,rfl,rfl,bi,a,hlm,dn,hR⟩;rw[U4]at N;cases qe:es[i]? with
   |none=>rw[qe]at N;ext N
   |some e=>
    rw[qe]at N;cases Vi N;let G:=Ve qe;let dr:es.drop i=e::es.drop (i+1):=by let(il,ie):=UP.mp qe;rw[Xg il,ie]
    rw[dr]at hR;unfold Rk at hR;let L:=BB.rw (bi.rw q (Ve a));show#[A7 b c m es base.length n (-(kP q.p)) (-(c8 e)) o8 o9,_,W,?_];let s1:=EE (ρ:=A7 b c m es base.length n (-(kP q.p)) (-(c8 e)) o8 o9) (Z:=kq base m (fs.map jO) J) s L.1 (BB.eb e G) (fa:=aa (ae 0)) (fb:=aa (aY bE (ae 6) (~~~0))) (fc:=aa (ae 7)) (ah (ag W)) (ah (aN (rv:=.fz (eJ q.p.1)) (ag W) aG W W io)) (ah (ag W));rw[<-EJ]at s1;let k1:=pI s L.1 (BB.eb e G);let k2:=pI k L.2 (BB.ec e G);let H:kP (ko b c q.p e)=.tuple [eJ (bp b q.p.1 e).1,eJ (bp c q.p.2 e).1]:=W;let B:BW b c q.p e↔(bp b q.p.1 e).2=(bp c q.p.2 e).2:=Iff.rfl;show di (ρ1:=A7 b c m es base.length n (-(kP q.p)) (-(c8 e)) (-(.tuple [.list ((bp b q.p.1 e).2.map ja),eJ (bp b q.p.1 e).1])) o9) s1 W ?_;let R:=EE (ρ:=A7 b c m es base.length n (-(kP q.p)) (-(c8 e)) (-(.tuple [.list ((bp b q.p.1 e).2.map ja),eJ (bp b q.p.1 e).1])) o9) (Z:=kq base m (fs.map jO) (J++[.dead])) k L.2 (BB.ec e G) (fa:=aa (ae 1)) (fb:=aa (aY bE (ae 6) (~~~1))) (fc:=aa (ae 7)) (ah (ag W)) (ah (aN (rv:=.fz (eJ q.p.2)) (ag W) aG W W jo)) (ah (ag W));rw[<-EJ]at R;clear s1;generalize bp b q.p.1 e=u at R k1 H B hR;generalize bp c q.p.2 e=v at R k2 H B hR;show di (ρ1:=A7 b c m es base.length n (-(kP q.p)) (-(c8 e)) (-(.tuple [.list (u.2.map ja),eJ u.1])) (-(.tuple [.list (v.2.map ja),eJ v.1]))) R W ?_;generalize J++[Cell.dead]++[Cell.dead]=J;let Q:cr (a8 (aY nj (aY bE (ae 8) (~~~0)) (aY bE (ae 9) (~~~0)))) (A7 b c m es base.length n (-(kP q.p)) (-(c8 e)) (-(.tuple [.list (u.2.map ja),eJ u.1])) (-(.tuple [.list (v.2.map ja),eJ v.1]))) (kq base m (fs.map jO) J)=.ok (decide (u.2≠v.2)) (kq base m (fs.map jO) J):=cx (bX (aN (rv:=.fz (.bool (decide (u.2≠v.2)))) (aN (rv:=.fz (.list (u.2.map ja))) (ag W) aG W W io) (aN (rv:=.fz (.list (v.2.map ja))) (ag W) aG W W io) W W (IT k1 k2)) W);by_cases A:u.2=v.2
    .rw[a4 (not_not_intro A)]at Q
     rw[av A]at hR;let A:=B.mpr A;show ig Q (fO ?_);let l:=Ek (F:=cy) (fo:=aA 4) (fa:=aq (aa (bZ {aY bE (ae 8) (~~~1),aY bE (ae 9) (~~~1)})) (aq (aa (ae 5)) (aq (aa (ae 7)) aX))) (ρ:=A7 b c m es base.length n (-(kP q.p)) (-(c8 e)) (-(.tuple [.list (u.2.map ja),eJ u.1])) (-(.tuple [.list (v.2.map ja),eJ v.1]))) (Z:=kq base m (fs.map jO) J) (m:= "enter") (n:=4) (bf W) (P hlm).o wC (aw (ah (d:=kP (ko b c q.p e)) (by rw[H];show c9 (aj (aN (rv:=.fz (eJ u.1)) (ag W) aG W W jo) (aj (aN (rv:=.fz (eJ v.1)) (ag W) aG W W jo) aM)) W (UW W))) (aw (ah (ag W)) (aw (ah (ag W)) aV))) W;rw[wE (P hlm) (zK () D) D (fP (BB.nx L G))]at l;show Gz ?_;let tk:es.take (i+1)=es.take i++[e]:=by rw[Xq,qe];rfl
     cases qi:jj (fs.map jO) (kP (ko b c q.p e))with
     |some t=>
      rw[qi]at l hR;show .eq l #[fs,J,_,_,_,W,W,bi,a,hlm,λf g=>?_,hR];rw[tk]at g;rcases VH.mp g with g|g
      .show dn f g
      .rw[U9.mp g];show bi.old BB a G A qi
     |none=>
      rw[qi]at l hR;dsimp only at l hR;rw[UR]at l;let bn:=bi.new BB a G A qi;by_cases hm:m<=(fs.length:Int)
      .rw[av hm]at l hR
       show .eq l #[W,hR.symm,_,bn.un,λp hp=>?_,?_]
       .let(r,M,rfl):=Vs.mp hp;show#[r.d,bn.rw r M]
       .rw[UR,UZ];show m<((fs.length+1:Nat):Int);ext
      .rw[ax hm,C0]at l
       rw[ax hm]at hR;let T:=(UP.mp a).1;show .eq l #[fs++[#[ko b c q.p e,nd n,c8 e,q.d+1]],J,_,_,_,W,by rw[Vu];rfl,bn,(U3 T).trans a,?_,λf g=>?_,hR]
       .rw[UZ];show((fs.length+1:Nat):Int)<=m;ext
       .rw[tk]at g
        rcases VH.mp g with g|g
        .show(dn f g).mono _
        .rw[U9.mp g];show#[A,_,VQ _ U5,W,U1 _]
    .rw[aP A]at Q
     rw[ax A]at hR;let nal:¬BW b c q.p e:=λz=>A (B.mp z);show Bs Q ?_;let(K,row,wy,w1,w2,w3,y1,y2,y3):=PX bi (P (J:=J) hlm) a;let l:bu "Places" "way_to" dw 2 (aA 4) (aq (aa (ae 5)) aX) (A7 b c m es base.length n (-(kP q.p)) (-(c8 e)) (-(.tuple [.list (u.2.map ja),eJ u.1])) (-(.tuple [.list (v.2.map ja),eJ v.1]))) (kq base m (fs.map jO) J)=.ok (.rf ((kq base m (fs.map jO) J).length+1)) (kq base m (fs.map jO) J++K):=E6 (bf W) (P hlm).o (by rfl) (aw (ah (ag W)) aV) W w1;let g1:∀{X:bh},(kq base m (fs.map jO) J++K++X)[(kq base m (fs.map jO) J).length+1]?=lD (.lst (row.map .fz)):=λ{X}=>by rw[Vw,uv,U3 (UP.mp w2).1];show w2
     let dl:row.length<=1000:=by
      let:∀(t:Nat) (r:Pe),fs[t]?=lD r->r.d<=t:=by
       intro t
       induction t using Nat.strongRecOn with
       |ind t ih=>
        intro r M;by_cases t0:t=0
        .subst t0;rw[bi.z]at M;ext M;show U1 _
        .let(j,r',h1,h2,_,h4,_):=bi.bk t r M ();let:=ih j h1 r' h2;ext
      let:=this n q a;let T:=(UP.mp a).1;ext
     let ad:=b4 (f:=dM) l (eS (f:=dh {ae 7}) (ds:=[c8 e]) (by ext:0)) (P6 (cJ g1) (cJ a9) (Lq (by show row.length+1<=_;ext)));show yT (zD (aw (ah aG) (aw ad aV)) (UW W) W W) (.inl #[_,wy,e,q.p,W,by rw[a9,y1,show(wy++[e]).map c8=wy.map c8++[c8 e] by rw[Vu];rfl],y2,nal,λx hx=>(VH.mp hx).elim (y3 x) λz=>by rw[U9.mp z];show G,by rw[y1,UR]at dl;show dl,hR.symm])
  .rintro ρ Z ⟨fs,J,o7,o8,o9,rfl,rfl,bi,a,hlm,dn,hR⟩;rw[UR,W6]at dn;rw[UR,List.drop_length]at hR;let T:=(UP.mp a).1;show xt (P1 (Z3:=[]) (i:=5) (x:=.fz (nd n)) (y:=.fz (.int 1)) (z:=.fz (nd (n+1))) W (ah aG) (bL W)) #[fs,J,_,_,_,_,W,W,bi.next a dn,T,hlm,by rw[show 1001 - (n+1)=Y by ext];show hR]
def wk(w:Str)(k:Nat):D:=.tuple [.str w,nd k]
def xm{b:Bd}{n:Nat}(c:b.n=n)(v:n<=5):cj [bD b]=.ok (.ow ((oy n).map c8)):=by
 let z:lm [.int b.n]=R (cb (Vc n)):=by rw[c];show ku ()
 let A:=Na b;let y:dM (.list ((Vc n).map (wk "down")++(Vc n).map (wk "up"))) (.list [c8 .turn])=R (.ow ((oy n).map c8)):=(Lq (by rw[UZ,UR,UR,VS];show _+1<=_;ext)).trans (by ext oy;rw[Vu,Vu,VG,VG];rfl);show ii W ?_;show dj (by ext:0) W W ?_;show uz (λi C=>∃f a:I PV,C=[zf (bD b),zo (((["down","up"]:G Str).take i).flatMap λw=>(Vc n).map (wk w)),f,a]) (mW (by ext:0) W W) #[S,S,W] ?_ ?_
 .rintro i d C J ⟨f,a,rfl⟩
  obtain⟨w,h,u⟩:∃w,(["down","up"]:G Str)[i]?=R w/\d=.str w:=by
   let:i=0\/i=1:=by let:=(UP.mp J).1;simp at this;ext
   rcases this with rfl|rfl
   .show#["down",W,(Vi J).symm]
   .show#["up",W,(Vi J).symm]
  subst u;let nx:((["down","up"]:G Str).take (i+1)).flatMap (λw=>(Vc n).map (wk w))=((["down","up"]:G Str).take i).flatMap (λw=>(Vc n).map (wk w))++(Vc n).map (wk w):=by rw[Xq,h,List.flatMap_append];simp
  let B:i<2:=(UP.mp h).1;let pl:((["down","up"]:G Str).take i).flatMap (λw=>(Vc n).map (wk w))=[]\/((["down","up"]:G Str).take i).flatMap (λw=>(Vc n).map (wk w))=(Vc n).map (wk "down"):=by
   let:i=0\/i=1:=by ext
   rcases this with rfl|rfl
   .show .inl W
   .show .inr (by simp)
  rw[nx];generalize ((["down","up"]:G Str).take i).flatMap (λw=>(Vc n).map (wk w))=pre at pl;let o:pre.length<=5:=by
   rcases pl with rfl|rfl
   .show VF _
   .rw[UR,VS];show v
  show#[[zf (bD b),zo pre,zf (.str w),a],W,?_];show JP (λj C=>∃a:I PV,C=[zf (bD b),zo (pre++(Vc j).map (wk w)),zf (.str w),a]) (by ext:0) #[a,by rw[List.range_zero,Yz,Vz]] ?_ ?_
  .rintro j d C t ⟨a,rfl⟩
   let(k,q,rfl):=sO t;obtain⟨g,r⟩:k=j/\j<n:=by let(m,l):=UP.mp q;rw[aeO]at l;rw[VS]at m;show#[l.symm,m]
   subst g;show#[[zf (bD b),zo (pre++(Vc k).map (wk w)),zf (.str w),zf (nd k)],W,?_];let p:(pre++(Vc k).map (wk w)).length<1000000:=by rw[UZ,UR,VS];ext
   show sY (xF W (c9 (aj (ag W) (aj (ag W) aM)) W (UW W)) W W p (by rw[afR,Vu,<-Vw];rfl)) #[_,W]
  .rintro C ⟨a,rfl⟩;rw[gY,VS];show#[_,_,W]
 .rintro C ⟨f,a,rfl⟩
  let e:((["down","up"]:G Str).take 2).flatMap (λw=>(Vc n).map (wk w))=(Vc n).map (wk "down")++(Vc n).map (wk "up"):=by simp
  show Go (dH _ [zf (bD b),zo (((["down","up"]:G Str).take 2).flatMap λw=>(Vc n).map (wk w)),f,a]) _ _ _;rw[e];show fw (aN (kS W) (ro (aj (c9 (aj aG (aj aG aM)) W (UW W)) aM) W (UW W)) W W y) W W
section
variable{X:bC}{Z U Y:bh}{y:SV}{T fb:cZ}{l:bg AV}{a:AV}{i:Int}
def g7(e:T X Z=.ok (.tp l) U)(d:fb X U=.ok y Y)(c:FU y=R i)(b:lA l i=R a):L10.d6 T fb X Z=.ok a.sv Y:=by ext L10.d6;rw[e,eH,d,eH];ext Nm;rw[c];show RS.V4 Y ((lA l i).map AV.sv)=_;rw[b];rfl
end
structure Pk where
 p:PP
 k:Nat
def A6(fs:G Pk):G (D×D):=fs.map λq=>(kP q.p,nd q.k)
def AC(fs:G Pk):G D:=fs.map λq=>kP q.p
structure LI(b c:Bd)(es:G YD)(fs:G Pk)(n:Nat):Prop where
 z:fs[0]?=R #[vJ,0]
 rw:∀q∈fs,RW b c es q.k q.p
 un:(fs.map (·.p)).Nodup
 dn:∀(j:Nat) (q:Pk),j<n->fs[j]?=R q->∀e∈es,∃r∈fs,r.p=ko b c q.p e
section
variable{b c:Bd}{Y:bg YD}{fs:bg Pk}{n:Nat}
theorem xJ(B:BB b c Y){p q:PP}(d:PW b c p)(a:PW b c q):UU.eqv (kP p) (kP q)=P↔p=q:=
 #[λh=>IA B d a (LD.kd_eqv _ _ (LD.keyD_kd (fP d)).1 (LD.keyD_kd (fP a)).1 h),λh=>by rw[h];show yn (fP a)]
def LI.no(B:BB b c Y)(h:∀q∈fs,RW b c Y q.k q.p){p:PP}(f:PW b c p)(i:¬∃r∈fs,r.p=p):((A6 fs).find? λg=>UU.eqv g.1 (kP p))=S:=by rw[abt];intro x d;let(r,a,rfl):=Vs.mp d;show λe=>i #[r,a,(xJ B (B.rw (h r a)) f).mp e]
theorem LI.yes(B:BB b c Y):∀{fs:G Pk},(∀q∈fs,RW b c Y q.k q.p)->(fs.map (·.p)).Nodup->∀{q:Pk},q∈fs->iA (A6 fs) (kP q.p)=R (nd q.k)
 |[],_,_,_,g=>by ext g
 |a::r,h,i,q,g=>by
  rw[Vf,Wf]at i;show((((kP a.p,nd a.k)::A6 r).find? λd=>UU.eqv d.1 (kP q.p)).map (·.2))=_;rw[VY];by_cases e:a.p=q.p
  .rw[(xJ B (B.rw (h a U5)) (B.rw (h q g))).mpr e]
   rcases Vm.mp g with rfl|g
   .rfl
   .show a6 (Vs.mpr #[q,g,e.symm]) i.1
  .rw[abM.mpr λz=>e ((xJ B (B.rw (h a U5)) (B.rw (h q g))).mp z)]
   rcases Vm.mp g with rfl|g
   .show a6 W e
   .show LI.yes B (λx f=>h x (U6 _ f)) i.2 g
theorem UE:LI b c Y [#[vJ,0]] 0:=#[W,λq a=>by rw[U9.mp a];rfl,Wx _ _,λj q d=>a6 d (Xr _)]
def LI.new(h:LI b c Y fs n){q:Pk}(g:fs[n]?=R q)(v:e∈Y)(k:¬∃r∈fs,r.p=ko b c q.p e):LI b c Y (fs++[#[ko b c q.p e,q.k+1]]) n:=by
 let A:=(UP.mp g).1;let i:=(UP.mp h.z).1;show#[(U3 i).trans h.z,λr a=>?_,?_,λj r o a f t=>?_]
 .rcases VH.mp a with a|a
  .show h.rw r a
  .rw[U9.mp a];show#[q.p,e,h.rw q (Ve g),v,W]
 .rw[Vu,X6];show#[h.un,Wx _ _,λx l y d w=>?_];let(r,a,rfl):=Vs.mp l;let d:y=ko b c q.p e:=U9.mp d;show k #[r,a,w.trans d]
 .rw[U3 ()]at a;let(u,m,z):=h.dn j r o a f t;show#[u,Wv _ m,z]
def LI.next(h:LI b c Y fs n){q:Pk}(g:fs[n]?=R q)(hd:∀e∈Y,∃r∈fs,r.p=ko b c q.p e):LI b c Y fs (n+1):=by
 show#[h.z,h.rw,h.un,λj r i a e d=>?_];by_cases f:j<n
 .show h.dn j r f a e d
 .let:j=n:=by ext
  subst this;rw[g]at a;ext a;show hd e d
def LI.all(h:LI b c Y fs n)(s:fs.length<=n):AllP b c Y (fs.map (·.p)):=by
 show#[h.un,λp a=>?_,λk=>?_]
 .let(r,m,rfl):=Vs.mp a;show#[r.k,h.rw r m]
 .induction k with
  |zero=>show λp a=>Vs.mpr #[#[vJ,0],Ve h.z,(show p=vJ from a).symm]
  |succ k i=>rintro p ⟨u,e,l,o,a⟩;let(r,t,q):=Vs.mp (i u l);let(j,d):=V9.mp t;let(w,g,f):=h.dn j r (Vo (UP.mp d).1 s) d e o;show Vs.mpr #[w,g,by rw[f,a,q]]
end
def im(Z:bh)(fs:G Pk)(J:bh):bh:=Z++(Cell.lst ((AC fs).map .fz):: .dd (A6 fs)::J)
def EY:im Z fs (J++K)=im Z fs J++K:=by ext im;rw[Vw];rfl
abbrev E8(b c:Bd)(m:Int)(l n:Nat)(d a:I SV):bC:=[-(bD b),-(bD c),-(.int m),R (.rf l),R (.rf (l+1)),-(nd n),d,a]
def Gd{b c:Bd}(D:VB b)(s:VB c){n:Nat}(V:b.n=n)(hc:c.n=n)(h5:n<=5){m:Int}(m0:0<m)(m4:m<=1000)(g:bh):Out (d9 [.fz (bD b),.fz (bD c),.fz (.int m)] g) (λv k=>∃(fs:bg Pk) (J:bh),v=.tp [.rf g.length,.rf (g.length+1)]/\k=im g fs J/\(∀q∈fs,RW b c (oy n) q.k q.p)/\(fs.map (·.p)).Nodup/\(fs.length:Int)<=m+11/\(m<(fs.length:Int)\/AllP b c (oy n) (fs.map (·.p)))) (λ_=>False):=by
 let ell:(oy n).length<=11:=by ext oy;rw[UZ,UZ,UR,UR,VS];show n+n+1<=_;ext
 let ev:=xm V h5;let B:BB b c (oy n):=#[D,s,jI V,jI hc];generalize oy n=es at ell ev B;show rz W ?_;ext kQ;show di (eS (show _=Res.ok (PV.ow [kP vJ],_) by ext:0)) W ?_;let kk:d6 (aA 3) (aa (~~~0)) [-(bD b),-(bD c),-(.int m),lD (.rf g.length),UO,UO,UO,UO] (g++[.lst [.fz (kP vJ)]])=.ok (.fz (kP vJ)) (g++[.lst [.fz (kP vJ)]]):=qS (bf W) (ah aG) W a9 (To W);let kd:JA (d6 (aA 3) (aa (~~~0))) (aa (~~~0)) [-(bD b),-(bD c),-(.int m),lD (.rf g.length),UO,UO,UO,UO] (g++[.lst [.fz (kP vJ)]])=.ok (.rf (g.length+1)) (im g [#[vJ,0]] []):=by ext JA;rw[kk,lV,eH,ah aG,lV,eH,lJ (fP (b:=b) (c:=c) #[iM b,iM c]),UZ];show RS.ok _ ((g++[_])++[_])=_;rw[Vw];rfl
 show di kd W ?_;show di (ah aG) W ?_;show kN (ul (λn ρ Z=>∃(fs:bg Pk) (J:bh) (o j:br SV),ρ=E8 b c m g.length n o j/\Z=im g fs J/\LI b c es fs n/\n<=fs.length/\(fs.length:Int)<=m+11) 1001 () #[[#[vJ,0]],[],UO,UO,W,W,UE,VF _,by show((1:Nat):Int)<=_;ext] ?_);rintro n ρ Z ⟨fs,J,o,j,rfl,rfl,li,hle,hl2⟩;let g0:∀{fs:bg Pk} {J:bh},(im g fs J)[g.length]?=lD (.lst ((AC fs).map .fz)):=λ{fs J}=>uv (t:=0);let g1:∀{fs:bg Pk} {J:bh},(im g fs J)[g.length+1]?=lD (.dd (A6 fs)):=λ{fs J}=>uv (t:=1);let E:nt dB (aq (aA 3) aX) (E8 b c m g.length n o j) (im g fs J)=.ok (.fz (nd fs.length)) (im g fs J):=k8 (aw (bf W) aV) (by ext aJ;rw[cJ g0];rfl) ((fq _).trans (by ext AC;rw[UR]));let F:=aW (b4 (ah (f:=ae 5) (ag W)) E (bL (n6 (n:Int) (fs.length:Int))));let I:=aW (b4 E (ah (f:=ae 2) (ag W)) (bL (Jw (fs.length:Int) m)));let C:(m<(fs.length:Int)\/AllP b c es (fs.map (·.p)))->mO (fR (kg (aq (aA 3) (aq (aA 4) aX))) (E8 b c m g.length n o j) (im g fs J)) (λ_ k=>∃(fs:bg Pk) (J:bh),SV.fz .none=.tp [.rf g.length,.rf (g.length+1)]/\k=im g fs J/\(∀q∈fs,RW b c es q.k q.p)/\(fs.map (·.p)).Nodup/\(fs.length:Int)<=m+11/\(m<(fs.length:Int)\/AllP b c es (fs.map (·.p)))) (λv k=>∃(fs:bg Pk) (J:bh),v=.tp [.rf g.length,.rf (g.length+1)]/\k=im g fs J/\(∀q∈fs,RW b c es q.k q.p)/\(fs.map (·.p)).Nodup/\(fs.length:Int)<=m+11/\(m<(fs.length:Int)\/AllP b c es (fs.map (·.p)))) (λ_=>False):=λh=>nQ (zD (aw (bf W) (aw (bf W) aV)) (UW W) W W) #[fs,J,W,W,li.rw,li.un,hl2,h];by_cases Y6:n<fs.length
 case neg=>
  rw[a4 ()]at F;show .inl #[_,gK F,C (.inr (li.all ()))]
 rw[aP ()]at F;by_cases A:(fs.length:Int)<=m
 case neg=>
  rw[a4 A]at I;show .inl #[_,gO F I,C (.inl ())]
 rw[aP A]at I;show .inr #[by ext,_,gO F I,?_];clear C;obtain⟨q,w⟩:∃q,fs[n]?=lD q:=#[_,U7 Y6];let K:∀{Z:bh},pc (lw (db cj 1 {ae 0})) (E8 b c m g.length n o j) Z=.ok (es.map c8) Z:=uB (mW (bS (aj (ag W) aM) W W ev) W W);show kN (JY (λi ρ Z=>∃(fs:bg Pk) (J:bh) (o j:br SV),ρ=E8 b c m g.length n o j/\Z=im g fs J/\LI b c es fs n/\fs[n]?=lD q/\(fs.length:Int)<=m+i/\∀e∈es.take i,∃r∈fs,r.p=ko b c q.p e) K #[fs,J,o,j,W,W,li,w,by ext,λe he=>by ext he] ?_ ?_)
 .clear F I E Y6 A hl2 hle w li K
  rintro i d ρ Z G ⟨fs,J,o,j,rfl,rfl,li,w,hl,dn⟩;rw[U4]at G;cases qe:es[i]? with
  |none=>rw[qe]at G;ext G
  |some e=>
   rw[qe]at G;cases Vi G;let O:=Ve qe;let il:=(UP.mp qe).1;let qm:=Ve w;let L:=B.rw (li.rw q qm);let pn:=B.nx L O;show#[E8 b c m g.length n (-(c8 e)) j,_,W,?_];let Q:∀{X:bh} {o j:br SV},d6 (aA 3) (aa (ae 5)) (E8 b c m g.length n o j) (im g fs X)=.ok (.fz (kP q.p)) (im g fs X):=λ{X o j}=>qS (bf W) (ah (d:=nd n) (ag W)) W g0 (To (by ext AC;rw[U4,U4,w];rfl));let S:=Es D L.1 (B.eb e O) (Z:=im g fs J);rw[<-EY]at S;let R:=Es s L.2 (B.ec e O) (Z:=im g fs (J++[.lst (((bp b q.p.1 e).2.map ja).map .fz)]));rw[<-EY]at R
   let be:sd (kg (aq (d6 (lH STP.dQ 3 (aq (aa (ae 0)) (aq (d6 (d6 (aA 3) (aa (ae 5))) (aa (~~~0))) (aq (aa (ae 6)) aX)))) (aa (~~~1))) (aq (d6 (lH STP.dQ 3 (aq (aa (ae 1)) (aq (d6 (d6 (aA 3) (aa (ae 5))) (aa (~~~1))) (aq (aa (ae 6)) aX)))) (aa (~~~1))) aX))) (E8 b c m g.length n (-(c8 e)) j) (im g fs J)=.ok (.fz (kP (ko b c q.p e))) (im g fs (J++[.lst (((bp b q.p.1 e).2.map ja).map .fz)]++[.lst (((bp c q.p.2 e).2.map ja).map .fz)])):=
    tT (x:=.fz (kP (ko b c q.p e))) (uq (ds:=[eJ (bp b q.p.1 e).1,eJ (bp c q.p.2 e).1]) (aw (g7 (i:=1) (a:=.fz (eJ (bp b q.p.1 e).1)) (pL (xs:=[.fz (bD b),.fz (eJ q.p.1),.fz (c8 e)]) (aw (ah (ag W)) (aw (df Q (ah aG) io) (aw (ah (ag W)) aV))) S) (ah (d:=.int 1) aG) W W) (aw (g7 (i:=1) (a:=.fz (eJ (bp c q.p.2 e).1)) (pL (xs:=[.fz (bD c),.fz (eJ q.p.2),.fz (c8 e)]) (aw (ah (ag W)) (aw (df Q (ah aG) jo) (aw (ah (ag W)) aV))) R) (ah (d:=.int 1) aG) W W) aV)) (UW W)) W
   generalize J++[.lst (((bp b q.p.1 e).2.map ja).map .fz)]++[.lst (((bp c q.p.2 e).2.map ja).map .fz)]=J' at be;clear S R;show di (ρ1:=E8 b c m g.length n (-(c8 e)) (-(kP (ko b c q.p e)))) be W ?_;let hk:=lJ (fP pn);let P:∀{Z:bh},aa (ae 7) (E8 b c m g.length n (-(c8 e)) (-(kP (ko b c q.p e)))) Z=.ok (.fz (kP (ko b c q.p e))) Z:=ah (ag W);let gi:=x8 (neg:=US) (fd:=aA 4) P (bf W) hk (g1 (fs:=fs) (J:=J'));let N:=aW gi;let tk:es.take (i+1)=es.take i++[e]:=by rw[Xq,qe];rfl
   by_cases old:∃r∈fs,r.p=ko b c q.p e
   .let(r,M,er):=old
    let y:=LI.yes B li.rw li.un M;rw[er]at y;rw[y]at N;show .eq (jg N iH) #[fs,J',_,_,W,W,li,w,by ext,λf u=>?_];rw[tk]at u;rcases VH.mp u with u|u
    .show dn f u
    .rw[U9.mp u];show#[r,M,er]
   .let no:=LI.no B li.rw pn old
    let Y:=(UP.mp w).1;let g2:iA (A6 fs) (kP (ko b c q.p e))=UO:=by ext iA;rw[no];rfl
    rw[g2]at N;let gv:=b4 (f:=dM) (zj (fd:=aA 4) (fk:=d6 (aA 3) (aa (ae 5))) (ρ:=E8 b c m g.length n (-(c8 e)) (-(kP (ko b c q.p e)))) (bf W) (Q (X:=J')) (lJ (fP L)) g1 (LI.yes B li.rw li.un qm)) (ah (f:=pC (.int 1)) aG) (bL (gw (q.k:Int) 1));let T:=Ak (fk:=aa (ae 7)) (fd:=aA 4) gv (bf W) P hk g1 (by ext A6;rw[UR];ext);let U:jX (A6 fs) (kP (ko b c q.p e)) (.int ((q.k:Int)+1))=A6 (fs++[#[ko b c q.p e,q.k+1]]):=by ext jX;rw[no];show A6 fs++_=_;ext A6;rw[Vu];rfl
    rw[U]at T;let e2:(im g fs J').set (g.length+1) (.dd (A6 (fs++[#[ko b c q.p e,q.k+1]])))=g++(Cell.lst ((AC fs).map .fz):: .dd (A6 (fs++[#[ko b c q.p e,q.k+1]]))::J'):=by ext im;rw[FL];rfl
    rw[e2]at T;let H:(g++(Cell.lst ((AC fs).map .fz):: .dd (A6 (fs++[#[ko b c q.p e,q.k+1]]))::J'))[g.length]?=lD (.lst ((AC fs).map .fz)):=uv (t:=0);let ap:=uW (fo:=aA 3) (fe:=aa (ae 7)) (ρ:=E8 b c m g.length n (-(c8 e)) (-(kP (ko b c q.p e)))) (x:=.fz (kP (ko b c q.p e))) (bf W) H P H (by ext AC;rw[UR,UR];ext);show .eq (gl N (dk T (gB ap))) #[fs++[#[ko b c q.p e,q.k+1]],J',_,_,W,?_,li.new w O old,(U3 Y).trans w,?_,λf u=>?_]
    .let:=FL (l:=g) (r:=Cell.lst ((AC fs).map .fz):: .dd (A6 (fs++[#[ko b c q.p e,q.k+1]]))::J') (t:=0) (c:=.lst ((AC fs).map .fz++[.fz (kP (ko b c q.p e))]));show Eq.trans this ?_;unfold im AC;rw[Vu,Vu];rfl
    .rw[UZ];show((fs.length+1:Nat):Int)<=m+((i+1:Nat):Int);ext
    .rw[tk]at u
     rcases VH.mp u with u|u
     .let(r,M,z):=dn f u;show#[r,Wv _ M,z]
     .rw[U9.mp u];show#[_,VQ _ U5,W]
 .rintro ρ Z ⟨fs,J,o,j,rfl,rfl,li,w,hl,dn⟩;rw[UR]at hl dn;rw[W6]at dn;let Y:=(UP.mp w).1;show xt (ρ1:=E8 b c m g.length (n+1) o j) (qE (ah (d:=nd (n+1)) (aN (rv:=.fz (nd (n+1))) (ag W) aG W W (gw (n:Int) 1))) W) #[fs,J,o,j,W,W,li.next w dn,Y,by ext]
def yz(ds:G D)(k:Nat)(x:D)(g:k<ds.length)(l:ds.length<=1000):eB [.tuple ds,nd k,x]=.ok (.fz (.tuple (ds.set k x))):=by
 let a:min k ds.length=k:=aaJ ();let b:min (k+1) ds.length=k+1:=aaJ ();let f:Rm (.tuple ds) S (R (k:Int))=-(.tuple (ds.take k)):=by show(if gn ds.length S (R (k:Int))=P then S else R (RV.fz (.tuple (nV ds S (R (k:Int))))))=_;rw[ax (by ext gn;rw[HT.sIx_nat,a,HT.sIx_none,a4 ()];show Vg)];ext nV;rw[HT.sIx_nat,a,HT.sIx_none,acD,adJ]
 let d:Rm (.tuple ds) (R ((k:Int)+1)) S=-(.tuple (ds.drop (k+1))):=by show(if gn ds.length (R ((k+1:Nat):Int)) S=P then S else R (RV.fz (.tuple (nV ds (R ((k+1:Nat):Int)) S))))=_;rw[ax (by ext gn;rw[HT.sIx_nat,b,HT.sIx_none,a4 ()];show Vg)];ext nV;rw[HT.sIx_nat,b,HT.sIx_none,<-YT,W6]
 let j:z7 (.tuple (ds.take k)) (.tuple [x])=-(.tuple (ds.take k++[x])):=by
  cases e:ds.take k with
  |nil=>rfl
  |cons y r=>show(if y::r≠[]/\(y::r).length+[x].length<=1000000 then R (RV.fz (.tuple (y::r++[x])))else S)=_;let:=et Y1 e;rw[V5,a]at this;rw[av #[ab1 _ _,by rw[<-this];show k+1<=_;ext]]
 let i:z7 (.tuple (ds.take k++[x])) (.tuple (ds.drop (k+1)))=-(.tuple (ds.set k x)):=by
  rw[List.set_eq_take_append_cons_drop,av g,show ds.take k++x::ds.drop (k+1)=ds.take k++[x]++ds.drop (k+1) by rw[Vw];rfl];let z:(ds.take k++[x]).length=k+1:=by rw[UZ,V5,a];rfl
  let w:(ds.drop (k+1)).length<=1000:=by rw[YT];ext
  generalize ds.drop (k+1)=t at w;cases e:ds.take k++[x]with
  |nil=>rw[e]at z;ext z
  |cons y r=>rw[e]at z;show(if y::r≠[]/\(y::r).length+t.length<=1000000 then R (RV.fz (.tuple (y::r++t)))else S)=_;rw[av #[ab1 _ _,by ext]]
 let h:z7 (nd k) (.int 1)=-(.int ((k:Int)+1)):=W;show ii (ρ:=[zf (.tuple ds),zf (nd k),zf x]) W (fw (rv:=.fz (.tuple (ds.set k x))) (aN (rv:=.fz (.tuple (ds.set k x))) (aN (rv:=.fz (.tuple (ds.take k++[x]))) (Dq (rv:=.fz (.tuple (ds.take k))) (ag W) p7 (pi (ag W) W) W f) (c9 (ds:=[x]) (aj (ag W) aM) W (UW W)) W W j) (Dq (rv:=.fz (.tuple (ds.drop (k+1)))) (ag W) (pi (aN (rv:=.fz (.int ((k:Int)+1))) (ag W) aG W W h) W) p7 W d) W W i) W W)
def GG{m:Mn}(h:LB m):cY (mD m) (.tuple [.str "below"])=-(.bool m.isB):=by
 let o:lj (mD m)=P:=uC (Bh h) (VT (show UU.depth (mD m)<=1 by ext m<;>show UW W) ());let a:UU.canLay0 (.tuple [.str "below"])=P:=by left
 ext cY;rw[o,a,WC,av W];congr 3;cases z:UU.eqv (mD m) (.tuple [.str "below"])with
 |true=>let:=Ci (n:=.below) (LD.kd_eqv _ _ (Gv h) (by left) z);rw[this];rfl
 |false=>
  cases m with
  |below=>show a6 z (by left)
  |_=>rfl
def Ho{b:Bd}(d:VB b){L k:Nat}{l:G Mn}{m m':Mn}(f:b.ls[L]?=R l)(p:l[k]?=R m)(z:VM L b.ls.length m')(h0:L=0->m'.isL=m.isL):VB {b with ls:=b.ls.set L (l.set k m')}:=by
 let B:=(UP.mp f).1;let t:=(UP.mp p).1;show#[d.n1,d.n5,by rw[V2];show d.l1,by rw[V2];show d.l3,λi q g=>?_,d.c4,λx w=>?_,d.cu,d.w1,d.w4]
 .show _/\∀m∈q,VM i ((b.ls.set L (l.set k m')).length:Nat) m
  rw[V2];by_cases e:i=L
  .subst e
   rw[Wg B]at g;ext g;let:=d.vl i l f;show#[by rw[V2];show this.1,λy u=>?_];rcases List.mem_or_eq_of_mem_set u with h|rfl
   .show this.2 y h
   .show z
  .rw[VX (ef e)]at g;show d.vl i q g
 .let v:=d.vc x w
  show#[v.1,v.2.1,λj A=>?_,v.2.2.2];let o:=v.2.2.1 j A;show A4 ((b.ls.set L (l.set k m')).headD []) j=P;cases e:b.ls with
  |nil=>rw[e]at f;ext f
  |cons a r=>
   rw[e]at o f;cases L with
   |zero=>
    cases Vi f;show A4 (l.set k m') j=P;let o:A4 l j=P:=o;unfold A4 at o⊢;by_cases n:j=k
    .subst n;rw[Wg t];rw[p]at o;show(h0 W).trans o
    .rw[VX (ef n)];show o
   |succ L=>show o
abbrev S5(a:G Int)(b:Bd)(d:Int)(w L k:Nat)(m:Mn)(o:I PV):bA:=[zf (.list (a.map .int)),zf (bD b),zf (.int b.n),zf (.tuple (b.ls.map eN)),zf (.tuple (b.cs.map eP)),zf (.int b.wt),zf (.int d),zf (nd w),zf (nd L),zf (nd k),zf (mD m),o]
def HL(j:bg Int){b:Bd}(d:VB b){n:Nat}(s:b.n=n)(D:n=1\/n=2\/n=3):∃c:Bd,VB c/\c.n=n/\fE [.list (j.map .int),bD b]=.ok (.fz (bD c)):=by
 let(g,e0):=pp j 12;let e0:bQ [.list (j.map .int),.int 12]=.ok (.fz (.int g)):=e0;let(w,U,hw):=fG g 70 8 () ();let U:aR [.int g,.int 70,.int 8]=.ok (.fz (nd w)):=U;let ll:=d.l1;let l3:=d.l3;let(L,Z,hL):=fG g 71 b.ls.length () ();let Z:aR [.int g,.int 71,nd b.ls.length]=.ok (.fz (nd L)):=Z;let(k,Y,hk):=fG g 72 n () ();let Y:aR [.int g,.int 72,.int b.n]=.ok (.fz (nd k)):=by rw[s];show Y
 obtain⟨l,G⟩:∃l,b.ls[L]?=lD l:=#[_,U7 hL];let K:=d.vl L l G;let kl:k<l.length:=by let:=K.1;ext
 obtain⟨m,hm⟩:∃m,l[k]?=lD m:=#[_,U7 kl];let J:=K.2 m (Ve hm);let(r,er,hr):=fG g 73 3 () ();let er:aR [.int g,.int 73,.int 3]=.ok (.fz (nd r)):=er;let(t,S,X):=Ct (z:= "abz") [0,1,25] (by left) (by left) () (show(0:Int)<=(r:Int) by ext) (show(r:Int)<3 by ext);let(H,M,Q,v):=J1 j 13 n D;let v:fQ [.list (j.map .int),.int 13,.int b.n]=.ok (.fz (bD H)):=by rw[s];show v
 let R:dB [.tuple (b.ls.map eN)]=-(nd b.ls.length):=(jT _).trans (by rw[UR]);let O:bE (.tuple (b.ls.map eN)) (nd L)=-(eN l):=HD (by rw[U4,G];rfl);let i2:bE (eN l) (nd k)=-(mD m):=HD (by rw[U4,hm];rfl);let l5:l.length<=5:=by let:=K.1;let:=d.n5;ext
 let put:∀m':Mn,eB [eN l,nd k,mD m']=.ok (.fz (eN (l.set k m')))/\eB [.tuple (b.ls.map eN),nd L,eN (l.set k m')]=.ok (.fz (.tuple ((b.ls.set L (l.set k m')).map eN))):=λm'=>by let p1:=yz (l.map mD) k (mD m') (by rw[UR];show kl) (by rw[UR];ext);let p2:=yz (b.ls.map eN) L (eN (l.set k m')) (by rw[UR];show hL) (by rw[UR];ext);rw[<-List.map_set]at p1 p2;show#[p1,p2]
 let N:∃rv,gG 12 fy [.list (j.map .int),bD b]=.ok rv/\∃c:Bd,(VB c/\c.n=n)/\rv=.fz (bD c):=by
  show qQ (T:=λrv=>∃c:Bd,(VB c/\c.n=n)/\rv=.fz (bD c)) W ?_;ext fy;show dj (ρ3:=[zf (.list (j.map .int)),zf (bD b),zf (.int b.n),zf (.tuple (b.ls.map eN)),zf (.tuple (b.cs.map eP)),zf (.int b.wt),UO,UO,UO,UO,UO,UO]) (ag W) W W ?_;show dj (ρ3:=[zf (.list (j.map .int)),zf (bD b),zf (.int b.n),zf (.tuple (b.ls.map eN)),zf (.tuple (b.cs.map eP)),zf (.int b.wt),zf (.int g),UO,UO,UO,UO,UO]) (bS (rv:=.fz (.int g)) (aj (ag W) (aj aG aM)) W W e0) W W ?_;show dj (ρ3:=[zf (.list (j.map .int)),zf (bD b),zf (.int b.n),zf (.tuple (b.ls.map eN)),zf (.tuple (b.cs.map eP)),zf (.int b.wt),zf (.int g),zf (nd w),UO,UO,UO,UO]) (bS (rv:=.fz (nd w)) (aj (ag W) (aj aG (aj aG aM))) W W U) W W ?_;show dj (ρ3:=[zf (.list (j.map .int)),zf (bD b),zf (.int b.n),zf (.tuple (b.ls.map eN)),zf (.tuple (b.cs.map eP)),zf (.int b.wt),zf (.int g),zf (nd w),zf (nd L),UO,UO,UO]) (bS (rv:=.fz (nd L)) (aj (ag W) (aj aG (aj (gI (rv:=.fz (nd b.ls.length)) (aj (ag W) aM) W R) aM))) W W Z) W W ?_;show dj (ρ3:=[zf (.list (j.map .int)),zf (bD b),zf (.int b.n),zf (.tuple (b.ls.map eN)),zf (.tuple (b.cs.map eP)),zf (.int b.wt),zf (.int g),zf (nd w),zf (nd L),zf (nd k),UO,UO]) (bS (rv:=.fz (nd k)) (aj (ag W) (aj aG (aj (ag W) aM))) W W Y) W W ?_;show dj (ρ3:=S5 j b g w L k m UO) (aN (rv:=.fz (mD m)) (aN (rv:=.fz (eN l)) (ag W) (ag W) W W O) (ag W) W W i2) W W ?_;let F:∀{i:Int} {o:br PV},a8 (aY cY (ae 7) (pC (.int i))) (S5 j b g w L k m o)=.ok (decide ((w:Int)=i),S5 j b g w L k m o):=bX (aN (ag W) aG W W (iL _ _)) W;show iZ F (λ_=>fJ (rv:=.fz (bD {b with cs:=b.cs.reverse})) (c9 (ds:=[.int b.n,.tuple (b.ls.map eN),.tuple (b.cs.reverse.map eP),.int b.wt]) (aj (ag W) (aj (ag W) (aj (C9 (rv:=.fz (.tuple (b.cs.reverse.map eP))) (ag W) W (by rw[ab3];rfl)) (aj (ag W) aM)))) W (UW W)) W #[{b with cs:=b.cs.reverse},#[#[d.n1,d.n5,d.l1,d.l3,d.vl,by rw[Xz];show d.c4,λx P=>d.vc x (ab2.mp P),List.pairwise_reverse.mpr (d.cu.imp λh e=>h e.symm),d.w1,d.w4],s],W]) (λ_=>dS ?_);show iZ (b:=decide ((w:Int)=2)&&m.isB) (pA F λ_=>bX (aN (ag W) (c9 (ds:=[.str "below"]) (aj aG aM) W (UW W)) W W (GG J.lb)) W) (λq=>?_) (λ_=>dS ?_)
  .rw[Vh]at q
   let mb:m=.below:=by revert q;ext m<;>simp[Mn.isB]
   let L0:L≠0:=by rw[mb]at J;intro z;show J (by rw[z];rfl)
   obtain⟨u,E⟩:∃u,b.ls[0]?=lD u:=#[_,U7 ()];let A:=d.vl 0 u E;obtain⟨p,B⟩:∃p,u[k]?=lD p:=#[_,U7 (by let:=A.1;ext)];let y:=A.2 p (Ve B);let j1:bE (.tuple (b.ls.map eN)) (.int 0)=-(eN u):=HD (by rw[U4,E];rfl);let j2:bE (eN u) (nd k)=-(mD p):=HD (by rw[U4,B];rfl);let I:VM L b.ls.length p:=by
    cases p with
    |below=>show a6 W y
    |_=>show y
   show fJ (rv:=.fz (bD {b with ls:=b.ls.set L (l.set k p)})) (c9 (ds:=[.int b.n,.tuple ((b.ls.set L (l.set k p)).map eN),.tuple (b.cs.map eP),.int b.wt]) (aj (ag W) (aj (bS (rv:=.fz (.tuple ((b.ls.set L (l.set k p)).map eN))) (ds:=[.tuple (b.ls.map eN),nd L,eN (l.set k p)]) (aj (ag W) (aj (ag W) (aj (bS (rv:=.fz (eN (l.set k p))) (ds:=[eN l,nd k,mD p]) (aj (aN (rv:=.fz (eN l)) (ag W) (ag W) W W O) (aj (ag W) (aj (aN (rv:=.fz (mD p)) (aN (rv:=.fz (eN u)) (ag W) aG W W j1) (ag W) W W j2) aM))) W W (put p).1) aM))) W W (put p).2) (aj (ag W) (aj (ag W) aM)))) W (UW W)) W #[_,#[Ho d G hm I λz=>a6 z L0,s],W]
  show iZ (b:=decide ((w:Int)=3)&&m.isL) (pA F λ_=>bX (aN (aN (rv:=.fz (.str (wd m))) (ag W) aG W W (oS m)) aG W W (j9 m)) W) (λq=>BK ?_) (λ_=>dS ?_)
  .rw[Vh]at q;show dj (ρ3:=S5 j b g w L k m (zf (mD (.VI t)))) (c9 (ds:=[.str "letter",.str (kh t)]) (aj aG (aj (aN (rv:=.fz (.str (kh t))) aG (bS (rv:=.fz (nd r)) (ds:=[.int g,.int 73,.int 3]) (aj (ag W) (aj aG (aj aG aM))) W W er) W W X) aM)) W (UW W)) W W ?_;show fJ (rv:=.fz (bD {b with ls:=b.ls.set L (l.set k (.VI t))})) (c9 (ds:=[.int b.n,.tuple ((b.ls.set L (l.set k (.VI t))).map eN),.tuple (b.cs.map eP),.int b.wt]) (aj (ag W) (aj (bS (rv:=.fz (.tuple ((b.ls.set L (l.set k (.VI t))).map eN))) (ds:=[.tuple (b.ls.map eN),nd L,eN (l.set k (.VI t))]) (aj (ag W) (aj (ag W) (aj (bS (rv:=.fz (eN (l.set k (.VI t)))) (ds:=[eN l,nd k,mD (.VI t)]) (aj (aN (rv:=.fz (eN l)) (ag W) (ag W) W W O) (aj (ag W) (aj (ag W) aM))) W W (put (.VI t)).1) aM))) W W (put (.VI t)).2) (aj (ag W) (aj (ag W) aM)))) W (UW W)) W #[_,#[Ho (m':=.VI t) d G hm S λ_=>q.2.symm,s],W]
  let wm:qC (.int b.wt) (.int 2)=-(.int (b.wt % 2)):=tZ ();show iZ F (λ_=>fJ (rv:=.fz (bD {b with wt:=1+b.wt % 2})) (c9 (ds:=[.int b.n,.tuple (b.ls.map eN),.tuple (b.cs.map eP),.int (1+b.wt % 2)]) (aj (ag W) (aj (ag W) (aj (ag W) (aj (aN (rv:=.fz (.int (1+b.wt % 2))) aG (aN (rv:=.fz (.int (b.wt % 2))) (ag W) aG W W wm) W W (gw _ _)) aM)))) W (UW W)) W #[{b with wt:=1+b.wt % 2},#[#[d.n1,d.n5,d.l1,d.l3,d.vl,d.c4,d.vc,d.cu,by show 1<=1+b.wt % 2;ext,by show 1+b.wt % 2<=4;ext],s],W]) (λ_=>dS ?_);let s1:TK (.tuple (b.cs.map eP)) (lD 1) UO=-(.tuple ((b.cs.drop 1).map eP)):=by
   show lD (RV.fz (.tuple (nV (b.cs.map eP) (lD ((1:Nat):Int)) UO)))=_;ext nV;rw[HT.sIx_nat,HT.sIx_none,UR,List.map_drop];congr 3;cases b.cs with
   |nil=>rfl
   |cons a r=>rw[Vd,aaJ ()];show List.take (r.length+1 - 1) (r.map eP)=r.map eP;rw[Nat.add_sub_cancel,<-UR (f:=eP),W6]
  show iZ F (λ_=>fJ (rv:=.fz (bD {b with cs:=b.cs.drop 1})) (c9 (ds:=[.int b.n,.tuple (b.ls.map eN),.tuple ((b.cs.drop 1).map eP),.int b.wt]) (aj (ag W) (aj (ag W) (aj (Dq (rv:=.fz (.tuple ((b.cs.drop 1).map eP))) (ag W) (pi aG W) p7 W s1) (aj (ag W) aM)))) W (UW W)) W #[{b with cs:=b.cs.drop 1},#[#[d.n1,d.n5,d.l1,d.l3,d.vl,by rw[YT];let:=d.c4;ext,λx P=>d.vc x (List.mem_of_mem_drop P),d.cu.drop,d.w1,d.w4],s],W]) (λ_=>dS ?_);show iZ (b:=decide ((5:Int)<w)) (bX (aN (ag W) aG W W (wG _ _)) W) (λ_=>fJ (rv:=.fz (bD H)) (bS (rv:=.fz (bD H)) (aj (ag W) (aj aG (aj (ag W) aM))) W W v) W #[H,#[M,Q],W]) (λ_=>dS ?_);show fw (rv:=.fz (bD b)) (ag W) W #[b,#[d,s],W]
 let(rv,h,c,(C,hc),rfl):=N;show#[c,C,hc,h]
def sC(sn:Sn):Cell:=.lst ((sn.map ja).map .fz)
def jQ:Nat->Nat->G SV
 |_,0=>[]
 |a,n+1=>.rf a::jQ (a+1) n
theorem pR:∀a n,jQ a (n+1)=jQ a n++[.rf (a+n)]
 |a,0=>rfl
 |a,n+1=>by show SV.rf a::jQ (a+1) (n+1)=SV.rf a::(jQ (a+1) n++[.rf (a+(n+1))]);rw[pR (a+1) n,WU,YG 1 n]
theorem oK:∀a n,(jQ a n).length=n
 |_,0=>rfl
 |a,n+1=>et (·+1) (oK (a+1) n)
def RG{l r:bh}:(l++r)[l.length+t]?=r[t]? :=by rw[Vr (),XG]
def UA{l r:bh}:(l++r).set (l.length+t) c=l++r.set t c:=by rw[adO _ _ (),XG]
def yV(b:Bd)(a:G YD)(Z:bh):bh:=Z++(.lst (jQ (Z.length+1) a.length)::(c7 b fW a).2.map sC)
def Me(b:Bd)(a:G YD)(Z:bh):(yV b a Z).length=Z.length+1+a.length:=by ext yV;rw[UZ,Vd,UR,qp];ext
def K8{g:G YD}(h:g[i]?=R e):(yV b (g.take i) Z++[sC (bp b (c7 b fW (g.take i)).1 e).2]).set Z.length (.lst (jQ (Z.length+1) i++[.rf (Z.length+1+i)]))=yV b (g.take (i+1)) Z:=by
 let f:=(UP.mp h).1;let a:g.take (i+1)=g.take i++[e]:=by rw[Xq,h];rfl
 let d:(g.take i).length=i:=by rw[V5];ext
 ext yV;rw[a,pW,UZ,d,show i+[e].length=i+1 from rfl,pR,Vw];let:=UA (l:=Z) (r:=(.lst (jQ (Z.length+1) i)::(c7 b fW (g.take i)).2.map sC)++[sC (bp b (c7 b fW (g.take i)).1 e).2]) (t:=0) (c:=.lst (jQ (Z.length+1) i++[.rf (Z.length+1+i)]));show(show _=_ from this).trans ?_;rw[Vu];rfl
def Fa(u:VB b)(c:G YD)(F:c.length<=1001)(A:∀e∈c,EV b e)(z:Z[r]?=R (.lst ((c.map c8).map .fz))):qX [.fz (bD b),.rf r] Z=.ok (.tp [.rf Z.length,.fz (eJ (c7 b fW c).1)]) (yV b c Z):=by
 let o:Out (qX [.fz (bD b),.rf r] Z) (λv f=>v=.tp [.rf Z.length,.fz (eJ (c7 b fW c).1)]/\f=yV b c Z) (λ_=>False):=by
  show rz W ?_;show di (ah (show _=Res.ok (PV.fz (.tuple [.tuple [],.none,.none]),_)from aG)) W ?_;show di (eS (by ext:0)) W ?_;show kN (LJ (xs:=(c.map c8).map .fz) (λi J f=>∃(n j:I SV),J=[-(bD b),R (.rf r),-(eJ (c7 b fW (c.take i)).1),R (.rf Z.length),n,j]/\f=yV b (c.take i) Z) (bf W) (by rw[UR,UR];ext) ?_ #[S,S,W,W] ?_ ?_)
  .rintro i J f ⟨n,j,rfl,rfl⟩;unfold LD.lstAt yV;dsimp only;rw[U3 (UP.mp z).1,z]
  .rintro i d J f m ⟨n,j,rfl,rfl⟩
   rw[U4,U4]at m;cases q:c[i]? with
   |none=>rw[q]at m;ext m
   |some e=>
    rw[q]at m;cases Vi m;let E:=(UP.mp q).1;let p:=A e (Ve q);let sw:SW b (c7 b fW (c.take i)).1:=DZ u _ (iM b) λe h=>A e (aef h);let(C,_):=C6 b c fW i e q;let y:(c.take i).length=i:=by rw[V5];ext
    let pl:=Me b (c.take i) Z;rw[y]at pl;let w:=Es u sw p (Z:=yV b (c.take i) Z);let nx:=K8 (b:=b) (Z:=Z) q;let g:(yV b (c.take i) Z++[sC (bp b (c7 b fW (c.take i)).1 e).2])[Z.length]?=R (.lst (jQ (Z.length+1) i)):=by rw[U3 ()];let:=RG (l:=Z) (r:=.lst (jQ (Z.length+1) i)::(c7 b fW (c.take i)).2.map sC) (t:=0);ext yV;rw[y];show this
    rw[pl]at w;rw[C];show#[[-(bD b),R (.rf r),-(eJ (c7 b fW (c.take i)).1),R (.rf Z.length),-(c8 e),j],_,W,?_];show di (Z1:=yV b (c.take i) Z++[sC (bp b (c7 b fW (c.take i)).1 e).2]) (pL (aw (ah (ag W)) (aw (ah (ag W)) (aw (ah (ag W)) aV))) w) W ?_;generalize (bp b (c7 b fW (c.take i)).1 e).1=L at*;generalize sC (bp b (c7 b fW (c.take i)).1 e).2=N at*;let B:=uW (fo:=aA 3) (fe:=d6 (aA 5) (aa (~~~0))) (ρ:=[-(bD b),R (.rf r),-(eJ (c7 b fW (c.take i)).1),R (.rf Z.length),-(c8 e),R (.tp [.rf (Z.length+1+i),.fz (eJ L)])]) (x:=.rf (Z.length+1+i)) (bf W) g (g7 (a:=.rf (Z.length+1+i)) (bf W) (ah aG) W W) g (by rw[oK];ext);rw[nx]at B;show zF (gB B) ?_;show xt (qE (g7 (bf W) (ah aG) W W) W) #[_,_,W,W]
  .rintro J f ⟨n,j,rfl,rfl⟩;rw[UR,UR,W6];show nQ (zD (aw (bf W) (aw (bf W) aV)) (UW W) W W) #[W,W]
 let(v,f,e,rfl,rfl):=o.all;show e
theorem Ih(Z:bh)(n:Nat):∀l:G D,aJ (k9 n Z) (l.map .fz)=R l
 |[]=>rfl
 |a::r=>by rw[Vf];ext aJ;rw[show k9 n Z (.fz a)=R a by ext n<;>rfl,Ih Z n r]
theorem tG(n:Nat):∀(S:G Sn) (a:Nat),(∀(m:Nat) sn,S[m]?=R sn->Z[a+m]?=R (sC sn))->aJ (k9 (n+1) Z) (jQ a S.length)=R (R0 S)
 |[],_,_=>rfl
 |sn::r,a,h=>by
  let d:k9 (n+1) Z (.rf a)=R (.list (sn.map ja)):=by ext k9;rw[show Z[a]?=R (sC sn)from h 0 sn W];show(aJ (k9 n Z) ((sn.map ja).map .fz)).map UU.list=_;rw[Ih];rfl
  show aJ (k9 (n+1) Z) (.rf a::jQ (a+1) r.length)=_;ext aJ;rw[d,tG n r (a+1) λm s b=>by rw[WU,YG 1 m];show h (m+1) s b];rfl
def sS(h:Z[i]?=R (.lst xs))(k:aJ (k9 n Z) xs=R ds):k9 (n+1) Z (.rf i)=R (.list ds):=by show(match Z[i]? with|some (Cell.lst xs)=>(aJ (k9 n Z) xs).map UU.list|_=>S)=_;rw[h];show(aJ (k9 n Z) xs).map UU.list=_;rw[k];rfl
def Qo(h:Z[i]?=R (.lst (jQ a (n+1)))):sh Z (.rf i)=S:=by show(match Z[i]? with|some (Cell.lst xs)=>(aJ xy xs).map UU.list|_=>S)=S;rw[h];rfl
def PH(h:∀sn∈dl,YK sn):lj (.list (R0 dl))=P:=by
 show uC (by ext UU.canLay0;show mE λsn a=>lW (xQ (h sn a))) ?_;show UU.depthAll (R0 dl)+1<=64;let:=jv (f:=λsn:Sn=>UU.list (sn.map ja)) (l:=dl) λsn _=>by show UU.depthAll (sn.map ja)+1<=3;let:=jv (l:=sn) λq _=>DH q;ext
 ext R0;ext
structure PR(Z:bh)(l:Nat)(S:G Sn):Prop where
 r:Z[l]?=R (.lst (jQ (l+1) S.length))
 c:∀(m:Nat) sn,S[m]?=R sn->Z[l+1+m]?=R (sC sn)
def PR.app(h:PR Z l b):PR (Z++X) l b:=by
 let k:∀{i:Nat} {c:Cell},Z[i]?=R c->(Z++X)[i]?=R c:=λ{i c} e=>by rw[U3 (UP.mp e).1];show e
 show#[k h.r,λm a q=>k (h.c m a q)]
def PR.of(b:Bd)(c:G YD)(Z:bh):PR (yV b c Z) Z.length (c7 b fW c).2:=by
 show#[?_,λm a q=>?_]
 .let:=RG (l:=Z) (r:=.lst (jQ (Z.length+1) c.length)::(c7 b fW c).2.map sC) (t:=0);rw[qp];show this
 .let:=RG (l:=Z) (r:=.lst (jQ (Z.length+1) c.length)::(c7 b fW c).2.map sC) (t:=1+m);rw[WU];show this.trans ?_;rw[YG 1 m,aag,U4,q];rfl
theorem Iu(n:Nat)(h:Z[i]?=R (.lst (ds.map .fz))):k9 (n+1) Z (.rf i)=R (.list ds):=sS h (Ih Z n ds)
theorem x3(a:VB b):∀(xs:G YD) {s:Yg},SW b s->(∀e∈xs,EV b e)->∀sn∈(c7 b s xs).2,YK sn
 |[],_,_,_,_,h=>by ext h
 |e::r,s,sw,he,sn,h=>by
  rcases Vm.mp h with rfl|h
  .show pI a sw (he e U5)
  .show x3 a r (sM a sw (he e U5)) (λx d=>he x (U6 _ d)) sn h
def om:UU.canLay0 (c8 e)=P/\UU.depth (c8 e)<=1:=by
 cases e with
 |down k=>show#[by show(UU.strOk "down"&&(P&&P))=P;left,UW W]
 |up k=>show#[by show(UU.strOk "up"&&(P&&P))=P;left,UW W]
 |turn=>show#[by show(UU.strOk "turn"&&(P&&P))=P;left,UW W]
def DQ(b:G YD):lj (.list (b.map c8))=P:=by show uC (mE λq a=>om.1) ?_;show UU.depthAll (b.map c8)+1<=64;let:=jv (f:=c8) (l:=b) λq _=>om.2;ext
def Qe{d:D}(g:J C Z=.ok xs o)(c:aJ (sh o) xs=S)(a:aJ (k9 6 o) xs=R ds)(h:f ds=-(d))(hd:AJ d=P):nt f J C Z=.ok (.fz d) o:=by ext nt;rw[g,eH];ext K5;rw[c];rw[a];show((RS.V4 o (f ds)).bind λe b=>oM b e)=_;rw[h];show(if AJ d=P then RS.ok (SV.fz d) o else RS.bad)=_;rw[av hd]
def JR(a n:Nat):(jQ a (n+1)).take n=jQ a n:=by rw[pR,List.take_append_of_le_length (by rw[oK];show U1 _),adB (by rw[oK];show U1 _)]
def Ir(f:fa ρ Z=.ok (.rf i) Z)(h:Z[i]?=R (.lst (jQ a (n+1)))):JZ fa zB (zE (aa (FQ vW (~~~1)))) ρ Z=.ok (.rf Z.length) (Z++[.lst (jQ a n)]):=by
 let d:aa (FQ vW (~~~1)) ρ Z=.ok (.fz (.int (-1))) Z:=ah (C9 (rv:=.fz (.int (-1))) aG W W);ext JZ;rw[f,eH];rw[show zB ρ Z=RS.ok S Z from rfl,eH];ext zE;rw[d];show((RS.V4 Z (LD.lstAt Z (.rf i))).bind λxs b=>RS.ok (SV.rf b.length) (b++[.lst (Cm xs S (R (-1)))]))=_;let e:LD.lstAt Z (.rf i)=R (jQ a (n+1)):=by ext LD.lstAt;dsimp only;rw[h]
 rw[e];show RS.ok _ (Z++[.lst (Cm (jQ a (n+1)) S (R (-1)))])=_;let c:Cm (jQ a (n+1)) S (R (-1))=jQ a n:=by ext Cm;rw[oK,show HT.sIx (n+1) (n+1) (R (-1))=n by show((-1:Int)+((n+1:Nat):Int)).toNat=n;ext,show HT.sIx (n+1) 0 S=0 from rfl,acD,adJ];show JR a n
 rw[c]
theorem Kv:∀{b:G Sn},Z[i]?=R (.lst (jQ a b.length))->Z[j]?=R (.lst (jQ o b.length))->(∀(m:Nat) sn,b[m]?=R sn->Z[a+m]?=R (sC sn))->(∀(m:Nat) sn,b[m]?=R sn->Z[o+m]?=R (sC sn))->(∀sn∈b,YK sn)->m9 cY (.rf i) (.rf j) Z=.ok (.fz (.bool P)) Z
 |[],d,e,_,_,_=>qU (cJ (ds:=[]) d) (cJ (ds:=[]) e) (STP.tE (by left))
 |s::b,d,e,h1,f,ok=>Ip (.inl (Qo d)) (sS d (tG 4 (s::b) a h1)) (sS e (tG 4 (s::b) o f)) (STP.tE (PH ok)) W
theorem Alk.run:∀{w:G YD} {p q:PP},Alk b c p w q->(c7 b p.1 w).1=q.1/\(c7 c p.2 w).1=q.2/\(c7 b p.1 w).2=(c7 c p.2 w).2
 |[],p,q,h=>by rw[show p=q from h];show#[W,W,W]
 |e::r,p,q,h=>by let(i,g):=h;let(f,d,a):=Alk.run g;show#[f,d,?_];show(bp b p.1 e).2::_=(bp c p.2 e).2::_;rw[show(bp b p.1 e).2=(bp c p.2 e).2 from i];show et _ a
def Pt(h:e∈oy n):Gp (c8 e) (.list ((oy n).map c8))=-(.bool P):=by show(if(lj (c8 e)&&UU.canLayAll0 ((oy n).map c8))=P then R (RV.fz (.bool (((oy n).map c8).any λx=>UU.eqv x (c8 e))))else S)=_;rw[uC om.1 (VT om.2 ()),mE λq _=>om.1,WC,av W];congr 3;rw[Ye];show#[c8 e,Vs.mpr #[e,h,W],XQ _ om.1]
theorem ST(l:G α):vT [.list (l.map λ_=>UU.bool P)]=-(.bool P):=(p9 (λ_=>P) l).trans (by rw[Wr.mpr (λ_ _=>W)])
def Co(h:Z[i]?=R (.lst xs)):LD.lstAt Z (.rf i)=R xs:=by ext LD.lstAt;dsimp only;rw[h]
abbrev A5(b c:Bd)(r:Nat)(d a:I SV):bC:=[-(bD b),-(bD c),R (.rf r),d,a]
def zO(O:VB b)(N:VB c){n:Nat}(D:b.n=n)(V:c.n=n)(h5:n<=5)(H:Alk b c vJ w q)(f:¬BW b c q e)(hm:∀x∈w++[e],x∈oy n)(hw:w.length<=1000)(k:Z[r]?=lD (.lst (((w++[e]).map c8).map .fz))):
  ∃X,fD [.fz (bD b),.fz (bD c),.rf r] Z=.ok (.fz (.bool US)) (Z++X):=by
 let eb:=λx t=>jI D x (hm x t);let ec:=λx t=>jI V x (hm x t);let(k1,k2,G):=H.run;let G:(c7 b fW w).2=(c7 c fW w).2:=G;let rb:(c7 b fW (w++[e])).2=(c7 b fW w).2++[(bp b q.1 e).2]:=by rw[pW,<-k1];rfl
 let rc:(c7 c fW (w++[e])).2=(c7 b fW w).2++[(bp c q.2 e).2]:=by rw[pW,G,<-k2];rfl
 let A:=x3 O (w++[e]) (iM b) eb;let E:=x3 N (w++[e]) (iM c) ec;let Sl:=qp b w fW;let f:¬(bp b q.1 e).2=(bp c q.2 e).2:=f;let wl:(w++[e]).length=w.length+1:=by rw[UZ];rfl
 let F:Out (fD [.fz (bD b),.fz (bD c),.rf r] Z) (λv Z'=>v=.fz (.bool US)/\∃X,Z'=Z++X) (λ_=>False):=by
  show rz W ?_;let up:∀{Z:bh} {X:bh} {i:Nat} {c:Cell},Z[i]?=lD c->(Z++X)[i]?=lD c:=λ{Z X i c} e=>by rw[U3 (UP.mp e).1];show e
  let p:(Z++[Cell.lst []])[r]?=_:=up k;let en:cY (.list ((w++[e]).map c8)) (.list [])=-(.bool U0):=by
   ext cY;rw[DQ,show UU.canLay0 (.list [])=US by left,WC,av W];congr 3;cases w with
   |nil=>rfl
   |cons x y=>rfl
  let c1:bt (si "list" (aA 2)) (A5 b c r UO UO) Z=.ok US Z:=aW (xf (bf W) (Iu 5 k) W);let c2:bt (iU cY (aA 2) (aa (dh aD))) (A5 b c r UO UO) Z=.ok U0 (Z++[Cell.lst []]):=aW (b4 (bf W) (eS (ds:=[]) (by ext:0)) (qU (cJ p) (cJ a9) en));let ci:=mL (gt:=fT 0) (ft:=iB) (fe:=aa (aY Gp (ae 0) (db cj 1 {ae 1}))) (λx:YD=>SV.fz (c8 x)) (λ_=>SV.fz (.bool US)) (Z++[Cell.lst []]) (λρ=>∃o,ρ=[o,-(bD b)]) (by rw[Co p,VG];rfl) () (λx t ρ #[o,ho]=>by subst ho;show#[[-(c8 x),-(bD b)],W,W,ah (aN (ag W) (bS (aj (ag W) aM) W W (xm D h5)) W W (Pt (hm x t))),_,W]) 1000000 0 [UO,-(bD b)] () (VF _) #[UO,W];let c3:=iK (aW (k8 (aw (vp (n:=1) (fj:=[0]) (ρ:=A5 b c r UO UO) (fl:=aA 2) (bf W) ci) aV) (by ext aJ;rw[cJ (by rw[a9,VG];rfl)];rfl) (ST _)));show ig (eW (iK c1) (eW c2 c3)) (fO ?_);let j:(Z++[Cell.lst []]++[Cell.lst ((w++[e]).map λ_=>SV.fz (.bool US))])[r]?=_:=up p;obtain⟨C,L⟩:∃X,Z++[Cell.lst []]++[Cell.lst ((w++[e]).map λ_=>SV.fz (.bool US))]=Z++X:=#[_,Vw _ _ _];rw[L]at j⊢;let p1:=Fa O (w++[e]) () eb j;let d:=PR.of b (w++[e]) (Z++C);let u:(yV b (w++[e]) (Z++C))[r]?=_:=up j;show di (g7 (kr (aw (ah (ag W)) (aw (bf W) aV)) W p1) (ah aG) W W) W ?_;obtain⟨B,K⟩:∃X,yV b (w++[e]) (Z++C)=Z++X:=#[_,Vw _ _ _];let l1:=(UP.mp d.r).1;generalize (Z++C).length=l at d l1⊢;rw[K]at u d l1⊢;let p2:=Fa N (w++[e]) () ec u;let g:=PR.of c (w++[e]) (Z++B);let d:PR (yV c (w++[e]) (Z++B)) l (c7 b fW (w++[e])).2:=d.app;show di (g7 (kr (aw (ah (ag W)) (aw (bf W) aV)) W p2) (ah aG) W W) W ?_;obtain⟨M,J⟩:∃X,yV c (w++[e]) (Z++B)=Z++X:=#[_,Vw _ _ _];generalize (Z++B).length=l' at g⊢;rw[J]at d g⊢;rw[rb]at d A;rw[rc]at g E;generalize (c7 b fW w).2=S at d g A E Sl;let Q:=A _ (VQ _ U5);let P:=E _ (VQ _ U5);generalize (bp b q.1 e).2=x at d Q f;generalize (bp c q.2 e).2=y at g P f;let gx:(S++[x])[S.length]?=lD x:=by rw[Vr (U1 _),abV];rfl
  let gy:(S++[y])[S.length]?=lD y:=by rw[Vr (U1 _),abV];rfl
  let old:∀{z:Sn} {m:Nat} {s:Sn},S[m]?=lD s->(S++[z])[m]?=lD s:=λh=>by rw[U3 (UP.mp h).1];show h
  let T:(Z++M)[l]?=lD (.lst (jQ (l+1) (S.length+1))):=by let:=d.r;rw[UZ]at this;show this
  let R:(Z++M)[l']?=lD (.lst (jQ (l'+1) (S.length+1))):=by let:=g.r;rw[UZ]at this;show this
  let a1:=Ir (fa:=aA 3) (ρ:=A5 b c r (lD (.rf l)) (lD (.rf l'))) (bf W) T;let a2:=Ir (fa:=aA 4) (ρ:=A5 b c r (lD (.rf l)) (lD (.rf l'))) (bf W) (up R (X:=[Cell.lst (jQ (l+1) S.length)]));obtain⟨X5,I⟩:∃X,Z++M++[Cell.lst (jQ (l+1) S.length)]++[Cell.lst (jQ (l'+1) S.length)]=Z++X:=#[_,by rw[Vw,Vw]];let b1:=Kv (up a9) a9 (λm s h=>up (up (d.c m s (old h)))) (λm s h=>up (up (g.c m s (old h)))) λs h=>A s (Wv _ h);let g3:=up (X:=[Cell.lst (jQ (l'+1) S.length)]) (up (X:=[Cell.lst (jQ (l+1) S.length)]) T);let g4:=up (X:=[Cell.lst (jQ (l'+1) S.length)]) (up (X:=[Cell.lst (jQ (l+1) S.length)]) R);let g5:=up (X:=[Cell.lst (jQ (l'+1) S.length)]) (up (X:=[Cell.lst (jQ (l+1) S.length)]) (d.c _ x gx));let g6:=up (X:=[Cell.lst (jQ (l'+1) S.length)]) (up (X:=[Cell.lst (jQ (l+1) S.length)]) (g.c _ y gy));let U:∀{Z:bh},aa (FQ vW (~~~1)) (A5 b c r (lD (.rf l)) (lD (.rf l'))) Z=.ok (.fz (.int (-1))) Z:=ah (C9 (rv:=.fz (.int (-1))) aG W W);let Y:∀a:Nat,lA (jQ a (S.length+1)) (-1)=lD (.rf (a+S.length)):=λa=>by rw[pR];show JU _ _
  let e1:=b4 a1 a2 b1;let e2:=b4 (qS (bf (i:=3) W) U W g3 (Y _)) (qS (bf (i:=4) W) U W g4 (Y _)) (qU (cJ g5) (cJ g6) (IT Q P));rw[aP f]at e2;show nQ (mP (aW e1) e2) #[W,X5,I]
 let(v,Z',h,rfl,X,rfl):=F.all;show#[X,h]
def Uu(b c:Bd)(e:G YD)(a:bh)(v:SV)(d:bh):Prop:=(v=.fz (.int 100)/\Rh b c e 100=.many/\∃l:G PP,l.Nodup/\(∀p∈l,∃k,RW b c e k p)/\100<l.length)\/Uj b c e 100 a v d
def zZ(g:VB b)(d:VB c){n:Nat}(s:b.n=n)(h:c.n=n)(i:n<=5)(r:J C Z=.ok [.fz (bD b),.fz (bD c)] Z):∃v k,jt cM 2 J C Z=.ok v k/\Uu b c (oy n) Z v k:=by
 let a:=(zT g d s h i (m:=100) () () Z).out;cases e:gD [.fz (bD b),.fz (bD c),.fz (.int 100)] Z with
 |bad=>rw[e]at a;show a.elim
 |er x k=>
  rw[e]at a;let(rfl,p,l,o,j,q):=a;let f:cM [.fz (bD b),.fz (bD c)] Z=.ok (.fz (.int 100)) k:=by ext cM;dsimp only;rw[e];show av #[W,W]
  show#[_,k,kr r W f,.inl #[W,p,l,o,j,by ext]]
 |ok v k=>
  rw[e]at a;let f:cM [.fz (bD b),.fz (bD c)] Z=.ok v k:=by ext cM;dsimp only;rw[e]
  show#[v,k,kr r W f,.inr a]
def FJ(l:VB b)(j:VB c){n:Nat}(k:b.n=n)(v:c.n=n)(w:n<=5)(g:PW b c p)(h:∀e∈oy n,BW b c p e):fK [bD b,bD c,kP p]=.ok (.fz (.bool U0)):=by
 let ev:=xm k w;let B:BB b c (oy n):=#[l,j,jI k,jI v];generalize oy n=C at ev B h;show ii W ?_;show uz (λ_ z=>∃o,z=[zf (bD b),zf (bD c),zf (kP p),o]) (mW (bS (aj (ag W) aM) W W ev) W W) #[S,W] ?_ ?_
 .rintro i d z a ⟨o,rfl⟩
  rw[U4]at a;cases A:C[i]? with
  |none=>rw[A]at a;ext a
  |some e=>rw[A]at a;cases Vi a;let f:=Ve A;show#[[zf (bD b),zf (bD c),zf (kP p),zf (c8 e)],W,?_];let r:=Oe l g.1 (B.eb e f);let m:=Oe j g.2 (B.ec e f);let u:=pI l g.1 (B.eb e f);let t:=pI j g.2 (B.ec e f);let y:(bp b p.1 e).2=(bp c p.2 e).2:=h e f;let ne:=IT u t;rw[a4 (not_not_intro y)]at ne;show CZ (bX (aN (aN (bS (aj (ag W) (aj (aN (ag W) aG W W io) (aj (ag W) aM))) W W r) aG W W io) (aN (bS (aj (ag W) (aj (aN (ag W) aG W W jo) (aj (ag W) aM))) W W m) aG W W io) W W ne) W) (λq=>nomatch q) (λ_=>sU #[_,W])
 .rintro z ⟨o,rfl⟩;show fw aG W W
theorem T1:∀l:G α,LQ [.list (l.map λ_=>UU.bool U0)]=-(.bool U0):=λl=>by show(ox _).map (λbs=>RV.fz (.bool (bs.any id)))=_;rw[STP.j7];show R (RV.fz (.bool _))=_;rw[List.any_map,show(id∘λ_:α=>U0)=λ_=>U0 from rfl,aeU.mpr (λ_ _=>Vg)]
def yM(h:Z[i]?=R (.lst (ds.map .fz))):k9 6 Z (.tp [.fz (.str s),.rf i])=R (.tuple [.str s,.list ds]):=by show(aJ (λx:AV=>k9 5 Z x.sv) [AV.fz (.str s),AV.rf i]).map UU.tuple=_;ext aJ;rw[show k9 5 Z (AV.fz (.str s)).sv=R (.str s)from rfl];ext aJ;rw[show k9 5 Z (AV.rf i).sv=_ from Iu 4 h];rfl
section
variable{Y:bC}{Z:bh}{i:Nat}{s:Str}{X:bg D}
theorem iy(a:Y[k]?=R (R (.tp [.fz (.str s),.rf i]))):d6 (aA k) (aa (~~~1)) Y Z=.ok (.rf i) Z/\d6 (aA k) (aa (~~~0)) Y Z=.ok (.fz (.str s)) Z:=#[g7 (bf a) (ah (d:=.int 1) aG) W W,g7 (bf a) (ah (d:=.int 0) aG) W W]
def Iz(b:Y[3]?=R (R (.tp [.fz (.str s),.rf i])))(c:Z[i]?=R (.lst (X.map .fz)))(a:lj (.tuple [.str s,.list X])=P):bt (iU cY (aA 3) (aa (~~~100))) Y Z=.ok U0 Z:=by
 let e:cY (.tuple [.str s,.list X]) (.int 100)=-(.bool U0):=by ext cY;rw[a,show UU.canLay0 (.int 100)=P from rfl];rfl
 show aW (b4 (bf b) (ah aG) (Ip (.inl W) (yM c) W e W))
def Kf(a:Y[3]?=R (R (.tp [.fz (.str s),.rf i])))(c:Z[i]?=R (.lst (X.map .fz))):wo (mX (bt (si "tuple" (aA 3)))) (wo (bt (iU nj (nt dB (aq (aA 3) aX)) (aa (~~~2)))) (mX (bt (si "list" (d6 (aA 3) (aa (~~~1))))))) Y Z=.ok U0 Z:=by let e:bt (si "tuple" (aA 3)) Y Z=.ok P Z:=aW (xf (bf a) (yM c) W);let d:bt (iU nj (nt dB (aq (aA 3) aX)) (aa (~~~2))) Y Z=.ok U0 Z:=aW (b4 (Qe (aw (bf a) aV) W (by ext aJ;rw[yM c];rfl) W W) (ah aG) (bL (tD W)));let b:bt (si "list" (d6 (aA 3) (aa (~~~1)))) Y Z=.ok P Z:=aW (xf (iy a).1 (Iu 5 c) W);show eW (iK e) (eW d (iK b))
end
def QU{a:G YD}:lj (.tuple [.str "apart",.list (a.map c8)])=P:=by
 show uC ?_ ?_
 .show(UU.canLay0 (.str "apart")&&(UU.canLay0 (.list (a.map c8))&&P))=P;rw[lW (DQ a)];left
 .show max 0 (max (UU.depthAll (a.map c8)+1) 0)+1<=64;let:=jv (f:=c8) (l:=a) λq _=>om.2;ext
def Qu{l:G PP}(h:∀p∈l,PW b c p):lj (.tuple [.str "same",.list (l.map kP)])=P:=by
 show uC ?_ ?_
 .show(UU.canLay0 (.str "same")&&(UU.canLayAll0 (l.map kP)&&P))=P;rw[mE λp a=>LD.kd_lay _ (LD.keyD_kd (fP (h p a))).1];left
 .show max 0 (max (UU.depthAll (l.map kP)+1) 0)+1<=64;let:=jv λp a=>(LD.keyD_kd (fP (h p a))).2;ext
theorem G4(B:BB b c o):∀{l:G PP},(∀p∈l,PW b c p)->l.Nodup->LD.ndB (l.map kP)=P
 |[],_,_=>rfl
 |p::r,h,j=>by let(i,g):=Wf.mp j;rw[Vf];ext LD.ndB;rw[Vh,Wr];show#[λd f=>?_,G4 B (λx e=>h x (U6 _ e)) g];let(q,a,rfl):=Vs.mp f;rw[ae0,abM];intro z;let:=(xJ B (h p U5) (h q (U6 _ a))).mp z;show i (this▸a)
abbrev G7(f:G Int)(b c:Bd)(e d a g:I SV):bC:=[-(.list (f.map .int)),-(bD b),-(bD c),e,d,a,g]
def main(f:bg Int)(s:f.length<=63):L10.RD F_law [.list (f.map .int)]=.ok (.fz (.bool US)):=by
 let(n,hn,ek):=Mr f;let(b,A,C,eb):=J1 f 1 n hn;let(c,F,H,ec):=HL f A C hn;let N:n<=5:=by ext
 let B:BB b c (oy n):=#[A,F,jI C,jI H];let key:Out (F_law [.fz (.list (f.map .int))] []) (λx _=>x=.fz (.bool US)) (λ_=>False):=by
  show rz W ?_;show di (ah (bS (aj (ag W) (aj aG (aj (bS (aj (ag W) aM) W W ek) aM))) W W eb)) W ?_;show di (ah (bS (aj (ag W) (aj (ag W) aM)) W W ec)) W ?_;let ar:∀{M L K I:br SV} {Z:bh},aq (aa (ae 1)) (aq (aa (ae 2)) aX) (G7 f b c M L K I) Z=.ok [.fz (bD b),.fz (bD c)] Z:=aw (ah (ag W)) (aw (ah (ag W)) aV);let ar3:∀{M L K I:br SV} {Z:bh},aq (aa (ae 1)) (aq (aa (ae 2)) (aq (aa (~~~100)) aX)) (G7 f b c M L K I) Z=.ok [.fz (bD b),.fz (bD c),.fz (.int 100)] Z:=aw (ah (ag W)) (aw (ah (ag W)) (aw (ah aG) aV));let(v,a,e1,S):=zZ A F C H N ar;show di e1 W ?_;let(v3,Z3,e3,fs,J,rfl,rfl,T,p2,p3,p4):=(Gd A F C H N (m:=100) () () a).all;let g0:(im a fs J)[a.length]?=lD (.lst ((AC fs).map .fz)):=uv (t:=0);let g1:(im a fs J)[a.length+1]?=lD (.dd (A6 fs)):=uv;let up:∀{Z:bh} {X:bh} {i:Nat} {c:Cell},Z[i]?=lD c->(Z++X)[i]?=lD c:=λ{Z X i c} e=>by rw[U3 (UP.mp e).1];show e
  let cal:∀{M L K I:br SV},jt d9 3 (aq (aa (ae 1)) (aq (aa (ae 2)) (aq (aa (~~~100)) aX))) (G7 f b c M L K I) a=.ok (.tp [.rf a.length,.rf (a.length+1)]) (im a fs J):=kr ar3 W e3;let ai9:∀{M L K I:br SV},nt dB (aq (d6 (jt d9 3 (aq (aa (ae 1)) (aq (aa (ae 2)) (aq (aa (~~~100)) aX)))) (aa (~~~0))) aX) (G7 f b c M L K I) a=.ok (.fz (nd fs.length)) (im a fs J):=k8 (aw (g7 cal (ah aG) W W) aV) (by ext aJ;rw[show sh (im a fs J) (AV.rf a.length).sv=lD (.list (AC fs))from cJ g0];rfl) ((fq _).trans (by ext AC;rw[UR]));rcases S with⟨rfl,_,l,l1,l2,l3⟩|S
  .let more:100<fs.length:=by
    rcases p4 with h|h
    .omega
    .let:=h.len l1 l2;rw[UR]at this;ext
   show Bs (aW (b4 (bf W) (ah aG) (bL ((iL _ _).trans (by rw[aP W]))))) (yT (b4 ai9 (ah aG) (bL ((wG _ _).trans (by rw[aP ()])))) W)
  let nss:nj (.str "same") (.str "same")=-(.bool U0):=tD (by left);let eaa:cY (.str "apart") (.str "apart")=-(.bool US):=STP.tE (by left);let esa:cY (.str "same") (.str "apart")=-(.bool U0):=(S9 (by left) (by left)).trans (by rw[show(("same":Str)== "apart")=U0 by left]);rcases S with⟨i,w,e,q,rfl,r,z,na,hm,hw,Y⟩|⟨i,l,rfl,r,z,sm,hl,Y,_⟩
  .clear cal ai9 g0 g1 e3 T p2 p3 p4
   show ig (Iz W r QU) (fO (ig (Kf W r) (fO ?_)));show Bs (aW (b4 (iy W).2 (ah aG) (bL eaa))) (Be ?_);let(X,ap):=zO A F C H N z na hm hw r;let apS:=kr (fa:=aq (aa (ae 1)) (aq (aa (ae 2)) (aq (d6 (aA 3) (aa (~~~1))) aX))) (ρ:=G7 f b c (lD (.tp [.fz (.str "apart"),.rf i])) UO UO UO) (aw (ah (ag W)) (aw (ah (ag W)) (aw (iy W).1 aV))) W ap;show ig (iK (aW apS)) (fO (Be ?_));let j:(a++X)[i]?=_:=up r;show zF (gB (IG (iy W).1 j)) (Be ?_);generalize (a++X).set i (.lst [])=Z2;let(v2,Z4,e2,S2):=zZ A F C H N ar;show di e2 W ?_;rcases S2 with⟨_,G,_⟩|⟨i2,w2,e2,q2,rfl,g,al2,na2,hm2,hw2,_⟩|⟨_,_,_,_,_,_,_,G,_⟩
   .rw[Y]at G;ext G
   .let(X2,ap2):=zO A F C H N al2 na2 hm2 hw2 g;show yT (mP (aW (xf (bf W) (yM g) W)) (mP (aW (b4 (iy W).2 (ah aG) (bL eaa))) (kr (aw (ah (ag W)) (aw (ah (ag W)) (aw (iy W).1 aV))) W ap2))) W
   .rw[Y]at G;ext G
  .let pw:∀p∈l,PW b c p:=λp P=>by let(k,hk):=z.r p P;show B.rw hk
   let rf:∀p∈fs.map (·.p),∃k,RW b c (oy n) k p:=λp P=>by let(q,O,rfl):=Vs.mp P;show#[q.k,T q O]
   let f1:=z.len p2 rf;rw[UR]at f1;let A2:AllP b c (oy n) (fs.map (·.p)):=by
    rcases p4 with h|h
    .omega
    .show h
   let f2:=A2.len z.u z.r;rw[UR]at f2;let le:l.length=fs.length:=by ext
   show ig (Iz W r (Qu pw)) (fO (ig (Kf W r) (fO ?_)));show ig (aW (b4 (iy W).2 (ah aG) (bL esa))) (fO ?_);show di (ρ1:=G7 f b c (lD (.tp [.fz (.str "same"),.rf i])) UO (lD (.rf a.length)) (lD (.rf (a.length+1)))) cal W ?_;let j:(im a fs J)[i]?=lD (.lst ((l.map kP).map .fz)):=up r;let il:=(UP.mp r).1;let E:∀{Z:bh},Z[a.length]?=lD (.lst ((AC fs).map .fz))->nt dB (aq (aA 5) aX) (G7 f b c (lD (.tp [.fz (.str "same"),.rf i])) UO (lD (.rf a.length)) (lD (.rf (a.length+1)))) Z=.ok (.fz (nd fs.length)) Z:=λh=>k8 (aw (bf W) aV) (by ext aJ;rw[cJ h];rfl) ((fq _).trans (by ext AC;rw[UR]));let adw:nt dB (aq (d6 (aA 3) (aa (~~~1))) aX) (G7 f b c (lD (.tp [.fz (.str "same"),.rf i])) UO (lD (.rf a.length)) (lD (.rf (a.length+1)))) (im a fs J)=.ok (.fz (nd fs.length)) (im a fs J):=k8 (aw (iy W).1 aV) (by ext aJ;rw[cJ j];rfl) ((fq _).trans (by rw[UR,le]));let nn:nj (nd fs.length) (nd fs.length)=-(.bool U0):=tD W;show ig (eW (aW (b4 (iy W).2 (ah aG) (bL nss))) (eW (aW (b4 adw (E g0) (bL nn))) (aW (b4 (E g0) (ah aG) (bL ((wG _ _).trans (by rw[a4 ()]))))))) (fO ?_);let ci:=mL (gt:=fT 0) (ft:=iB) (λp:PP=>SV.fz (kP p)) (λ_=>SV.fz (.bool US)) (im a fs J) (λu=>∃o,u=[o,lD (.rf (a.length+1))]) (by rw[Co j,VG];rfl) () (λp P u #[o,ho]=>by subst ho;let(k,hk):=z.r p P;let(q,O,rfl):=Vs.mp (A2.c k p hk);let y:=x8 (neg:=U0) (fk:=aa (ae 0)) (fd:=aA 1) (ρ:=[-(kP q.p),lD (.rf (a.length+1))]) (ah (ag W)) (bf W) (lJ (fP (B.rw (T q O)))) g1;rw[LI.yes B T p2 O]at y;show#[[-(kP q.p),lD (.rf (a.length+1))],W,W,y,_,W]) 1000000 0 [UO,lD (.rf (a.length+1))] () (VF _) #[UO,W];let c3:=iK (aW (k8 (aw (vp (n:=1) (fj:=[6]) (ρ:=G7 f b c (lD (.tp [.fz (.str "same"),.rf i])) UO (lD (.rf a.length)) (lD (.rf (a.length+1)))) (fl:=d6 (aA 3) (aa (~~~1))) (iy W).1 ci) aV) (by ext aJ;rw[cJ (by rw[a9,VG];rfl)];rfl) (ST _)));obtain⟨X,hX⟩:∃X,im a fs J++[Cell.lst (l.map λ_=>SV.fz (.bool US))]=im a fs J++X:=#[_,W];let g:=up (X:=X) j;let g2:=up (X:=X) g0;rw[hX]at c3;let sl:LD.setLenN [.list (l.map kP)]=-(nd fs.length):=by
    ext LD.setLenN;dsimp only;rw[av]
    .rw[UR,le]
    .rw[Vh,Vh,decide_eq_true_eq,Wr];show#[#[by rw[UR];ext,λd hd=>?_],G4 B pw z.u];let(p,P,rfl):=Vs.mp hd;show fP (pw p P)
   show ig (eW c3 (aW (b4 (k8 (aw (iy W).1 aV) (by ext aJ;rw[cJ g];rfl) sl) (E g2) (bL nn)))) (fO ?_);let ci:=mL (gt:=fT 0) (ft:=iB) (fe:=aa (db fK 3 {ae 1,ae 2,ae 0})) (λq:Pk=>SV.fz (kP q.p)) (λ_=>SV.fz (.bool U0)) (im a fs J++X) (λu=>∃o,u=[o,-(bD b),-(bD c)]) (by rw[Co g2];ext AC;rw[VG];rfl) () (λq O u #[o,ho]=>by subst ho;show#[[-(kP q.p),-(bD b),-(bD c)],W,W,ah (bS (aj (ag W) (aj (ag W) (aj (ag W) aM))) W W (FJ A F C H N (B.rw (T q O)) λe he=>sm q.k q.p e (T q O) he)),_,W]) 1000000 0 [UO,-(bD b),-(bD c)] () (VF _) #[UO,W];let c4:=aW (k8 (aw (vp (n:=1) (fj:=[1,2]) (ρ:=G7 f b c (lD (.tp [.fz (.str "same"),.rf i])) UO (lD (.rf a.length)) (lD (.rf (a.length+1)))) (fl:=aA 5) (bf W) ci) aV) (by ext aJ;rw[cJ (by rw[a9,VG];rfl)];rfl) (T1 fs));let U:=up (X:=[Cell.lst (fs.map λ_=>SV.fz (.bool U0))]) g;let g3:=up (X:=[Cell.lst (fs.map λ_=>SV.fz (.bool U0))]) g2;show ig c4 (fO ?_);generalize im a fs J++X++[Cell.lst (fs.map λ_=>SV.fz (.bool U0))]=Z5 at U g3⊢;show zF (gB (IG (iy W).1 U)) ?_;let g4:(Z5.set i (.lst []))[a.length]?=_:=(VX ()).trans g3;generalize Z5.set i (.lst [])=Z6 at g4⊢;let R:=(zT A F C H N (m:=100) () () Z6).out;cases e:gD [.fz (bD b),.fz (bD c),.fz (.int 100)] Z6 with
   |bad=>rw[e]at R;show R.elim
   |er x Z'=>rw[e]at R;let:=R.2.1;rw[Y]at this;ext this
   |ok v7 Z7=>
    rw[e]at R;rcases R with⟨_,_,_,_,_,_,_,_,_,_,G⟩|⟨i7,l7,rfl,hi7,Q,_,_,_,kp⟩
    .rw[Y]at G;ext G
    let f3:=z.len Q.u Q.r;let f4:=Q.len z.u z.r;let es:=Ft (es:=[]) (ρ:=G7 f b c (lD (.tp [.fz (.str "same"),.rf i])) UO (lD (.rf a.length)) (lD (.rf (a.length+1)))) ar3 W e;show nQ (b4 (k8 (aw (g7 es (ah aG) W W) aV) (by ext aJ;rw[show sh Z7 (AV.rf i7).sv=_ from cJ hi7];rfl) ((fq _).trans (by rw[UR,show l7.length=fs.length by ext]))) (E (kp _ _ g4)) (bL (STP.tE W))) W
 let(x,Z',h1,rfl):=key.all;ext L10.RD;rw[show[UU.list (f.map .int)].map SV.fz=[.fz (.list (f.map .int))]from rfl,h1]
end K51
local macro_rules| `(tactic|ext:4)=> `(tactic|exact⟨rfl,rfl,rfl,by left,rfl,by left,by left⟩)| `(tactic|ext:22)=> `(tactic|first
 |exact .head _
 |(apply List.Mem.tail;ext:22))
local macro_rules| `(tactic|ext:23)=> `(tactic|first
 |change L3.i6
 |change L3.lM
 |change L3.Cc
 |change L3.Kz
 |change L3.xN
 |change L3.Jr
 |change L3.vo
 |change L3.Ni
 |change L3.ME
 |change L3.Du)
local macro_rules| `(tactic|ext:18)=> `(tactic|·first
 |ext:23
 |change L3.cS
 |change L3.ju
 |change L3.KL
 |change L3.yI
 |change L3.Ay
 |change L3.LP
 |change L3.KW
 |change L3.Ed
 |change L3.E4
 |change L3.LA
 |change L3.Dg
 |change L3.eV
 |change L3.oE
 |change L3.MQ
 |change L3.wA
 |change L3.ur
 |change L3.Kp
 |change L3.Ml
 |change L3.pQ
 |change L3.Rx
 |change L3.pM
 |change L9.Bw
 |change L10.C2
 |change L3.pz
 |change L3.yI)
local macro_rules| `(tactic|ext:7)=> `(tactic|·first
 |change L3.az
 |change L3.aL
 |(exists L3.bW);ext:18;ext:7;ext:7
 |change L3.iY
 |(exists L3.gP);ext:15
 |(exists L3.pd);ext:18;ext:15
 |(exists L3.iu);ext:15
 |(exists L3.kz);ext:15
 |(exists L3.IQ);ext:7
 |change L3.kH
 |change L3.rM
 |(exists L3.Hs);ext:18;ext:7;ext:29;ext:29
 |(exists L3.IL);ext:7;ext:7
 |(exists L3.AY);ext:18;ext:7
 |(exists L9.PD);ext:7
 |(exists L3.yG);(·assumption))
local macro_rules| `(tactic|ext:15)=> `(tactic|·first
 |(exists L3.aH);ext:7;ext:15
 |change L3.bx)
local macro_rules| `(tactic|ext:19)=> `(tactic|·first
 |(exists L3.ji);(exists L3.bW);(·ext:23);ext:7;ext:7
 |(exists L3.MO);ext:19;ext:19
 |(exists L3.QK);ext:19;ext:19
 |(exists L3.Oq);ext:7
 |change L3.hG)
local macro_rules| `(tactic|ext:9)=> `(tactic|·first
 |change L3.cN
 |(exists L3.yJ);ext:9;ext:9
 |change L3.IS
 |(exists L3.Hv);ext:9
 |change L10.bq
 |(exists L10.tV);ext:9;ext:9
 |change L10.EW
 |(exists L10.Ef);ext:9)
local macro_rules| `(tactic|ext:24)=> `(tactic|·first
 |(exists L3.ky);ext:15
 |(exists L3.kI);ext:7
 |(exists L3.QI);ext:15
 |(exists L10.vt);ext:24
 |(exists L10.tF);ext:5)
local macro_rules| `(tactic|ext:29)=> `(tactic|·first
 |(exists L3.uL);ext:7
 |change L3.uQ)
local macro_rules| `(tactic|ext:5)=> `(tactic|·first
 |(exists L10.ao);ext:7
 |change L10.aC
 |(exists L10.AB);ext:5;ext:5
 |(exists L10.cU);ext:18;ext:5;ext:5
 |(exists L10.cQ);(·assumption);(·ext:22);ext:5
 |(exists L10.fA);ext:11
 |(exists L10.iW);ext:11
 |(exists L10.DL);ext:11
 |(exists L10.sW);ext:5;ext:5
 |(exists L10.jy);ext:11
 |(exists L10.b8);ext:5;ext:5
 |(exists L10.yO);(·assumption);ext:5;ext:11
 |(exists L10.AD);ext:5
 |(exists L10.AA);ext:5
 |(exists L10.HQ);ext:5;ext:5
 |(exists L10.MA);ext:5;ext:5
 |(exists L10.ez);ext:18;ext:11
 |(exists L10.pH);ext:5
 |(exists L10.pT);(·simp);ext:5
 |(exists L10.pO);ext:5;ext:5
 |(exists L10.QC);ext:12;ext:5;ext:5
 |(exists L10.KO);(·assumption);ext:11
 |(exists L10.IX);ext:5)
local macro_rules| `(tactic|ext:11)=> `(tactic|·first
 |(exists L10.ay);ext:5;ext:11
 |change L10.bc)
local macro_rules| `(tactic|ext:12)=> `(tactic|·first
 |(exists L10.cW);(exists L10.cU);(·ext:23);ext:5;ext:5
 |(exists L10.uY);ext:19
 |(exists L10.C3);ext:12;ext:12
 |(exists L10.lO);ext:12;ext:12
 |(exists L10.kG);ext:12
 |(exists L10.nk);ext:5)
local macro_rules| `(tactic|ext:1)=> `(tactic|·first
 |(exists L3.b7);ext:1;ext:1
 |(exists L3.ot);ext:7;ext:9
 |(exists L3.RI);ext:19;ext:1;ext:1
 |(exists L3.i9);ext:7
 |(exists L3.D0);ext:7
 |change L3.La
 |(exists L3.BX);ext:24;ext:9;ext:1
 |(exists L10.aQ);ext:1;ext:1
 |(exists L10.cB);ext:5;ext:9
 |(exists L10.fS);ext:12;ext:1;ext:1
 |(exists L10.gh);ext:5
 |(exists L10.cO);ext:5
 |(exists L10.Iw);ext:5;ext:5;ext:5
 |(exists L10.my);(·assumption);(·ext:22);ext:5;ext:5
 |change L10.dc
 |(exists L10.x0);ext:24;ext:9;ext:1
 |(exists L10.qJ);ext:12;ext:1
 |change L10.Jz
 |change L10.wj)
local macro_rules| `(tactic|ext:6)=> `(tactic|·first
 |exact L2.bj
 |exact L2.je (by assumption)
 |exact L2.lK (by assumption)
 |exact L3.uj (by assumption)
 |exact L3.Nq (by assumption)
 |exact L9.xu
 |exact L3.jz
 |exact L3.sN
 |exact L3.xa
 |exact L2.PU
 |exact L2.Da
 |exact L2.Ia
 |exact L3.DA
 |exact L2.Qq
 |exact L2.Jx
 |exact L2.Qx
 |exact L2.Dt
 |exact L2.NQ
 |exact L2.NX
 |exact L2.Ql
 |exact L2.Jc
 |exact L2.GX
 |exact L2.Jh
 |exact L2.cK
 |exact L2.gS
 |exact L2.xg
 |exact L3.jU
 |exact L2.iR
 |exact L10.wc
 |exact L2.tY
 |exact L3.yd
 |exact L2.Ez
 |exact agG
 |exact L2.gH
 |exact L2.mI
 |exact L2.uZ
 |exact L2.NU
 |exact L2.zk
 |exact L2.AE
 |exact L2.Ou
 |exact L10.OY
 |exact L2.gp
 |change Wu
 |change Xm
 |change Xn
 |change PySem.F.slot_list_insert
 |change PySem.F.type_list_insert
 |change PySem.F.slot_list_extend
 |change PySem.F.type_list_extend
 |change ZP
 |change ZI
 |change acx
 |exact L2.Fx rfl
 |exact L3.lF rfl
 |exact L3.zQ rfl
 |exact L10.tM rfl
 |exact L10.u7 rfl
 |exact L10.Cn rfl
 |rfl)
local macro_rules| `(tactic|ext:3)=> `(tactic|·first
 |(exists L2.pv);(·rfl);(·(first|exact a7 rfl|exact bb (a7 rfl)|exact bb (bb rfl)));(·decide);(·decide)
 |change L2.aK
 |(exists L2.bG);ext:6;ext:3;ext:3;(·exact λ_ _=>rfl)
 |change L2.jd
 |(exists L2.jD);ext:6;ext:3;ext:3
 |(exists L2.DS);(·assumption);ext:3;ext:3;(·exact λ_ _=>rfl)
 |(exists L2.cG);(·assumption);(·assumption);ext:8;(·decide);(·rfl);(·decide);(·rfl);(·rfl)
 |(exists L2.d8);ext:8
 |change L2.jJ
 |(exists L2.kE);ext:8
 |(exists L2.bF);ext:6;(·rfl);(·assumption);ext:6;ext:8;(·decide);(·decide);(·rfl);(·rfl)
 |(exists L2.iV);ext:6;(·rfl);(·assumption);ext:6;ext:8;(·decide);(·decide);(·rfl);(·rfl)
 |(exists L2.sQ);(·rfl);(·assumption);(·(first|rfl|exact⟨_,rfl⟩));(·decide)
 |change L2.rG
 |(exists L2.fx);ext:6;ext:3;ext:3;(·(first|rfl|with_unfolding_all rfl))
 |(apply L2.dX);ext:3;(·rfl)
 |(apply L2.zA);ext:6;ext:6;ext:6;ext:6;ext:3;ext:8;(·rfl);(·rfl);(·decide);(·rfl);(·rfl)
 |(exists L2.IU);ext:13;ext:3;ext:3
 |(apply L2.xb);ext:6;ext:6;ext:6;ext:6;ext:3;(·rfl);(·decide)
 |(exists L2.u8);ext:3
 |(exists L2.rq);ext:3;ext:3
 |(exists L2.GZ);ext:30;(·(first|rfl|with_unfolding_all rfl))
 |(exists L2.zg);ext:6;ext:3
 |(apply L2.lY);ext:6;ext:3;ext:25;ext:25
 |(apply L2.QO);ext:3;ext:25
 |(apply L2.GK);ext:3;ext:3;(·exact⟨rfl,rfl,rfl,rfl⟩)
 |(exists L2.oW);(·rfl);(·assumption);ext:6;(·(first|rfl|exact⟨_,rfl⟩));(·decide);(·decide)
 |(apply L10.E3);(·assumption);ext:6;(·assumption);ext:3;ext:8;(·decide);(·rfl);(·rfl);(·rfl)
 |(apply L10.Jq);(·assumption);ext:6;(·assumption);ext:3;(·decide);(·rfl)
 |(apply L10.NJ);(·assumption);ext:6;(·assumption);ext:8;(·decide);(·rfl);(·decide);(·rfl);(·rfl)
 |(apply L10.Ee);(·rfl);(·rfl);(·assumption);ext:8;(·rfl))
local macro_rules| `(tactic|ext:8)=> `(tactic|·first
 |(exists L2.ai);ext:3;ext:8;(·rfl)
 |change L2.aB)
local macro_rules| `(tactic|ext:13)=> `(tactic|·first
 |(exists L2.dg);ext:6;ext:3;ext:3;(·(first|rfl|with_unfolding_all rfl))
 |(exists L2.oA);ext:13
 |(exists L2.Cr);ext:30;(·(first|rfl|with_unfolding_all rfl))
 |(exists L2.PW.pt);ext:26
 |(exists L2.k6);ext:3;(·(intro _;rfl)))
local macro_rules| `(tactic|ext:26)=> `(tactic|·first
 |(exists L2.En);ext:13
 |(exists L2.J3);ext:13;ext:26
 |(exists L2.uH);ext:13
 |(exists L2.rJ);ext:13;ext:26)
local macro_rules| `(tactic|ext:30)=> `(tactic|·first
 |(exists L2.P3);(·assumption);ext:3;ext:3)
local macro_rules| `(tactic|ext:21)=> `(tactic|·first
 |(exists L2.b5);(·(first|assumption|left));(·rfl);(·(first|exact a7 rfl|exact bb rfl|assumption|rfl));(·(first|exact a7 rfl|exact bb rfl|assumption|rfl))
 |(exists L2.lZ);ext:21;ext:21;(·rfl)
 |change L2.xS
 |(apply L2.CG);(·rfl);ext:21;(·rfl);(·rfl))
local macro_rules| `(tactic|ext:34)=> `(tactic|·first
 |(exists L2.gL);(·rfl);(·assumption);ext:8;(·rfl)
 |(apply L3.P8);(·rfl);(·assumption);ext:8;(·rfl);(·rfl)
 |(apply L3.fH);ext:3)
local macro_rules| `(tactic|ext:25)=> `(tactic|·first
 |change L2.pf
 |(exists L2.oX);ext:3)
local macro_rules| `(tactic|ext:2)=> `(tactic|·first
 |(exists L2.aU);ext:2
 |change L2.eA
 |(exists L2.au);ext:2;ext:2
 |(exists L2.cF);(·(first|assumption|left));(·rfl);(·(first|exact a7 rfl|exact bb rfl|assumption|rfl));ext:3;(·rfl);(·(first|exact a7 rfl|exact bb rfl|assumption|rfl))
 |(exists L2.gz);ext:3;(·rfl)
 |(exists L2.b9);ext:3
 |(exists L2.jc);ext:13;ext:2;ext:2
 |(exists L2.ri);ext:6;(·rfl);ext:34;ext:21;ext:2;(·(intro _;rfl))
 |(apply L2.qG);ext:3;ext:3;(·rfl)
 |(exists L2.MK);(·assumption);ext:3;ext:3;ext:3;(·rfl)
 |(exists L2.Jn);ext:3;ext:21;(·rfl);(·rfl);(·rfl)
 |change L2.MP
 |(exists L2.ug);ext:6;ext:13;ext:2
 |change L2.zL)
local macro_rules| `(tactic|ext:10)=> `(tactic|(intros;refine L3.Bm (by ext:1) ?_;first|(apply L2.au);ext:2;ext:2|(apply L2.aU);ext:2))| `(tactic|ext:27)=> `(tactic|(intros;refine L3.Dj (by ext:1) ?_;first|(apply L2.au);ext:2;ext:2|(apply L2.aU);ext:2))
namespace K51
open PySem L2 L3 STP
def top(i:Nat):Xx:=PySem.Challenge.pw_chordbed_k51_two_beds_walked.main.body.getD i (.Pass ⟨0,0,0,0⟩)
def fb:Xx->G Xx
 |.For _ _ b _ _=>b
 |.If _ b _ _=>b
 |_=>[]
def ss:V8->V8
 |.Subscript _ v _=>v
 |e=>e
def lp:V8->Pos
 |.List _ p=>p
 |_=>⟨0,0,0,0⟩
def fI:Xx->V8
 |.For _ i _ _ _=>i
 |_=>.Name "" ⟨0,0,0,0⟩
def nP:Xx->Pos
 |.Assign [.Name _ p] _ _=>p
 |_=>⟨0,0,0,0⟩
def sv:V8->V8
 |.Subscript v _ _=>v
 |e=>e
def le:V8->G V8
 |.List l _=>l
 |_=>[]
def bl:V8->V8
 |.BinOp a _ _ _=>a
 |e=>e
def dK:V8->G (I V8)
 |.Dict k _ _=>k
 |_=>[]
def dV:V8->G V8
 |.Dict _ v _=>v
 |_=>[]
section
variable{P:Vn}{w:VJ}{K:UN}{Y:Str->br UQ}{base:Heap}{f:UX}{X:We}
theorem zR(F:Yp K "layer_of" "layer_of" (top 8) f X)(b:Y "max"=S):FnOk P w K Y base dR 1 f X ["standing"] (pG K 1 eD):=mY (N:=["standing"]) (g:=nZ) F (by ext:4) W W W λl A a s H E nd j e d h=>Dj (b7 (by ext:1)
   (i9 (pd L10.C2 (aH (gQ W W (kI (bW cS az aL)) (Hv (yJ cN (yJ cN IS))) (ji (bW i6 (bW cS az aL) iY)) (bW cS az aL)) bx)))) (au (by ext:2)
   (aU (b9 (L10.Ee W W b (ai (fC ["key","act"] [] W (fH (bG bj (pv 0) aK (λ_ _=>W))) (λ_ _ _ _=>(CG W (lZ (b5 (i:=0) (show Wm (["key","act"]:G Str) by left) W (a7 W)) (lZ (b5 (i:=1) (show Wm (["key","act"]:G Str) by left) W (a7 W)) xS)))) (λ_ _ _ _=>(ui (dg (je e) (bG bj (pv 1) aK (λ_ _=>W)) jd (cV _)))) (λ_ _ _ _=>(bG bj (pv 1) aK (λ_ _=>W))) trivial W) aB)))))
theorem yj(F:Yp K "looked_up" "looked_up" (top 12) f X):FnOk P w K Y base dR 1 f X ["bed","layer","key"] (pG K 3 jA):=mY (N:=["bed","layer","key","meaning"]) (g:=mw) F (by ext:4) W W W λi A a s H E nd h e b d=>Dj (b7 (by ext:1)
   (b7 (by ext:1)
   (i9 az))) (au (by ext:2)
   (au (by ext:2)
   (aU (b9 (pv 3)))))
theorem tL(F:Yp K "chords_over" "chords_over" (top 13) f X)(b:Y "all"=S):FnOk P w K Y base dR 1 f X ["bed","keys"] (pG K 2 bT):=mY (N:=["bed","keys"]) (g:=jN) F (by ext:4) W W W λl A a s H E nd j h e d=>Dj (i9 (gQ W W (kI (bW cS az aL)) cN (Oq (pd ur (aH (gQ W W (kI az) cN hG (bW vo az (bW cS az aL))) bx))) az)) (aU (b9 (fC ["chord"] [("keys",1)] W (fH (bG bj (pv 0) aK (λ_ _=>W))) (λ_ _ _ _=>(b5 (i:=0) (show Wm (["chord","keys"]:G Str) by left) W (bb W))) (λ_ _ _ _=>(ui (k6 (bF (lF W) W b AE (ai (fC ["key"] [("chord",0)] W (fH (pv 1)) (λ_ _ _ _=>(b5 (i:=0) (show Wm (["key","chord"]:G Str) by left) W (a7 W))) (λ_ _ _ _=>dZ) (λ_ _ _ _=>(fx (uj d) (pv 0) (bG bj (pv 1) aK (λ_ _=>W)) (by with_unfolding_all rfl))) ⟨⟨W,W,a7 W⟩,trivial⟩ W) aB))))) (λ_ _ _ _=>(pv 0)) ⟨⟨W,W,a7 W⟩,trivial⟩ W)))
theorem vS(F:Yp K "chord_acts" "chord_acts" (top 14) f X)(o:Y "list"=S)(j:Y "sorted"=S)(q:Y "len"=S){a:M}(h:Y "NONE"=R (.ref a))(e:∀O H,DV O K H (.ref a) (.tuple [(.str "none")])):FnOk P w K Y base dR 1 f X ["bed","keys"] (pG K 2 gr):=mY (N:=["bed","keys","chord"]) (g:=kF) F (by ext:4) W W W λp A b s H E nd n m d l=>Dj (b7 (by ext:1)
   (i9 (gQ W W (kI az) cN hG (bW cS (bW cS (bW cS az aL) aL) az)))) (au (by ext:2)
   (aU (b9 (fC ["key"] [("bed",0)] W (fH (pv 1)) (λ_ _ _ _=>(b5 (i:=0) (show Wm (["key","bed"]:G Str) by left) W (a7 W))) (λ_ _ _ _=>dZ) (λ_ _ _ _=>(bG bj (bG bj (bG bj (pv 1) aK (λ_ _=>W)) aK (λ_ _=>W)) (pv 0) (λ_ _=>W))) ⟨⟨W,W,a7 W⟩,trivial⟩ W))))
theorem xw(F:Yp K "_law_cell" "_law_cell" (top 21) f X)(j:Y "len"=S):FnOk P w K Y base dR 1 f X ["_law_script","_law_k"] (pG K 2 bQ):=mY (N:=["_law_script","_law_k"]) (g:=rQ) F (by ext:4) W W W λi A a s H E nd h e b d=>Dj (b7 (by ext:1)
   (i9 aL)) (au (by ext:2)
   (aU (b9 aK)))
theorem xM(F:Yp K "_law_take" "_law_take" (top 22) f X)(a:Y "range"=S):FnOk P w K Y base dR 1 f X ["_law_cell_here","_law_salt","_law_many"] (pG K 3 aR):=mY (N:=["_law_cell_here","_law_salt","_law_many","_law_turn","_law_number"]) (g:=g8) F (by ext:4) W W W (by delta g8;ext:27)
theorem vj(F:Yp K "_law_letter" "_law_letter" (top 23) f X)(e:fU P w K Y base 1 "_law_take" ["_law_cell_here","_law_salt","_law_many"] 3 aR):FnOk P w K Y base dR 2 f X ["_law_cell_here","_law_salt"] (pG K 2 dJ):=mY (N:=["_law_cell_here","_law_salt"]) (g:=nJ) F (by ext:4) W W W λj A a s H E nd d i b h=>Dj (i9 (bW yI iY (gP (aH az (aH az (aH aL bx)))))) (aU (b9 (bG bj jd (cG e d (ai (pv 0) (ai (pv 1) (ai aK aB)))) (λ_ _=>W))))
theorem rX(F:Yp K "_law_meaning" "_law_meaning" (top 24) f X)(d:fU P w K Y base 1 "_law_take" ["_law_cell_here","_law_salt","_law_many"] 3 aR)(b:fU P w K Y base 2 "_law_letter" ["_law_cell_here","_law_salt"] 2 dJ)(a:Y "max"=S):FnOk P w K Y base dR 3 f X ["_law_cell_here","_law_layer","_law_many"] (pG K 3 eT):=mY (N:=["_law_cell_here","_law_layer","_law_many","_law_way","_law_level"]) (g:=eY) F (by ext:4) W W W (by delta eY;ext:27)
theorem vn(F:Yp K "_law_chords" "_law_chords" (top 25) f X)(p:fU P w K Y base 1 "_law_take" ["_law_cell_here","_law_salt","_law_many"] 3 aR)(e:Y "range"=S)(j:Y "tuple"=S)(l:Y "len"=S)(b:Y "all"=S):FnOk P w K Y base dR 2 f X ["_law_cell_here","_law_keys_here","_law_first"] (pG K 3 gR):=mY (N:=["_law_cell_here","_law_keys_here","_law_first","_law_found","_law_mask","_law_some","_law_good"]) (g:=gX) F (by ext:4) W W W λo A a s H E nd n d h m=>Dj (b7 (by ext:1)
   (b7 (BX (ky (aH (bW Dg aL az) bx)) cN (b7 (ot (pd oE (aH (gQ W W (ky (aH az bx)) cN (ji (bW i6 (bW Ed (bW E4 az az) aL) aL)) az) bx)) cN)
   (b7 (ot (IL (bW xN (pd eV (aH az bx)) aL) (pd ur (aH (gQ W W (kI az) cN hG (bW i6 (bW cS (bW cS az az) aL) iY)) bx))) cN)
   (by ext:1))))
   (by ext:1))) (au (by ext:2)
   (au (ri Ze.never W (gL W e (ai (jD Jh aK (pv 1)) aB)) (b5 (i:=4) nd W (bb W)) (au (cF (i:=5) nd W (a7 W) (iV gS W j mI (ai (fC ["_law_key"] [("_law_mask",4)] W (gL W e (ai (pv 1) aB)) (λ_ _ _ _=>(b5 (i:=0) (show Wm (["_law_key","_law_mask"]:G Str) by left) W (a7 W))) (λ_ _ _ _=>(ui (dg (je d) (jD GX (jD Jc (pv 1) (pv 0)) aK) aK (cV _)))) (λ_ _ _ _=>(pv 0)) ⟨⟨W,W,a7 W⟩,trivial⟩ W) aB)))
   (au (cF (i:=6) nd W (a7 W) (rq (fx Da (bF cK W l gH (ai (pv 5) aB)) aK (cV _)) (u8 (bF (lF W) W b AE (ai (fC ["_law_key"] [("_law_first",2)] W (fH (pv 5)) (λ_ _ _ _=>(b5 (i:=0) (show Wm (["_law_key","_law_first"]:G Str) by left) W (a7 W))) (λ_ _ _ _=>dZ) (λ_ _ _ _=>(fx (je d) (bG bj (bG bj (pv 1) (pv 0) (λ_ _=>W)) aK (λ_ _=>W)) jd (cV _))) ⟨⟨W,W,a7 W⟩,trivial⟩ W) aB)))))
   (aU (by ext:2)))))
   (aU (by ext:2))))
theorem Af(F:Yp K "_law_bed" "_law_bed" (top 26) f X)(m:fU P w K Y base 1 "_law_cell" ["_law_script","_law_k"] 2 bQ)(q:fU P w K Y base 1 "_law_take" ["_law_cell_here","_law_salt","_law_many"] 3 aR)(j:fU P w K Y base 3 "_law_meaning" ["_law_cell_here","_law_layer","_law_many"] 3 eT)(h:fU P w K Y base 2 "_law_chords" ["_law_cell_here","_law_keys_here","_law_first"] 3 gR)(d:Y "range"=S)(l:Y "tuple"=S):FnOk P w K Y base dR 4 f X ["_law_script","_law_at","_law_keys_here"] (pG K 3 fQ):=mY (N:=["_law_script","_law_at","_law_keys_here","_law_cell_here","_law_many","_law_layers","_law_layer","_law_cells","_law_chords_here"]) (g:=kJ) F (by ext:4) W W W λp A a s H E nd b o e n=>Dj (b7 (by ext:1)
   (b7 (by ext:1)
   (b7 (ot (kz bx) cN)
   (b7 (BX (ky (aH az bx)) cN (b7 (ot (gQ W W (ky (aH az bx)) cN hG (gP (aH az (aH (bW ju (bW ju (bW ju az aL) (bW Ay az az)) az) bx)))) cN)
   (D0 (IQ (pd oE (aH (gQ W W (kI az) cN hG (gP (aH az (aH az (aH az bx))))) bx))))))
   (b7 (by ext:1)
   (by ext:1)))))) (au (by ext:2)
   (au (by ext:2)
   (au (cF (i:=5) nd W (a7 W) (kE aB))
   (au (ri Ze.never W (gL W d (ai (pv 4) aB)) (b5 (i:=6) nd W (bb W)) (au (w9 (i:=7) ["_law_key"] [("_law_script",0),("_law_at",1),("_law_keys_here",2),("_law_layer",6)] nd W W W (gL W d (ai (pv 2) aB)) (λ_ _ _ _=>(b5 (i:=0) (show Wm (["_law_key","_law_script","_law_at","_law_keys_here","_law_layer"]:G Str) by left) W (a7 W))) (λ_ _ _ _=>dZ) (λ_ _ _ _=>(cG m b (ai (pv 1) (ai (jD jz (jD jz (jD jz (pv 2) aK) (jD DA (pv 3) (pv 4))) (pv 0)) aB)))) ⟨⟨W,W,a7 W⟩,⟨⟨W,W,a7 W⟩,⟨⟨W,W,a7 W⟩,⟨⟨W,W,a7 W⟩,trivial⟩⟩⟩⟩ W)
   (aU (gz (zA Wu Xm Xn iR (pv 5) (ai (iV gS W l mI (ai (fC ["_law_one"] [("_law_layer",6),("_law_many",4)] W (fH (pv 7)) (λ_ _ _ _=>(b5 (i:=0) (show Wm (["_law_one","_law_layer","_law_many"]:G Str) by left) W (a7 W))) (λ_ _ _ _=>dZ) (λ_ _ _ _=>(cG j b (ai (pv 0) (ai (pv 1) (ai (pv 2) aB))))) ⟨⟨W,W,a7 W⟩,⟨⟨W,W,a7 W⟩,trivial⟩⟩ W) aB)) aB))))))
   (au (by ext:2)
   (aU (by ext:2)))))))
theorem xH(F:Yp K "_law_keys" "_law_keys" (top 27) f X)(e:fU P w K Y base 1 "_law_cell" ["_law_script","_law_k"] 2 bQ)(h:fU P w K Y base 1 "_law_take" ["_law_cell_here","_law_salt","_law_many"] 3 aR):FnOk P w K Y base dR 2 f X ["_law_script"] (pG K 1 jC):=mY (N:=["_law_script"]) (g:=rO) F (by ext:4) W W W λl A a s H E nd b j d i=>Dj (i9 (bW cS (kz (aH aL (aH aL (aH aL (aH aL bx))))) (gP (aH (gP (aH az (aH aL bx))) (aH aL (aH aL bx)))))) (aU (b9 (bG bj (kE (ai aK (ai aK (ai aK (ai aK aB))))) (cG h b (ai (cG e b (ai (pv 0) (ai aK aB))) (ai aK (ai aK aB)))) (λ_ _=>W))))
theorem zu(F:Yp K "_law_put" "_law_put" (top 29) f X):FnOk P w K Y base dR 1 f X ["_law_row","_law_at","_law_thing"] (pG K 3 eB):=mY (N:=["_law_row","_law_at","_law_thing"]) (g:=uU) F (by ext:4) W W W λi A a s H E nd h e b d=>Dj (i9 (bW pz (bW pz (Hs pQ az uQ (uL az)) (iu (aH az bx))) (Hs pQ az (uL (bW pz az aL)) uQ))) (aU (b9 (jD sN (jD sN (lY yd (pv 0) pf (oX (pv 1))) (d8 (ai (pv 2) aB))) (lY yd (pv 0) (oX (jD sN (pv 1) aK)) pf))))
theorem oO(F:Yp K "_law_other_bed" "_law_other_bed" (top 30) f X)(l:fU P w K Y base 1 "_law_cell" ["_law_script","_law_k"] 2 bQ)(n:fU P w K Y base 1 "_law_take" ["_law_cell_here","_law_salt","_law_many"] 3 aR)(d:fU P w K Y base 1 "_law_put" ["_law_row","_law_at","_law_thing"] 3 eB)(j:fU P w K Y base 4 "_law_bed" ["_law_script","_law_at","_law_keys_here"] 3 fQ)(o:Y "len"=S):FnOk P w K Y base dR 5 f X ["_law_script","_law_bed_here"] (pG K 2 fE):=mY (N:=["_law_script","_law_bed_here","_law_keys_here","_law_layers","_law_chords_here","_law_wait","_law_cell_here","_law_way","_law_layer","_law_key","_law_meaning_here","_law_letter_here"]) (g:=fy) F (by ext:4) W W W λm A a s H E nd i h b e=>Dj (b7 (by ext:1)
   (b7 (by ext:1)
   (b7 (by ext:1)
   (b7 (by ext:1)
   (b7 (by ext:1)
   (b7 (by ext:1)
   (b7 (by ext:1)
   (b7 (by ext:1)
   (b7 (by ext:1)
   (b7 (by ext:1)
   (b7 (by ext:1)
   (b7 (by ext:1)
   (i9 az))))))))))))) (au (by ext:2)
   (au (by ext:2)
   (au (by ext:2)
   (au (by ext:2)
   (au (by ext:2)
   (au (by ext:2)
   (au (by ext:2)
   (au (by ext:2)
   (au (by ext:2)
   (au (by ext:2)
   (au (by ext:2)
   (au (by ext:2)
   (aU (b9 (pv 1)))))))))))))))
theorem uV(F:Yp K "_law_events" "_law_events" (top 28) f X)(a:Y "range"=S):FnOk P w K Y base dR 1 f X ["_law_bed_here"] (pG K 1 cj):=mY (N:=["_law_bed_here","_law_found","_law_word","_law_key"]) (g:=jL) F (by ext:4) W W W (by delta jL;ext:27)
theorem xl(F:Yp K "events_of" "events_of" (top 16) f X)(b:Y "range"=S):FnOk P w K Y base dR 1 f X ["bed"] (pG K 1 g9):=mY (N:=["bed","downs","ups"]) (g:=l6) F (by ext:4) W W W λl A a s H E nd j h d e=>Dj (b7 (ot (gQ W W (ky (aH (bW cS az aL) bx)) cN hG (iu (aH iY (aH az bx)))) cN)
   (b7 (ot (gQ W W (ky (aH (bW cS az aL) bx)) cN hG (iu (aH iY (aH az bx)))) cN)
   (by ext:1))) (au (w9 (i:=1) ["key"] [] nd W W W (gL W b (ai (bG bj (pv 0) aK (λ_ _=>W)) aB)) (λ_ _ _ _=>(b5 (i:=0) (show Wm (["key"]:G Str) by left) W (a7 W))) (λ_ _ _ _=>dZ) (λ_ _ _ _=>(d8 (ai jd (ai (pv 0) aB)))) trivial W)
   (au (w9 (i:=2) ["key"] [] nd W W W (gL W b (ai (bG bj (pv 0) aK (λ_ _=>W)) aB)) (λ_ _ _ _=>(b5 (i:=0) (show Wm (["key"]:G Str) by left) W (a7 W))) (λ_ _ _ _=>dZ) (λ_ _ _ _=>(d8 (ai jd (ai (pv 0) aB)))) trivial W)
   (aU (by ext:2))))
theorem uw(F:Yp K "_law_unlike" "_law_unlike" (top 32) f X)(l:fU P w K Y base 1 "_law_events" ["_law_bed_here"] 1 cj)(i:fU P w K Y base 8 "step" ["bed","standing","event"] 3 dQ):FnOk P w K Y base dR 9 f X ["_law_one","_law_other","_law_pair"] (pG K 3 fK):=mY (N:=["_law_one","_law_other","_law_pair","_law_event"]) (g:=nz) F (by ext:4) W W W λj A a s H E nd h e b d=>Dj (b7 (by ext:1)
   (i9 rM)) (au (by ext:2)
   (aU (b9 rG)))
end
end K51
namespace K51
open PySem L2 L3 L10 STP
section
variable{P:Vn}{w:VJ}{K:UN}{Y:Str->br UQ}{base:Heap}{f:UX}{X:We}
theorem qM(F:Yp K "__init__" "Hand.__init__" (bw (top 11) 0) f X)(e:ib K "Hand" ["bed","acts","waiting","once","sent"])(d:Y "dict"=S):FnOk P w K Y base dR 3 f X ["self","bed","standing"] (ei K 3 eG):=jR (N:=["self","bed","standing"]) (g:=lg) F (by ext:4) W W W λl A a s H E nd j i b h=>Bm (aQ (my e (.head _) aC (ao az))
   (aQ (by ext:1)
   (aQ (by ext:1)
   (aQ (by ext:1)
   (by ext:1))))) (au (qG (pv 0) (pv 1) W)
   (au (by ext:2)
   (au (by ext:2)
   (au (by ext:2)
   (aU (by ext:2))))))
theorem uh(F:Yp K "stands" "Hand.stands" (bw (top 11) 1) f X)(a:ib K "Hand" ["bed","acts","waiting","once","sent"])(h:Y "tuple"=S)(e:Y "sorted"=S):FnOk P w K Y base dR 3 f X ["self"] (ei K 1 bU):=jR (N:=["self"]) (g:=nu) F (by ext:4) W W W λn A b s H E nd m l d j=>Bm (cO (jy (ay (ez oE (ay (tN W W (tF (AA (cQ a (.tail _ (.head _)) aC))) bq ki (jy (ay (ao az) (ay (AB (cQ a (.tail _ (.head _)) aC) (ao az)) bc)))) bc)) (ay (cQ a (.tail _ (.tail _ (.head _))) aC) (ay (cQ a (.tail _ (.tail _ (.tail _ (.head _)))) aC) bc))))) (aU (b9 (d8 (ai (iV gS W h mI (ai (fC ["key"] [("self",0)] W (fH (bF (u7 W) W e zk (ai (dX (pv 0) W) aB))) (λ_ _ _ _=>(b5 (i:=0) (show Wm (["key","self"]:G Str) by left) W (a7 W))) (λ_ _ _ _=>dZ) (λ_ _ _ _=>(d8 (ai (pv 0) (ai (DS d (dX (pv 1) W) (pv 0) (λ_ _=>W)) aB)))) ⟨⟨W,W,a7 W⟩,trivial⟩ W) aB)) (ai (dX (pv 0) W) (ai (dX (pv 0) W) aB))))))
theorem nY(F:Yp K "is_waiting" "Hand.is_waiting" (bw (top 11) 2) f X)(b:ib K "Hand" ["bed","acts","waiting","once","sent"]):FnOk P w K Y base dR 3 f X ["self","key"] (ei K 2 cz):=jR (N:=["self","key"]) (g:=jE) F (by ext:4) W W W λj A a s H E nd i h e d=>Bm (cO (pO (cU Du (cQ b (.tail _ (.tail _ (.head _))) aC) (ao kH)) (cU vo (ao az) (b8 (cQ b (.tail _ (.tail _ (.head _))) aC) (ao aL))))) (aU (b9 (rq (fx Dt (dX (pv 0) W) jJ (cV _)) (u8 (fx (uj d) (pv 1) (bG bj (dX (pv 0) W) aK (λ_ _=>W)) (by with_unfolding_all rfl))))))
theorem rY(F:Yp K "has_act" "Hand.has_act" (bw (top 11) 13) f X)(h:ib K "Hand" ["bed","acts","waiting","once","sent"])(e:Y "list"=S):FnOk P w K Y base dR 3 f X ["self","act"] (ei K 2 b3):=jR (N:=["self","act"]) (g:=lG) F (by ext:4) W W W λl A a s H E nd j i d b=>Bm (cO (cU vo (ao az) (AD (cQ h (.tail _ (.head _)) aC)))) (aU (b9 (fx (uj b) (pv 1) (iV (tM W) W e uZ (ai (xb ZP ZI acx wc (dX (pv 0) W)) aB)) (by with_unfolding_all rfl))))
theorem xC(F:Yp K "come" "Hand.come" (bw (top 11) 11) f X)(b:ib K "Hand" ["bed","acts","waiting","once","sent"])(a:cD P w K Y base dR 3 "Hand" "has_act" ["self","act"] (ei K 2 b3)):FnOk P w K Y base dR 4 f X ["self","key","act"] (ei K 3 bK):=jR (N:=["self","key","act"]) (g:=lB) F (by ext:4) W W W (by delta lB;ext:10)
theorem CH(F:Yp K "go" "Hand.go" (bw (top 11) 12) f X)(b:ib K "Hand" ["bed","acts","waiting","once","sent"])(a:cD P w K Y base dR 3 "Hand" "has_act" ["self","act"] (ei K 2 b3)):FnOk P w K Y base dR 4 f X ["self","key"] (ei K 2 ka):=jR (N:=["self","key","act"]) (g:=rh) F (by ext:4) W W W (by delta rh;ext:10)
theorem uA(F:Yp K "decide" "Hand.decide" (bw (top 11) 10) f X)(i:ib K "Hand" ["bed","acts","waiting","once","sent"])(n:cD P w K Y base dR 4 "Hand" "come" ["self","key","act"] (ei K 3 bK))(h:fU P w K Y base 1 "chord_acts" ["bed","keys"] 2 gr)(e:Y "zip"=S){b:M}(p:Y "CHORD"=R (.ref b))(o:∀O H,L3.DV O K H (.ref b) (.tuple [(.str "chord")])):FnOk P w K Y base dR 5 f X ["self"] (ei K 1 ck):=jR (N:=["self","keys","what","acts","key","act"]) (g:=nF) F (by ext:4) W W W λq A a s H E nd m l d j=>Bm (aQ (by ext:1)
   (aQ (by ext:1)
   (aQ (my i (.tail _ (.tail _ (.head _))) aC (ao kH))
   (aQ (by ext:1)
   (by ext:1))))) (au (by ext:2)
   (au (by ext:2)
   (au (qG (pv 0) jJ W)
   (au (by ext:2)
   (aU (by ext:2))))))
theorem nc(F:Yp K "makes_chord" "Hand.makes_chord" (bw (top 11) 4) f X)(j:ib K "Hand" ["bed","acts","waiting","once","sent"])(i:cD P w K Y base dR 3 "Hand" "stands" ["self"] (ei K 1 bU))(b:fU P w K Y base 1 "layer_of" ["standing"] 1 eD)(h:fU P w K Y base 1 "chords_over" ["bed","keys"] 2 bT){a:M}(e:Y "CHORD"=R (.ref a))(d:∀O H,L3.DV O K H (.ref a) (.tuple [(.str "chord")])):FnOk P w K Y base dR 4 f X ["self","key"] (ei K 2 eC):=jR (N:=["self","key"]) (g:=fV) F (by ext:4) W W W (by delta fV;ext:10)
theorem mr(F:Yp K "put_to_chord" "Hand.put_to_chord" (bw (top 11) 5) f X)(h:ib K "Hand" ["bed","acts","waiting","once","sent"])(n:cD P w K Y base dR 5 "Hand" "decide" ["self"] (ei K 1 ck))(m:fU P w K Y base 1 "chords_over" ["bed","keys"] 2 bT)(e:Y "len"=S){d:M}(q:Y "CHORD"=R (.ref d))(p:∀O H,L3.DV O K H (.ref d) (.tuple [(.str "chord")])):FnOk P w K Y base dR 6 f X ["self","key"] (ei K 2 dU):=jR (N:=["self","key","keys"]) (g:=iz) F (by ext:4) W W W λr A a s H E nd b l j o=>Bm (aQ (by ext:1)
   (aQ (by ext:1)
   (fS (cW (cU i6 (tN W W (tF (DL (ay (cQ h (.head _) aC) (ay (ao az) bc)))) bq ki (ao (pd eV (aH (bW cS az aL) bx)))) (ao (kz (aH (pd eV (aH az bx)) bx))))) (gh (yO h aC bc)) dc))) (au (by ext:2)
   (au (by ext:2)
   (aU (jc (dg (je l) (fC ["chord"] [] W (fH (cG m b (ai (dX (pv 0) W) (ai (pv 2) aB)))) (λ_ _ _ _=>(b5 (i:=0) (show Wm (["chord"]:G Str) by left) W (a7 W))) (λ_ _ _ _=>dZ) (λ_ _ _ _=>(bF cK W e gH (ai (bG bj (pv 0) aK (λ_ _=>W)) aB))) trivial W) (kE (ai (bF cK W e gH (ai (pv 2) aB)) aB)) (cV _)) (aU (gz (Jq n Ez b (pv 0)))) eA))))
theorem vY(F:Yp K "begin" "Hand.begin" (bw (top 11) 6) f X)(p:ib K "Hand" ["bed","acts","waiting","once","sent"])(o:cD P w K Y base dR 3 "Hand" "stands" ["self"] (ei K 1 bU))(j:cD P w K Y base dR 4 "Hand" "come" ["self","key","act"] (ei K 3 bK))(i:fU P w K Y base 1 "layer_of" ["standing"] 1 eD)(h:fU P w K Y base 1 "looked_up" ["bed","layer","key"] 3 jA)(n:fU P w K Y base 1 "chords_over" ["bed","keys"] 2 bT){b:M}(m:Y "CHORD"=R (.ref b))(l:∀O H,L3.DV O K H (.ref b) (.tuple [(.str "chord")])){a:M}(e:Y "NONE"=R (.ref a))(d:∀O H,L3.DV O K H (.ref a) (.tuple [(.str "none")])):FnOk P w K Y base dR 5 f X ["self","key"] (ei K 2 gC):=jR (N:=["self","key","layer","meaning","word"]) (g:=kM) F (by ext:4) W W W (by delta kM;ext:10)
theorem vQ(F:Yp K "press" "Hand.press" (bw (top 11) 3) f X)(i:ib K "Hand" ["bed","acts","waiting","once","sent"])(e:cD P w K Y base dR 3 "Hand" "is_waiting" ["self","key"] (ei K 2 cz))(d:cD P w K Y base dR 4 "Hand" "makes_chord" ["self","key"] (ei K 2 eC))(b:cD P w K Y base dR 6 "Hand" "put_to_chord" ["self","key"] (ei K 2 dU))(h:cD P w K Y base dR 5 "Hand" "decide" ["self"] (ei K 1 ck))(a:cD P w K Y base dR 5 "Hand" "begin" ["self","key"] (ei K 2 gC)):FnOk P w K Y base dR 7 f X ["self","key"] (ei K 2 iG):=jR (N:=["self","key"]) (g:=kX) F (by ext:4) W W W (by delta kX;ext:10)
theorem uO(F:Yp K "settle" "Hand.settle" (bw (top 11) 8) f X)(i:ib K "Hand" ["bed","acts","waiting","once","sent"])(h:cD P w K Y base dR 5 "Hand" "decide" ["self"] (ei K 1 ck))(b:cD P w K Y base dR 4 "Hand" "come" ["self","key","act"] (ei K 3 bK)){a:M}(e:Y "CHORD"=R (.ref a))(d:∀O H,L3.DV O K H (.ref a) (.tuple [(.str "chord")])):FnOk P w K Y base dR 6 f X ["self","key"] (ei K 2 gU):=jR (N:=["self","key","what"]) (g:=jK) F (by ext:4) W W W (by delta jK;ext:10)
theorem yx(F:Yp K "lift" "Hand.lift" (bw (top 11) 7) f X)(e:ib K "Hand" ["bed","acts","waiting","once","sent"])(d:cD P w K Y base dR 3 "Hand" "is_waiting" ["self","key"] (ei K 2 cz))(b:cD P w K Y base dR 6 "Hand" "settle" ["self","key"] (ei K 2 gU))(a:cD P w K Y base dR 4 "Hand" "go" ["self","key"] (ei K 2 ka)):FnOk P w K Y base dR 7 f X ["self","key"] (ei K 2 jx):=jR (N:=["self","key"]) (g:=mf) F (by ext:4) W W W (by delta mf;ext:10)
theorem rV(F:Yp K "wait_on" "Hand.wait_on" (bw (top 11) 9) f X)(b:ib K "Hand" ["bed","acts","waiting","once","sent"])(a:cD P w K Y base dR 5 "Hand" "decide" ["self"] (ei K 1 ck)):FnOk P w K Y base dR 6 f X ["self"] (ei K 1 gA):=jR (N:=["self","age"]) (g:=jh) F (by ext:4) W W W (by delta jh;ext:10)
theorem ER(F:Yp K "step" "step" (top 9) f X)(i:ib K "Hand" ["bed","acts","waiting","once","sent"])(a:zr P w K Y base dR 3 "Hand" ["self","bed","standing"] (ei K 3 eG))(e:cD P w K Y base dR 6 "Hand" "wait_on" ["self"] (ei K 1 gA))(d:cD P w K Y base dR 7 "Hand" "press" ["self","key"] (ei K 2 iG))(b:cD P w K Y base dR 7 "Hand" "lift" ["self","key"] (ei K 2 jx))(h:cD P w K Y base dR 3 "Hand" "stands" ["self"] (ei K 1 bU)):FnOk P w K Y base dR 8 f X ["bed","standing","event"] (ei K 3 STP.dQ):=jR (N:=["bed","standing","event","hand"]) (g:=BM) F (by ext:4) W W W (by delta BM;ext:10)
theorem se(F:Yp K "enter" "Places.enter" (bw (top 17) 1) f X)(b:ib K "Places" ["most","found","numbers"]){e j a:M}{d:We}{t:Obj}(l:L9.XC K e j a)(r:K.lookup a=R t)(p:Ya K (.ref a)=US)(n:FnOk P w K Y base dR 1 a d ["self","most"] (L9.yu e "most"))(q:Binds K d ["self","most"] [])(o:Vp K Vj "TooMany"=R (R (.ref e)))(m:Y "TooMany"=R (.ref e))(u:Y "len"=S):FnOk P w K Y base (L4.nw P w) 3 f X ["self","place","back","event"] (ei K 4 cy):=Om (N:=["self","place","back","event"]) (g:=d4) F (by ext:4) W W W λB A h s H E nd y i v z=>Bm (aQ (fS (nk (vF (ao az) (cQ b (.tail _ (.tail _ (.head _))) aC))) (aQ (fS (cW (cU Jr (ez eV (ay (cQ b (.tail _ (.head _)) aC) bc)) (cQ b (.head _) aC))) (CC o (cQ b (.head _) aC)) dc)
   (aQ (v9 (cQ b (.tail _ (.tail _ (.head _))) aC) (ao az) (ez eV (ay (cQ b (.tail _ (.head _)) aC) bc)))
   (gh (sW (cQ b (.tail _ (.head _)) aC) (ao (iu (aH az (aH az (aH az bx))))))))) dc)
   (cO (wK (cQ b (.tail _ (.tail _ (.head _))) aC) (ao az)))) (au (jc (Cr (LD.pc_ddnin i (pv 1) (dX (pv 0) W)) (by with_unfolding_all rfl)) (au (jc (dg NX (bF cK W u gH (ai (dX (pv 0) W) aB)) (dX (pv 0) W) (cV _)) (aU (L9.Fs l r p n q (y.mono ()) W m (ai (dX (pv 0) W) aB))) eA)
   (au (LD.ps_ddput i (dX (pv 0) W) (pv 1) (bF cK W u gH (ai (dX (pv 0) W) aB)) W)
   (aU (gz (zA Wu Xm Xn iR (dX (pv 0) W) (ai (d8 (ai (pv 1) (ai (pv 2) (ai (pv 3) aB)))) aB)))))) eA)
   (aU (b9 (LD.pe_ddget i (dX (pv 0) W) (pv 1) (λ_ _=>W)))))
theorem n9(F:Yp K "__init__" "Places.__init__" (bw (top 17) 0) f X)(a:ib K "Places" ["most","found","numbers"])(h:cD P w K Y base (L4.nw P w) 3 "Places" "enter" ["self","place","back","event"] (ei K 4 cy)):FnOk P w K Y base (L4.nw P w) 4 f X ["self","first","most"] (ei K 3 dA):=Om (N:=["self","first","most"]) (g:=dG) F (by ext:4) W W W λl A b s H E nd e j d i=>Bm (aQ (my a (.head _) aC (ao az))
   (aQ (my a (.tail _ (.head _)) aC (ao (kz bx)))
   (aQ (my a (.tail _ (.tail _ (.head _))) aC Fy)
   (gh (G3 a aC (ay (ao az) (ay (ao kH) (ay (ao kH) bc)))))))) (au (qG (pv 0) (pv 2) W)
   (au (qG (pv 0) (kE aB) W)
   (au (qG (pv 0) LD.pe_ddnew W)
   (aU (gz (E3 h L4.u0 e (pv 0) (ai (pv 1) (ai jJ (ai jJ aB)))))))))
theorem rl(F:Yp K "way_to" "Places.way_to" (bw (top 17) 2) f X)(m:ib K "Places" ["most","found","numbers"])(e:Y "list"=S)(b:Y "reversed"=S):FnOk P w K Y base dR 3 f X ["self","number"] (ei K 2 dw):=jR (N:=["self","number","row","place"]) (g:=ir) F (by ext:4) W W W λl A a s H E nd j i d h=>Bm (aQ (by ext:1)
   (aQ (by ext:1)
   (aQ (by ext:1)
   (cO (GH aC))))) (au (by ext:2)
   (au (by ext:2)
   (au (by ext:2)
   (aU (b9 (Cs W W e W b (pv 2)))))))
theorem LL{y:M}{e:Array UQ}(F:ac0 K "same" "same" (top 19) f X y e)(b:ib K "Places" ["most","found","numbers"])(h:zr P w K Y base (L4.nw P w) 4 "Places" ["self","first","most"] (ei K 3 dA))(r:cD P w K Y base dR 3 "Places" "way_to" ["self","number"] (ei K 2 dw))(t:cD P w K Y base (L4.nw P w) 3 "Places" "enter" ["self","place","back","event"] (ei K 4 cy))(m:BP P w K Y base 8 "step" ["bed","standing","event"] 3 STP.dQ)(j:fU P w K Y base 1 "events_of" ["bed"] 1 g9)(u:Y "len"=S){n:M}(o:Y "AT_REST"=R (.ref n))(p:∀O H,L3.DV O K H (.ref n) (.tuple [(.tuple []),.none,.none])):FnOk P w K Y base (L4.nw P w) 9 f X ["one","other","most"] (ei K 3 gD):=QT (N:=["one","other","most","events","pairs","number","standings","event","first","second"]) (g:=Bt) F (by ext:4) W W W λB A d s H E nd a l q z=>Bm (aQ (fS (uY (ji (bW lM (bW cS az aL) (bW cS az aL)))) wj dc)
   (aQ (cB (pH (ao (gP (aH az bx)))) bq)
   (aQ (cB (QZ b (ay (ao (iu (aH (yG p) (aH (yG p) bx)))) (ay (ao az) bc))) bq)
   (aQ (cB (ao aL) bq)
   (aQ (qJ (cW (cU Cc (ao az) (ez eV (ay (cQ b (.tail _ (.head _)) aC) bc)))) (aQ (cB (b8 (b8 (cQ b (.tail _ (.head _)) aC) (ao az)) (ao aL)) bq)
   (aQ (x0 (vt (kI az)) bq (aQ (cB (pH (iW (ay (ao az) (ay (ao (bW cS az aL)) (ay (ao az) bc))))) bq)
   (aQ (cB (pH (iW (ay (ao az) (ay (ao (bW cS az aL)) (ay (ao az) bc))))) bq)
   (aQ (fS (uY (ji (bW lM (bW cS az aL) (bW cS az aL)))) (cO (jy (ay (ao iY) (ay (cU ju (yO b aC (ay (ao az) bc)) (ao (kz (aH az bx)))) bc)))) dc)
   (gh (G3 b aC (ay (ao (iu (aH (bW cS az aL) (aH (bW cS az aL) bx)))) (ay (ao az) (ay (ao az) bc)))))))))
   (Nt Gf (ao aL)))))
   (cO (jy (ay (ao iY) (ay (tN W W (tF (cQ b (.tail _ (.head _)) aC)) bq ki (ao (bW cS az aL))) bc))))))))) (au (jc (dg (lK l) (bG bj (pv 0) aK (λ_ _=>W)) (bG bj (pv 1) aK (λ_ _=>W)) (cV _)) (aU zL) eA)
   (au (cF (i:=3) nd W (a7 W) (cG j a (ai (pv 0) aB)))
   (au (cF (i:=4) nd W (a7 W) (NJ h L4.u0 a (ai (d8 (ai (sQ (v:=.ref _) W o W) (ai (sQ (v:=.ref _) W o W) aB))) (ai (pv 2) aB))))
   (au (cF (i:=5) nd W (a7 W) aK)
   (au (ug Ze.leaving (dg Ia (pv 5) (bF cK W u gH (ai (dX (pv 4) W) aB)) (cV _)) (au (cF (i:=6) nd W (a7 W) (bG bj (bG bj (dX (pv 4) W) (pv 5) (λ_ _=>W)) aK (λ_ _=>W)))
   (au (ri Ze.leaving W (fH (pv 3)) (b5 (i:=7) nd W (a7 W)) (au (cF (i:=8) nd W (a7 W) (cG m a (ai (pv 0) (ai (bG bj (pv 6) aK (λ_ _=>W)) (ai (pv 7) aB)))))
   (au (cF (i:=9) nd W (a7 W) (cG m a (ai (pv 1) (ai (bG bj (pv 6) aK (λ_ _=>W)) (ai (pv 7) aB)))))
   (au (jc (dg (lK l) (bG bj (pv 8) aK (λ_ _=>W)) (bG bj (pv 9) aK (λ_ _=>W)) (cV _)) (aU (b9 (d8 (ai jd (ai (jD jz (E3 r Ez a (pv 4) (ai (pv 5) aB)) (kE (ai (pv 7) aB))) aB))))) eA)
   (aU (gz (E3 t L4.u0 a (pv 4) (ai (d8 (ai (bG bj (pv 8) aK (λ_ _=>W)) (ai (bG bj (pv 9) aK (λ_ _=>W)) aB))) (ai (pv 5) (ai (pv 7) aB))))))))))
   (aU (Rc (i:=5) nd W (a7 W) aK Mp)))))
   (aU (b9 (d8 (ai jd (ai (fC ["pair"] [] W (fH (dX (pv 4) W)) (λ_ _ _ _=>(b5 (i:=0) (show Wm (["pair"]:G Str) by left) W (a7 W))) (λ_ _ _ _=>dZ) (λ_ _ _ _=>(bG bj (pv 0) aK (λ_ _=>W))) trivial W) aB))))))))))
theorem Mw(F:Yp K "play" "play" (top 10) f X)(h:BP P w K Y base 8 "step" ["bed","standing","event"] 3 STP.dQ){b:M}(j:Y "AT_REST"=R (.ref b))(l:∀O H,L3.DV O K H (.ref b) (.tuple [(.tuple []),.none,.none])):FnOk P w K Y base dR 9 f X ["bed","events"] (ei K 2 qX):=jR (N:=["bed","events","standing","all_sent","event","answer"]) (g:=Ju) F (by ext:4) W W W λo A a s H E nd e n d m=>Bm (aQ (cB (ao (yG l)) bq)
   (aQ (cB (ao (kz bx)) bq)
   (aQ (JQ aC bq (aQ (cB (iW (ay (ao az) (ay (ao az) (ay (ao az) bc)))) bq)
   (aQ (gh (sW aC (b8 aC (ao aL))))
   (cB (b8 aC (ao aL)) bq))))
   (cO (jy (ay aC (ay aC bc))))))) (au (cF (i:=2) nd W (a7 W) (sQ (v:=.ref _) W j W))
   (au (cF (i:=3) nd W (a7 W) (kE aB))
   (au (ri Ze.never W (fH (pv 1)) (b5 (i:=4) nd W (a7 W)) (au (cF (i:=5) nd W (a7 W) (cG h e (ai (pv 0) (ai (pv 2) (ai (pv 4) aB)))))
   (au (gz (zA Wu Xm Xn iR (pv 3) (ai (bG bj (pv 5) aK (λ_ _=>W)) aB)))
   (aU (cF (i:=2) nd W (a7 W) (bG bj (pv 5) aK (λ_ _=>W)))))))
   (aU (b9 (d8 (ai (pv 3) (ai (pv 2) aB))))))))
theorem vN(F:Yp K "_law_pairs" "_law_pairs" (top 31) f X)(e:BP P w K Y base 8 "step" ["bed","standing","event"] 3 STP.dQ)(l:fU P w K Y base 1 "_law_events" ["_law_bed_here"] 1 cj)(h:Y "len"=S):FnOk P w K Y base dR 9 f X ["_law_one","_law_other","_law_cap"] (ei K 3 d9):=jR (N:=["_law_one","_law_other","_law_cap","_law_found","_law_known","_law_at","_law_event","_law_behind"]) (g:=kQ) F (by ext:4) W W W λn A b s H E nd d a j m=>Bm (aQ (cB (ao (kz (aH (iu (aH (iu (aH (iu bx) (aH kH (aH kH bx)))) (aH (iu (aH (iu bx) (aH kH (aH kH bx)))) bx))) bx))) bq)
   (aQ (cB (Lg (b8 aC (ao aL)) (ao aL)) bq)
   (aQ (cB (ao aL) bq)
   (aQ (qJ (C3 (cW (cU Cc (ao az) (ez eV (ay aC bc)))) (cW (cU Kz (ez eV (ay aC bc)) (ao az)))) (aQ (x0 (vt (kI (gP (aH az bx)))) bq (aQ (cB (pH (jy (ay (b8 (iW (ay (ao az) (ay (b8 (b8 aC (ao az)) (ao aL)) (ay (ao az) bc)))) (ao aL)) (ay (b8 (iW (ay (ao az) (ay (b8 (b8 aC (ao az)) (ao aL)) (ay (ao az) bc)))) (ao aL)) bc)))) bq)
   (fS (nk (vF (ao az) aC)) (aQ (v9 aC (ao az) (cU ju (wK aC (b8 aC (ao az))) (ao aL)))
   (gh (sW aC (ao az)))) dc)))
   (cB (ao (bW ju az aL)) bq)))
   (cO (jy (ay aC (ay aC bc)))))))) (au (cF (i:=3) nd W (a7 W) (kE (ai (d8 (ai (d8 (ai (d8 aB) (ai jJ (ai jJ aB)))) (ai (d8 (ai (d8 aB) (ai jJ (ai jJ aB)))) aB))) aB)))
   (au (cF (i:=4) nd W (a7 W) (LD.pe_dd1 a (bG bj (pv 3) aK (λ_ _=>W)) aK))
   (au (cF (i:=5) nd W (a7 W) aK)
   (au (ug Ze.never (PW.pt (J3 (dg Ia (pv 5) (bF cK W h gH (ai (pv 3) aB)) (cV _)) (En (dg NQ (bF cK W h gH (ai (pv 3) aB)) (pv 2) (cV _))))) (au (ri Ze.never W (fH (cG l d (ai (pv 0) aB))) (b5 (i:=6) nd W (a7 W)) (au (cF (i:=7) nd W (a7 W) (d8 (ai (bG bj (cG e d (ai (pv 0) (ai (bG bj (bG bj (pv 3) (pv 5) (λ_ _=>W)) aK (λ_ _=>W)) (ai (pv 6) aB)))) aK (λ_ _=>W)) (ai (bG bj (cG e d (ai (pv 1) (ai (bG bj (bG bj (pv 3) (pv 5) (λ_ _=>W)) aK (λ_ _=>W)) (ai (pv 6) aB)))) aK (λ_ _=>W)) aB))))
   (aU (jc (Cr (LD.pc_ddnin a (pv 7) (pv 4)) (by with_unfolding_all rfl)) (au (LD.ps_ddput a (pv 4) (pv 7) (jD jz (LD.pe_ddget a (pv 4) (bG bj (pv 3) (pv 5) (λ_ _=>W)) (λ_ _=>W)) aK) W)
   (aU (gz (zA Wu Xm Xn iR (pv 3) (ai (pv 7) aB))))) eA))))
   (aU (cF (i:=5) nd W (a7 W) (jD jz (pv 5) aK)))))
   (aU (b9 (d8 (ai (pv 3) (ai (pv 4) aB)))))))))
theorem vZ(F:Yp K "_law_apart" "_law_apart" (top 34) f X)(a:BP P w K Y base 9 "play" ["bed","events"] 2 qX)(o:fU P w K Y base 1 "_law_events" ["_law_bed_here"] 1 cj)(n:Y "isinstance"=S)(m:Y "list"=S)(h:Y "all"=S):FnOk P w K Y base dR 10 f X ["_law_one","_law_other","_law_row"] (ei K 3 fD):=jR (N:=["_law_one","_law_other","_law_row","_law_first","_law_second"]) (g:=o0) F (by ext:4) W W W λp A b s H E nd e d l j=>Bm (aQ (fS (lO (kG (nk (pT (by simp) aC))) (lO (cW (cU i6 aC (ao (kz bx)))) (kG (nk (ez ur (ay (qB W W aC bq ki (ao (bW vo az (gP (aH az bx))))) bc)))))) (cO (ao rM)) dc)
   (aQ (cB (b8 (fA (ay (ao az) (ay aC bc))) (ao aL)) bq)
   (aQ (cB (b8 (fA (ay (ao az) (ay aC bc))) (ao aL)) bq)
   (cO (pO (cU i6 (Dv aC Ap (zH (ao (AY pM aL)))) (Dv aC Ap (zH (ao (AY pM aL))))) (cU lM (b8 aC (ao (AY pM aL))) (b8 aC (ao (AY pM aL))))))))) (au (jc (PW.pt (rJ (oA (k6 (bF jU W n gp (ai (pv 2) (ai (oW (v:=.ty "list") W m uZ W) aB))))) (rJ (dg (je d) (pv 2) (kE aB) (cV _)) (uH (oA (k6 (bF (lF W) W h AE (ai (fC ["_law_event"] [("_law_one",0)] W (fH (pv 2)) (λ_ _ _ _=>(b5 (i:=0) (show Wm (["_law_event","_law_one"]:G Str) by left) W (a7 W))) (λ_ _ _ _=>dZ) (λ_ _ _ _=>(fx (uj j) (pv 0) (cG o e (ai (pv 1) aB)) (by with_unfolding_all rfl))) ⟨⟨W,W,a7 W⟩,trivial⟩ W) aB)))))))) (aU (b9 rG)) eA)
   (au (cF (i:=3) nd W (a7 W) (bG bj (cG a e (ai (pv 0) (ai (pv 2) aB))) aK (λ_ _=>W)))
   (au (cF (i:=4) nd W (a7 W) (bG bj (cG a e (ai (pv 1) (ai (pv 2) aB))) aK (λ_ _=>W)))
   (aU (b9 (rq (fx (je d) (lY xa (pv 3) pf (oX (zg tY aK))) (lY xa (pv 4) pf (oX (zg tY aK))) (cV _)) (u8 (fx (lK d) (bG bj (pv 3) (zg tY aK) (λ_ _=>W)) (bG bj (pv 4) (zg tY aK) (λ_ _=>W)) (cV _)))))))))
theorem Q2(F:Yp K "law" "law" (top 35) f X)(y:Gg P w K Y base (L4.nw P w) 9 "same" ["one","other","most"] [] (ei K 3 gD))(o:BP P w K Y base 11 "_law_same" ["_law_one","_law_other"] 2 cM)(q:BP P w K Y base 9 "_law_pairs" ["_law_one","_law_other","_law_cap"] 3 d9)(r:BP P w K Y base 10 "_law_apart" ["_law_one","_law_other","_law_row"] 3 fD)(m:fU P w K Y base 2 "_law_keys" ["_law_script"] 1 jC)(u:fU P w K Y base 4 "_law_bed" ["_law_script","_law_at","_law_keys_here"] 3 fQ)(C:fU P w K Y base 5 "_law_other_bed" ["_law_script","_law_bed_here"] 2 fE)(z:fU P w K Y base 9 "_law_unlike" ["_law_one","_law_other","_law_pair"] 3 fK)(d:Y "len"=S)(n:Y "isinstance"=S)(p:Y "tuple"=S)(B:Y "list"=S)(l:Y "all"=S)(h:Y "set"=S)(j:Y "any"=S):FnOk P w K Y base dR 12 f X ["_law_script"] (ei K 1 F_law):=jR (N:=["_law_script","_law_one","_law_other","_law_found","_law_again","_law_some","_law_known"]) (g:=NK) F (by ext:4) W W W λI A e s H E nd a b t G=>Bm (aQ (cB (ao (gP (aH az (aH aL (aH (gP (aH az bx)) bx))))) bq)
   (aQ (cB (ao (gP (aH az (aH az bx)))) bq)
   (aQ (cB (fA (ay (ao az) (ay (ao az) bc))) bq)
   (aQ (fS (cW (cU i6 aC (ao aL))) (cO (cU xN (ez eV (ay (b8 (fA (ay (ao az) (ay (ao az) (ay (ao aL) bc)))) (ao aL)) bc)) (ao aL))) dc)
   (aQ (fS (lO (kG (nk (pT (by simp) aC))) (lO (cW (cU lM (ez eV (ay aC bc)) (ao aL))) (kG (nk (pT (by simp) (b8 aC (ao aL))))))) (cO (ao rM)) dc)
   (aQ (fS (cW (cU i6 (b8 aC (ao aL)) (ao iY))) (aQ (fS (kG (nk (fA (ay (ao az) (ay (ao az) (ay (b8 aC (ao aL)) bc)))))) (cO (ao rM)) dc)
   (aQ (gh (Dc (b8 aC (ao aL))))
   (aQ (cB (fA (ay (ao az) (ay (ao az) bc))) bq)
   (cO (pO (pT (by simp) aC) (pO (cU i6 (b8 aC (ao aL)) (ao iY)) (fA (ay (ao az) (ay (ao az) (ay (b8 aC (ao aL)) bc)))))))))) dc)
   (aQ (cB (fA (ay (ao az) (ay (ao az) (ay (ao aL) bc)))) (Ef (tV bq (tV bq EW))))
   (aQ (fS (lO (cW (cU lM (b8 aC (ao aL)) (ao iY))) (lO (cW (cU lM (ez eV (ay (b8 aC (ao aL)) bc)) (ez eV (ay aC bc)))) (cW (cU xN (ez eV (ay aC bc)) (ao aL))))) (cO (ao rM)) dc)
   (aQ (fS (lO (kG (nk (ez ur (ay (qB W W (b8 aC (ao aL)) bq ki (vF (ao az) aC)) bc)))) (cW (cU lM (LD.eos_lenN (ay (b8 aC (ao aL)) bc)) (ez eV (ay aC bc))))) (cO (ao rM)) dc)
   (aQ (fS (nk (ez Kp (ay (qB W W aC bq ki (ao (gP (aH az (aH az (aH az bx)))))) bc))) (cO (ao rM)) dc)
   (aQ (gh (Dc (b8 aC (ao aL))))
   (cO (cU i6 (ez eV (ay (b8 (BO (λ_ _=>.nil) (ay (ao az) (ay (ao az) (ay (ao aL) bc)))) (ao aL)) bc)) (ez eV (ay aC bc))))))))))))))) (au (cF (i:=1) nd W (bb W) (cG u a (ai (pv 0) (ai aK (ai (cG m a (ai (pv 0) aB)) aB)))))
   (au (cF (i:=2) nd W (bb W) (cG C a (ai (pv 0) (ai (pv 1) aB))))
   (au (cF (i:=3) nd W (a7 W) (cG o a (ai (pv 1) (ai (pv 2) aB))))
   (au (jc (dg (je b) (pv 3) aK (cV _)) (aU (b9 (fx Da (bF cK W d gH (ai (bG bj (cG q a (ai (pv 1) (ai (pv 2) (ai aK aB)))) aK (λ_ _=>W)) aB)) aK (cV _)))) eA)
   (au (jc (PW.pt (rJ (oA (k6 (bF jU W n gp (ai (pv 3) (ai (oW (v:=.ty "tuple") W p mI W) aB))))) (rJ (dg (lK b) (bF cK W d gH (ai (pv 3) aB)) aK (cV _)) (uH (oA (k6 (bF jU W n gp (ai (bG bj (pv 3) aK (λ_ _=>W)) (ai (oW (v:=.ty "list") W B uZ W) aB))))))))) (aU (b9 rG)) eA)
   (au (jc (dg (je b) (bG bj (pv 3) aK (λ_ _=>W)) jd (cV _)) (au (jc (oA (k6 (cG r a (ai (pv 1) (ai (pv 2) (ai (bG bj (pv 3) aK (λ_ _=>W)) aB)))))) (aU (b9 rG)) eA)
   (au (gz (xb Wu acE acF AF (bG bj (pv 3) aK (λ_ _=>W))))
   (au (cF (i:=4) nd W (a7 W) (cG o a (ai (pv 1) (ai (pv 2) aB))))
   (aU (b9 (rq (bF jU W n gp (ai (pv 4) (ai (oW (v:=.ty "tuple") W p mI W) aB))) (rq (fx (je b) (bG bj (pv 4) aK (λ_ _=>W)) jd (cV _)) (u8 (cG r a (ai (pv 1) (ai (pv 2) (ai (bG bj (pv 4) aK (λ_ _=>W)) aB)))))))))))) eA)
   (au (Jn (cG q a (ai (pv 1) (ai (pv 2) (ai aK aB)))) (CG W (lZ (b5 (i:=5) nd W (a7 W)) (lZ (b5 (i:=6) nd W (bb W)) xS))))
   (au (jc (PW.pt (rJ (dg (lK b) (bG bj (pv 3) aK (λ_ _=>W)) jd (cV _)) (rJ (dg (lK b) (bF cK W d gH (ai (bG bj (pv 3) aK (λ_ _=>W)) aB)) (bF cK W d gH (ai (pv 5) aB)) (cV _)) (uH (dg Da (bF cK W d gH (ai (pv 5) aB)) aK (cV _)))))) (aU (b9 rG)) eA)
   (au (jc (PW.pt (rJ (oA (k6 (bF (lF W) W l AE (ai (fC ["_law_pair"] [("_law_known",6)] W (fH (bG bj (pv 3) aK (λ_ _=>W))) (λ_ _ _ _=>(b5 (i:=0) (show Wm (["_law_pair","_law_known"]:bg Str) by left) W (a7 W))) (λ_ _ _ _=>dZ) (λ_ _ _ _=>(GZ (LD.pc_ddin b (pv 0) (pv 1)) (by with_unfolding_all rfl))) ⟨⟨W,W,a7 W⟩,trivial⟩ W) aB)))) (uH (dg (lK b) (bF LD.call_lenN W d gH (ai (iV (LD.call_setN W b) W h L9.SQ (ai (bG bj (pv 3) aK (λ_ _=>W)) aB)) aB)) (bF cK W d gH (ai (pv 5) aB)) (cV _))))) (aU (b9 rG)) eA)
   (au (jc (k6 (bF (zQ W) W j Ou (ai (fC ["_law_pair"] [("_law_one",1),("_law_other",2)] W (fH (pv 5)) (λ_ _ _ _=>(b5 (i:=0) (show Wm (["_law_pair","_law_one","_law_other"]:bg Str) by left) W (a7 W))) (λ_ _ _ _=>dZ) (λ_ _ _ _=>(cG z a (ai (pv 1) (ai (pv 2) (ai (pv 0) aB))))) ⟨⟨W,W,a7 W⟩,⟨⟨W,W,a7 W⟩,trivial⟩⟩ W) aB))) (aU (b9 rG)) eA)
   (au (gz (xb Wu acE acF AF (bG bj (pv 3) aK (λ_ _=>W))))
   (aU (b9 (fx (je b) (bF cK W d gH (ai (bG bj (EG y a PN (ai (pv 1) (ai (pv 2) (ai aK aB)))) aK (λ_ _=>W)) aB)) (bF cK W d gH (ai (pv 5) aB)) (cV _)))))))))))))))
end
end K51
namespace L2
open PySem PySem.Spec PyProof.Rows
section
variable{Z:St}{H:Hp}{Q:VK}{D:Ends}
theorem Lu{K:UN}{d b:TE}{f:Str}(h:b Z H λy H1=>d Z H1 λx e=>∃a C c fs,x=.ref a/\e a=R (.ins C c fs)/\Cls K C/\ZL K C f/\fs.length<1000/\D.nx Z (bJ e a (.ins C c (jG f y fs)))):OJ K d b f D Z H:=h
theorem Pu{c:TT}{t u:TE}(h:c Z H λb H1=>if b=P then t Z H1 Q else u Z H1 Q):TR c t u Z H Q:=h
theorem Q7{K:UN}{b:TE}{f:Str}(h:b Z H λx H1=>∃a C c fs v,x=.ref a/\H1 a=R (.ins C c fs)/\Cls K C/\ZL K C f/\fs.lookup f=R v/\Q v H1):Rb K b f Z H Q:=h
theorem NB{C:M}{m:Str}{sp:Sp}{E:XK}{b:TE}{t:TA}(h:b Z H λx H1=>∃a d fs,x=.ref a/\H1 a=R (.ins C d fs)/\fs.lookup m=S/\t Z H1 λc e=>sp (x::(c++[])) e Q E):wW C m sp [] E b t Z H Q:=h
theorem K7{C:M}{sp:Sp}{E:XK}{t:TA}(h:t Z H λb H1=>∀x a,H1 x=S->H1 a=S->a≠x->sp (.ref x::(b++[])) (bJ (bJ H1 a (.own x)) x (.ins C a [])) (λv c=>v=.XN/\Q (.ref x) c) E):Ad C sp [] E t Z H Q:=h
end
end L2
local macro_rules| `(tactic|ext:31)=> `(tactic|repeat (first
 |specialize L2.QQ ?_
 |specialize L2.OU ?_
 |specialize L2.Lu ?_
 |specialize L2.Pu ?_
 |specialize L2.Q7 ?_
 |specialize L2.NB ?_
 |specialize L2.K7 ?_
 |specialize L2.LG ?_
 |((with_reducible show L2.yA _ _ _ _);refine⟨_,rfl,?_⟩)
 |specialize L2.Iu ?_
 |specialize L2.amM ?_
 |specialize L2.amO ?_
 |specialize L2.anl ?_
 |specialize L2.aqe ?_
 |((specialize L2.aof ?_ ?_);first|exact⟨by decide,by decide⟩|exact⟨by decide,by decide,by decide⟩|exact(show(0:Int)<_ by decide)|exact⟨by decide,by left⟩)
 |((specialize L2.amN ?_ ?_);exact rfl)
 |((specialize L2.amZ ?_ ?_);exact rfl)
 |specialize L2.alo ?_
 |specialize L2.LC ?_
 |specialize L2.alS ?_
 |specialize L2.akf ?_
 |specialize L2.aiL ?_
 |specialize L2.ajQ ?_
 |specialize L2.aj5 ?_
 |specialize L2.an2 ?_
 |specialize L2.amD ?_
 |specialize L2.akz ?_
 |specialize L2.amR ?_
 |specialize L2.al8 ?_
 |specialize L2.ajZ ?_
 |specialize L2.alB ?_
 |specialize L2.ajE ?_
 |specialize L2.alp ?_
 |specialize L2.ajr ?_
 |specialize L2.ams ?_
 |specialize L2.ajF ?_
 |specialize L2.al0 ?_
 |specialize L2.akB ?_
 |specialize L2.amy ?_
 |specialize L2.amB ?_
 |specialize L2.ahQ ?_
 |specialize L2.ajo ?_
 |specialize L2.akv ?_
 |specialize L2.aiG ?_
 |specialize L2.aiI ?_
 |specialize L2.ajq ?_
 |specialize L2.ake ?_
 |specialize L2.alI ?_
 |specialize L2.ajP ?_
 |specialize L2.ajO ?_
 |specialize L2.ait ?_
 |specialize L2.ajU ?_
 |specialize L2.aiC ?_
 |specialize L2.ajm ?_
 |specialize L2.aj7 ?_))
namespace K51
open PySem L2
section
open L3 L4
variable{P:Vn}{w:VJ}{K:UN}{mg:Str->br UQ}{base:Heap}{f:UX}{Y:We}
theorem mZ:XU ["self","most"] ["self","most"] (aI (bw (top 2) 0)):=⟨W,W,W,by left,W,by left,by left⟩
def Fc{C B fI:M}(F:Yp K "__init__" "TooMany.__init__" (bw (top 2) 0) f Y)(n:L9.XC K C B fI)(j:mg "BedError"=R (.ref B))(d:abT K B (.type "type")=US)(l:abU K (.ref B) (.type "type") "__init__"=R (.val (.builtin "ValueError.__init__")))
  (b:Ys K (.ref B) "__getattribute__"=R (R (.builtin "type.__getattribute__"))) (i:VP K (.ref C) "most"=R S):FnOk P w K mg base dR 1 f Y ["self","most"] (L9.yu C "most"):=by
 show F.ok mZ (λu H Q E h=>?_) (λt A a s H u Q E r h=>?_)
 .let(_,_,rfl,_):=h;rfl
 let(e,v,rfl,o,m,q):=h;show⟨_,(au (gz (L9.Kh W j d l b n (ai (pv 0) (ai (L9.Mx (L9.Oz () (L9.Pz (pv 1) L9.QJ)) ()) aB)))) (aU (L9.MG n i (pv 0) (pv 1) W))),?_⟩;ext:31;show⟨V.ref e,W,v,W,o,λy=>⟨e,y,W,m,?_⟩⟩;show⟨v,W,V.ref e,W,e,W,m,λp i g=>q p i g⟩
end
end K51
namespace K51
open PySem L2
section
variable{P:Vn}{w:VJ}{K:UN}{mg:Str->br UQ}{base:Heap}{f:UX}{fd:We}
theorem gq:XU ["_law_one","_law_other","_law_found","e"] ["_law_one","_law_other"] (aI (top 33)):=⟨W,W,W,by left,W,by left,by left⟩
def yk{C:UX}{m:bg UQ}(F:Yp K "_law_same" "_law_same" (top 33) f fd)(ZS:L3.Gg P w K mg base (L4.nw P w) 9 "same" ["one","other","most"] [] (L10.ei K 3 gD))
  (D:mg "TooMany"=lD (.ref C)) (xR:L4.ze K C m) (lR:L4.adX K C m) (S:XS K C=US) (R:VP K (.ref C) "most"=lD UO) (bR:m.contains (.type "BaseException")=US) (nR:Vp K Vj "TooMany"=lD (lD (.ref C))):
  FnOk P w K mg base dR 11 f fd ["_law_one","_law_other"] (L10.ei K 2 cM):=by
 show F.ok gq (λvs H Q E h=>h.1) (λWt A M s H vs Q E hr h=>?_);let hu:=hr.units;let(hl,B,α,Z,xs,so,O,j):=h;let ev:∀{E2:XK},L10.cX K E2 (nG (L10.ei K 3 gD) [] E2 (jb (yA 0) (jb (yA 1) (jb (tC (.int 100)) pK)))) (L10.Pw gD 3 (L10.aq (L10.aA 0) (L10.aq (L10.aA 1) (L10.aq (L10.aa (L3.pC (.int 100))) L10.aX)))):=L10.J0 (L10.ay L10.aC (L10.ay L10.aC (L10.ay (L10.ao (L3.yG λ_ _=>.int _)) L10.bc)));obtain⟨b,c,rfl⟩:∃b c,xs=[.fz b,.fz c]:=by
  unfold cM at j;split at j
  .show⟨_,_,W⟩
  .show j.elim
 obtain⟨t,r,rfl,d0,d1⟩:∃t r,vs=[t,r]/\L3.DV (L10.ow B α Z) K H t b/\L3.DV (L10.ow B α Z) K H r c:=by
  cases O with
  |cons d0 r0=>cases r0 with
   |cons d1 r1=>ext r1;show⟨_,_,W,d0,d1⟩
 let sl:L10.XJ (L10.ow B α Z) K H α [lD t,lD r,lD .XN,UO] [-(b),-(c),-(.none),UO]:=⟨W,λi x h=>by
  match i,h with
  |0,h=>ext h;show⟨t,W,d0⟩
  |1,h=>ext h;show⟨r,W,d1⟩
  |2,h=>ext h;show⟨.XN,W,.XN⟩
  |3,h=>ext h
  |i+4,h=>ext h⟩
 suffices key:∃(E2:XK),(∀c dx g,E2 c dx g->c=UQ.ref C)/\L10.WS K E2 B H α Z (L10.PQ B K Q) (gD [.fz b,.fz c,.fz (.int 100)] Z)/\∀c dx g,E2 c dx g->∃p fs k,dx=lD p/\g p=lD (.xd fs)/\fs.lookup ("most":Str)=lD (.int k)/\∀I,WY g I->Q (.int k) I by
  let(E2,G,N,k3):=key;show⟨_,(au (cF (i:=2) gq.nd W (a7 W) jJ)
   (au (L4.Pi (i:=3) (E2:=E2) W gq.nd W W W D xR bR W W
    (λl=>aU (cF (i:=2) gq.nd W (a7 W) (L3.EG ZS hr (L4.CJ W) (ai (pv 0) (ai (pv 1) (ai aK aB))))))
    (λl e=>aU (cF (i:=2) gq.nd W (a7 W) (show PE _ _ (L9.Od K (yA 3) "most")from(by show L9.MC (X:=L4.Cx.marked (L4.Cx.pinned _ l) e) ?_ W;show pv 3))))
    (λc dx g h=>⟨C,m,G c dx g h,xR,by rw[Zu,eu,YB]⟩))
   (aU (b9 (pv 2))))),?_⟩
  ext:31;ext L4.Sx;show⟨?_,λc dx g o q e z hs he y hd hn=>?_⟩
  .show ev B _ H α Z _ _ so sl (L10.WS.imp (show L10.WS K E2 B H α Z (L10.PQ B K Q) (L10.Pw gD 3 (L10.aq (L10.aA 0) (L10.aq (L10.aA 1) (L10.aq (L10.aa (L3.pC (.int 100))) L10.aX))) [-(b),-(c),-(.none),UO] Z)from N) λx α1 Z1 g e1 L w1 v O=>⟨v,W,w1 v O⟩)
  .obtain⟨s0,L,s2,s3,rfl⟩:∃s0 L s2 s3,q=[s0,L,s2,s3]:=by
    match q,hs with
    |[a,c,d,e],_=>show⟨a,c,d,e,W⟩
   let(p,fs,k,rfl,g1,Y,U):=k3 c dx g o;let T:=y.trans (G c _ g o);let u:WY g (bJ g e (.frz z (.own e))):=bO he _;let eE:(bJ g e (.frz z (.own e))) e=lD (.frz z (.own e)):=aO;show⟨V.ref e,W,e,z,C,m,p,fs,.int k,W,eE,T,hd,hn,lR,S,R,u _ _ g1,Y,.int k,W,U _ u⟩
 unfold cM at j;dsimp only at j;cases h1:gD [.fz b,.fz c,.fz (.int 100)] Z with
 |bad=>rw[h1]at j;show j.elim
 |er x Z'=>
  rw[h1]at j;dsimp only at j;split at j
  .rename_i cl f k
   by_cases y:cl=("TooMany":Str)/\f=("most":Str)
   .rw[av y]at j
    let(rfl,rfl):=y;show⟨λc dx g=>∃n,L10.WJ α Z H n Z' g/\L10.VD B K g n Z'/\c=.ref C/\∃p fs,dx=lD p/\g p=lD (.xd fs)/\fs.lookup ("most":Str)=lD (.int k),λc dx g h=>h.elim λ_ h=>h.2.2.1,?_,λc dx g h=>h.elim λn h=>h.2.2.2.elim λp o=>o.elim λfs o=>⟨p,fs,k,o.1,o.2.1,o.2.2,λI sm=>j n I (h.1.trans (L10.WJ.same sm)) (h.2.1.grow sm) (.int k) (.int k)⟩⟩;rintro c dx n H' ev' J ⟨⟨a',e1,e2⟩,fs,Y,U⟩;let(nn,v,G,N):=U "most" (.int k) W;let e3:=nR.symm.trans e2;ext e3;ext N;cases dx with
    |none=>show a6 W nn
    |some p=>show⟨n,ev',J,e1,p,fs,W,Y p W,G⟩
   .rw[ax y]at j;show j.elim
  .show j.elim
 |ok x Z'=>rw[h1]at j;show⟨λ_ _ _=>False,λ_ _ _ h=>h.elim,j,λ_ _ _ h=>h.elim⟩
end
end K51
theorem TV{α:Type}:∀{l:G α},l.length=1->∃a,l=[a]
 |[a],_=>⟨a,W⟩
theorem Ud{α:Type}:∀{l:G α},l.length=2->∃a b,l=[a,b]
 |[a,b],_=>⟨a,b,W⟩
theorem Ui{α:Type}:∀{l:G α},l.length=3->∃a b c,l=[a,b,c]
 |[a,b,c],_=>⟨a,b,c,W⟩
theorem Uw{α:Type}:∀{l:G α},l.length=4->∃a b c d,l=[a,b,c,d]
 |[a,b,c,d],_=>⟨a,b,c,d,W⟩
local macro_rules| `(tactic|ext:16)=> `(tactic|(intro _ _ _ _ _ _ us hl;first|(obtain⟨_,h⟩:=TV hl;subst h;rfl)|(obtain⟨_,_,h⟩:=Ud hl;subst h;rfl)|(obtain⟨_,_,_,h⟩:=Ui hl;subst h;rfl)|(obtain⟨_,_,_,_,h⟩:=Uw hl;subst h;rfl)|(match us,hl with|[_,_,_,_,_],_=>rfl)|(match us,hl with|[],_=>rfl)))| `(tactic|ext:33)=> `(tactic|(intro _ _ _ _ _ _ us hl;first|((have h1:us.length=1:=by simpa using hl);obtain⟨_,h⟩:=TV h1;subst h;exact⟨_,rfl,rfl⟩)|((have h1:us.length=2:=by simpa using hl);obtain⟨_,_,h⟩:=Ud h1;subst h;exact⟨_,rfl,rfl⟩)|((have h1:us.length=3:=by simpa using hl);obtain⟨_,_,_,h⟩:=Ui h1;subst h;exact⟨_,rfl,rfl⟩)|((have h1:us.length=4:=by simpa using hl);(match us,h1 with|[_,_,_,_],_=>exact⟨_,rfl,rfl⟩))))| `(tactic|ext:32)=> `(tactic|first|exact List.forall_mem_nil _|(refine List.forall_mem_cons.mpr ⟨?_,?_⟩;(·(show VP _ _ _=_;k_is));ext:32))| `(tactic|ext:35)=> `(tactic|first|(refine' L3.NI.mk ?a' ⟨_,L2.Ij ?b' ?c' ?d'⟩;(case a'=>k_is);(case b'=>k_is);(case c'=>k_is);(case d'=>k_is))|(refine' L3.MI.mk ?a' ?e' ⟨_,L2.Ij ?b' ?c' ?d'⟩;(case a'=>k_is);(case e'=>k_is);(case b'=>k_is);(case c'=>k_is);(case d'=>k_is))|(refine' L3.CI.mk ?a' ?b' ?c' ?d' ?e' ?f' ?g' ?i';(case a'=>k_is);(case b'=>k_is);(case c'=>k_is);(case d'=>k_is);(case e'=>k_is);(case f'=>k_is);(case g'=>k_is);(case i'=>ext:32))|(refine' L3.DI.mk ?a' ⟨_,L3.Ny ?b' ?c' ?d' ?e'⟩;(case a'=>k_is);(case b'=>k_is);(case c'=>k_is);(case d'=>k_is);(case e'=>k_is))|k_is|k_exc|rfl|left|(rw[<-Array.all_toList];rfl))
namespace K51
open PySem L2 L3
def F_lawH:FN:=L10.RD F_law
def all_mk{l:aeJ}{w:VJ}{K:UN}{h:Heap}{c:Str->br UQ}{fa:UX}
  {afv:Tok}
  {Q:UX} {afU:Nat} {afZ:Array (br UQ)}
  {aeD:Tok}
  {Xe:UX} {ae9:Nat} {afq:Array (br UQ)}
  {t:UX} {acY:Nat} {acU:Array (br UQ)}
  {Yo:UX} {ad8:Nat} {adS:Array (br UQ)}
  {agX:UX} {aeB:Tok}
  {f0 f1 f2 f3 f4 f5 f6 f7 f8 f9 f10 f11 f12 f13 f14 f15 f16 f17 f18 f19 f20 f21 f22 b f24 f25 f26 f27 f28 f29 f30 f31 f32 f33 f34 f35 f36 f37 j f39 f40 f41 q:UX}
  {f n:UX}
  {nmR qR:Str} {k:UX} {bsR:bg UQ} {snR:bg Str} {akZ:bg UQ} {abR:Bool} {aly:br Bool} {ddR:br UX} {k0R k1R k2R k3R k5R:br UQ}
  {ocN:UQ} {odN:br UX} {E:Array YN} {nN:Nat} {slN:Array (br UQ)} (X:K.In h) (G:h.Ns Vj c) (hfa:c "law"=lD (.ref fa))
  (h0:NI K f0 "layer_of" (top 8))
  (h1:NI K f1 "looked_up" (top 12))
  (h2:NI K f2 "chords_over" (top 13))
  (h3:NI K f3 "chord_acts" (top 14))
  (h4:NI K f4 "_law_cell" (top 21))
  (h5:NI K f5 "_law_take" (top 22))
  (h6:NI K f6 "_law_letter" (top 23))
  (h7:NI K f7 "_law_meaning" (top 24))
  (h8:NI K f8 "_law_chords" (top 25))
  (h9:NI K f9 "_law_bed" (top 26))
  (h10:NI K f10 "_law_keys" (top 27))
  (h11:NI K f11 "_law_put" (top 29))
  (h12:NI K f12 "_law_other_bed" (top 30))
  (h13:NI K f13 "_law_events" (top 28))
  (h14:NI K f14 "events_of" (top 16))
  (h15:NI K f15 "_law_unlike" (top 32))
  (C:NI K f16 "step" (top 9))
  (h17:DI K f17 agX "same" (top 19) #v[.int 400 aeB])
  (h18:NI K f18 "play" (top 10))
  (h19:NI K f19 "_law_pairs" (top 31))
  (h20:NI K f20 "_law_same" (top 33))
  (h21:NI K f21 "_law_apart" (top 34))
  (h22:NI K f22 "law" (top 35))
  (a:CI K b "Hand" ["bed","acts","waiting","once","sent"])
  (h24:MI K b f24 "__init__" "Hand.__init__" (bw (top 11) 0))
  (h25:MI K b f25 "stands" "Hand.stands" (bw (top 11) 1))
  (h26:MI K b f26 "is_waiting" "Hand.is_waiting" (bw (top 11) 2))
  (h27:MI K b f27 "has_act" "Hand.has_act" (bw (top 11) 13))
  (h28:MI K b f28 "come" "Hand.come" (bw (top 11) 11))
  (h29:MI K b f29 "go" "Hand.go" (bw (top 11) 12))
  (h30:MI K b f30 "decide" "Hand.decide" (bw (top 11) 10))
  (h31:MI K b f31 "makes_chord" "Hand.makes_chord" (bw (top 11) 4))
  (h32:MI K b f32 "put_to_chord" "Hand.put_to_chord" (bw (top 11) 5))
  (h33:MI K b f33 "begin" "Hand.begin" (bw (top 11) 6))
  (h34:MI K b f34 "press" "Hand.press" (bw (top 11) 3))
  (h35:MI K b f35 "settle" "Hand.settle" (bw (top 11) 8))
  (h36:MI K b f36 "lift" "Hand.lift" (bw (top 11) 7))
  (h37:MI K b f37 "wait_on" "Hand.wait_on" (bw (top 11) 9))
  (g:CI K j "Places" ["most","found","numbers"])
  (h39:MI K j f39 "enter" "Places.enter" (bw (top 17) 1))
  (h40:MI K j f40 "__init__" "Places.__init__" (bw (top 17) 0))
  (h41:MI K j f41 "way_to" "Places.way_to" (bw (top 17) 2))
  (u:Vp K Vj "TooMany"=lD (lD (.ref f)))
  (ads:Vp K Vj "BedError"=lD (lD (.ref n)))
  (xR:K.lookup f=lD (excClassObj nmR qR f k bsR (.ref n::[.type "ValueError",.type "Exception",.type "BaseException",.type "object"]) US snR akZ abR aly ddR k0R k1R k2R k3R k5R "ValueError.__new__"))
  (gaR:VP K (.ref f) "__getattribute__"=lD (lD (.builtin "BaseException.__getattribute__")))
  (RG:VP K (.ref f) "__getattr__"=lD UO)
  (csR:VP K (.ref f) "__class__"=lD (lD (.builtin "object.__class__")))
  (obR:afx K f (.type "object")=lD US)
  (hdR:XS K f=US)
  (eI:aaU K n [.type "ValueError",.type "Exception",.type "BaseException",.type "object"] "ValueError.__new__"=US)
  (lN:K.lookup k=lD ⟨ocN,odN,.dict E nN,slN⟩)
  (p:(E.all λe=>match e.key with|.str _ _=>US|_=>U0)=US)
  (inN:Vp K k "__init__"=lD (lD (.ref q)))
  (saR:VP K (.ref f) "__setattr__"=lD (lD (.builtin "object.__setattr__")))
  (A:VP K (.ref f) "most"=lD UO)
  (rdB:abT K n (.type "type")=US)
  (fcB:abU K (.ref n) (.type "type") "__init__"=lD (.val (.builtin "ValueError.__init__")))
  (V:Ys K (.ref n) "__getattribute__"=lD (lD (.builtin "type.__getattribute__")))
  (B:MI K f q "__init__" "TooMany.__init__" (bw (top 2) 0))
  (agb:Vp K Vj "NONE"=lD (lD (.ref Q)))
  (afn:Vp K Vj "CHORD"=lD (lD (.ref Xe)))
  (ad9:Vp K Vj "AT_REST"=lD (lD (.ref Yo)))
  (ad3:K.lookup Yo=lD ⟨.type "tuple",UO,.seq #v[.ref t,.none,.none] ad8,adS⟩)
  (acR:K.lookup t=lD ⟨.type "tuple",UO,.seq #v[] acY,acU⟩)
  (ae6:K.lookup Xe=lD ⟨.type "tuple",UO,.seq #v[.str "chord" aeD] ae9,afq⟩)
  (af8:K.lookup Q=lD ⟨.type "tuple",UO,.seq #v[.str "none" afv] afU,afZ⟩)
  (y0:Vp K Vj "max"=lD UO)
  (y1:Vp K Vj "all"=lD UO)
  (y2:Vp K Vj "list"=lD UO)
  (y3:Vp K Vj "sorted"=lD UO)
  (y4:Vp K Vj "len"=lD UO)
  (y5:Vp K Vj "range"=lD UO)
  (y6:Vp K Vj "tuple"=lD UO)
  (y7:Vp K Vj "dict"=lD UO)
  (y8:Vp K Vj "zip"=lD UO)
  (y9:Vp K Vj "reversed"=lD UO)
  (F:Vp K Vj "isinstance"=lD UO)
  (D:Vp K Vj "set"=lD UO)
  (x:Vp K Vj "any"=lD UO):
  ∃fd:We,(∀(s:UY) (v:UQ),aaZ s fd ⟨[v],[]⟩ [("_law_script",v)])/\∀base:Heap,K.In base->base.Ns Vj c->FnOk l.prog w K c base dR 12 fa fd ["_law_script"] (L3.pG K 1 F_lawH):=by
 let I:=V6 X G y0;let m:=V6 X G y1;let Y:=V6 X G y2;let U:=V6 X G y3;let o:=V6 X G y4;let Xv:=V6 X G y5;let Yc:=V6 X G y6;let afc:=V6 X G y7;let agz:=V6 X G y8;let aa7:=V6 X G y9;let Xf:=V6 X G F;let afu:=V6 X G D;let afs:=V6 X G x;let L:=Ly (xs:=[.str "none"]) (ds:=[(.str "none")]) af8 (by show 1<=Vb;decide) (.cons ⟨_,rfl⟩ .nil) λO H=>(.cons (.str _) .nil);let Z:=Ly (xs:=[.str "chord"]) (ds:=[(.str "chord")]) ae6 (by show 1<=Vb;decide) (.cons ⟨_,rfl⟩ .nil) λO H=>(.cons (.str _) .nil);let adt:=Ly (xs:=[]) (ds:=[]) acR (by show 0<=Vb;decide) .nil λO H=>.nil;let YI:=Ly (xs:=[.ref t,.XN,.XN]) (ds:=[(.tuple []),.none,.none]) ad3 (by show 3<=Vb;decide) (.cons rfl (.cons rfl (.cons rfl .nil))) λO H=>(.cons (adt O H) (.cons .XN (.cons .XN .nil)));let M:=Xl X G agb;let i:=Xl X G afn;let YM:=Xl X G ad9;show h22.law X G hfa (by ext:16) λbase fd ahm=>?_;let W:Tp l.prog w K c base h:=⟨X,G⟩;let R:=h0.c W λ_ z=>zR z I;let abP:=h1.c W λ_ z=>yj z;let Xo:=h2.c W λ_ z=>tL z m;let abr:=h3.c W λ_ z=>vS z Y U o M L;let XD:=h4.c W λ_ z=>xw z o;let y:=h5.c W λ_ z=>xM z Xv;let aaW:=h6.c W λ_ z=>vj z y;let Zn:=h7.c W λ_ z=>rX z y aaW I;let aaV:=h8.c W λ_ z=>vn z y Xv Yc o m;let Zm:=h9.c W λ_ z=>Af z XD y Zn aaV Xv Yc;let aaG:=h10.c W λ_ z=>xH z XD y;let ace:=h11.c W λ_ z=>zu z;let YL:=h12.c W λ_ z=>oO z XD y ace Zm o;let W0:=h13.c W λ_ z=>uV z Xv;let aaF:=h14.c W λ_ z=>xl z Xv;let d:=a.cf;let V7:=g.cf;let p:ab9 K k=US:=by ext ab9;rw[lN];show p
 let XR:L4.ze K f (.ref n::[.type "ValueError",.type "Exception",.type "BaseException",.type "object"]):=⟨_,_,_,_,_,_,_,_,_,_,_,_,_,_,_,_,xR⟩;let LR:L4.adX K f (.ref n::[.type "ValueError",.type "Exception",.type "BaseException",.type "object"]):=⟨XR,rfl,gaR,RG,csR,obR⟩;let J:L9.XC K f n q:=⟨⟨_,_,_,_,_,_,_,_,_,_,_,_,_,_,xR,p,inN⟩,eI,saR⟩;let T:=Xl X G u;let adW:=Xl X G ads;let(fdI,zI):=B.F;let(_,_,_,_,_,_,_,_,_,rfl,aa6,_):=zI.ex;let abd:=B.i;let aa5:=Fc (P:=l.prog) (w:=w) (mg:=c) (base:=base) zI J adW rdB fcB V A;let abb:=zI.binds (ps:=["self","most"]) (by ext:16);let N:=h24.k a W λ_ z=>qM z d afc;let W5:=h25.mt a W λ_ z=>uh z d Yc U;let XH:=h26.mt a W λ_ z=>nY z d;let Yl:=h27.mt a W λ_ z=>rY z d Y;let Yb:=h28.mt a W λ_ z=>xC z d Yl;let acf:=h29.mt a W λ_ z=>CH z d Yl;let WA:=h30.mt a W λ_ z=>uA z d Yb abr agz i Z;let Y5:=h31.mt a W λ_ z=>nc z d W5 R Xo i Z;let YS:=h32.mt a W λ_ z=>mr z d WA Xo o i Z;let aaX:=h33.mt a W λ_ z=>vY z d W5 Yb R abP Xo i Z M L;let ZM:=h34.mt a W λ_ z=>vQ z d XH Y5 YS WA aaX;let aaA:=h35.mt a W λ_ z=>uO z d WA Yb i Z;let S:=h36.mt a W λ_ z=>yx z d XH aaA acf;let Y0:=h37.mt a W λ_ z=>rV z d WA;let r:=C.c W λ_ z=>ER z d N Y0 ZM S W5;let ZN:L3.fU l.prog w K c base 8 "step" ["bed","standing","event"] 3 dQ:=C.cal X G (by ext:16) λ_ z=>(ER z d N Y0 ZM S W5).imp (λ_ _ _ _ h=>L10.QP h);let Xa:=h39.mt g W λ_ z=>se z V7 J aa6 abd aa5 abb u T o;let abD:=h40.k g W λ_ z=>n9 z V7 Xa;let YJ:=h41.mt g W λ_ z=>rl z V7 Y aa7;let ZS:L3.Gg l.prog w K c base (L4.nw l.prog w) 9 "same" ["one","other","most"] [] (L10.ei K 3 gD):=h17.c (ds:=[]) (dvs:=[]) W .nil λ_ z=>LL z V7 abD YJ Xa r aaF o YM YI;let acS:=h18.c W λ_ z=>Mw z r YM YI;let Y8:=h19.c W λ_ z=>vN z r W0 o;let ZC:=h20.c W λ_ z=>yk z ZS T XR LR hdR A rfl u;let Y7:=h21.c W λ_ z=>vZ z acS W0 Xf Y m;let ZK:=h15.c W λ_ z=>uw z W0 ZN;show(Q2 ahm ZS ZC Y8 Y7 aaG Zm YL ZK o Xf Yc Y m afu afs).imp (λ_ _ _ _ h=>L10.Q3 h)
end K51
local macro_rules|`(universe $i*)=>do
 let t:=fun (c:Lean.Name)=>`(theorem $(Lean.mkIdent ((`PySem.W.Fast).str ("tw"++toString c.hash))):ident:True:=trivial)
 let b:=`PySem.Challenge.cw_chordbed_k51_two_beds_walked_holds
 let o←(List.range 486).mapM fun n=>t (b.str ("o_"++toString n))
 let l←i.mapM fun j=>t (b++j.getId)
 return Lean.mkNullNode (((o.toArray++l).push (←t `PySem.Challenge.pw_chordbed_k51_two_beds_walked)))
universe heap_486 heap_39 tree_485 view_39 tree_473 tree_391 tree_341 tree_233 sts_392 tree_314 sts_124 sts_342 sts_474 tree_123 sts_86 sts_318 tree_85 sts_64 tree_63 sts_49 heap_46 tree_47 env_41
open PySem PySem.W PyProof.Rows
set_option maxRecDepth 100000 in
set_option maxHeartbeats 0 in
theorem PySem.Challenge.cw_chordbed_k51_two_beds_walked_holds : PySem.Challenge.rw_chordbed_k51_two_beds_walked.Holds := by
 w_on;o_law;k_head;(case hw=>w_witness2)
 k_fill
 refine L3.SM (l:=PySem.Challenge.rw_chordbed_k51_two_beds_walked) (n:=63) (k:=12) (x:= "_law_script") (F:=K51.F_lawH) rfl (by decide) rfl ⟨rfl,by decide,by decide⟩ (λw h Y=>PySem.W.kIn_of Y) ?F K51.main
 case F=>
  intro w d e h b G a
  apply K51.all_mk b G a
  all_goals ext:35
