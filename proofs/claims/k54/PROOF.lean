import PyProof.Rows.All
import Wide.All
import OpenK.AllK
import Wide.FinOn
import Lean
import PyProof.EqAt
import PyProof.EqKinds
import PyProof.TupleCall
import KE.KIntText
import KE.KRevSl
import PyProof.Rows.SeqMore
import PyProof.WalkInts
import PyProof.Rows.MinMaxN
import PyProof.ExcInit
import OpenK.KMake
import PyProof.InstStoreFacts
import PyProof.FString2
import PyProof.Rows.FStr
import PyProof.Rows.SetFrom
import PyProof.SeqRoads2
import PyProof.RangeFor
import PyProof.WalksMore
import PyProof.StrBlock2
import PyProof.Rows.SortShell
import PyProof.TupleOfSeq
import KE.KDictList
import KE.KDictOf
import PyProof.IsiH_tuple
import PyProof.Rows.RuleN_abs
import PyProof.Rows.Range3
import KE.KRevIter
import PyProof.StrLawsRepr
import PyProof.ReprStr
import PyProof.IsiH_list
import PyProof.Rows.TupDisplay
import PySem.Challenge.RW_chordbed_k54_beds_of_other_keys
set_option compiler.extract_closed false
set_option genSizeOf false
set_option genInjectivity false
set_option Elab.async false
set_option linter.all false
set_option maxRecDepth 100000
abbrev ag:=@if_pos
abbrev av:=@if_neg
abbrev ax:=@decide_eq_true
abbrev aP:=@decide_eq_false
abbrev a5:=@of_decide_eq_true
abbrev a6:=@absurd
abbrev a7:=@Or.inl
abbrev bb:=@Or.inr
abbrev bg:=@List
abbrev br:=@Option
abbrev bP:=@PySem.Heap.get?_push_of_some
abbrev cv:=@PySem.Heap.lt_size
abbrev cx:=@PySem.Heap.get?_push_size
abbrev da:=@PySem.Heap.get?_update_other
abbrev dt:=@PySem.Heap.get?_update_self
abbrev dN:=@PySem.Heap.size_push
abbrev dP:=@PySem.Heap.get?_none_of_le
abbrev d3:=@PySem.Obj.data_mapFields
abbrev eh:=@PySem.Obj.isFreed_of_fields
abbrev ej:=@Ne.symm
abbrev eH:=@congrArg
abbrev eW:=@beq_self_eq_true
open Lean in
def cvP:Nat→TSyntax `term→MacroM (TSyntax `rcasesPat)
 |0,_=>Macro.throwUnsupported
 |n+1,t=>let f:=fun (a:Array Term)=>do
   let l←(←a.mapM (cvP n)).mapM fun p=>`(Lean.Parser.Tactic.rcasesPatLo|$p:rcasesPat)
   `(rcasesPat|⟨$l,*⟩)
  match t with
  |`(⟨$a,*⟩)=>f a
  |`(($a,$b,*))=>f (#[a]++b.getElems)
  |`($i:ident)=>`(rcasesPat|$i:ident)
  |`(_)=>`(rcasesPat|_)
  |_=>Macro.throwUnsupported
local macro_rules|`(tactic|let $d:letDecl)=>`(tactic|have $d:letDecl)
local macro_rules|`(tactic|let $p:term:=$e)=>if p.raw.isIdent then Lean.Macro.throwUnsupported else do let q←cvP 9 p;`(tactic|obtain $q:rcasesPat:=$e)
local macro_rules|`(tactic|left)=>`(tactic|decide+kernel)|`(tactic|change $e)=>`(tactic|with_reducible exact $e)|`(tactic|specialize $e)=>`(tactic|with_reducible refine $e)
local macro_rules|`(tactic|exists $e)=>`(tactic|with_reducible apply $e)|`(def $i:declId $s:optDeclSig $v:declVal)=>if v.raw[1].isOfKind ``Lean.Parser.Term.byTactic then `(theorem $i:declId $(⟨Lean.mkNode ``Lean.Parser.Command.declSig #[s.raw[0],s.raw[1][0]]⟩):declSig $v:declVal) else `(noncomputable def $i:declId $s:optDeclSig $v:declVal)|`(abbrev $i:declId $s:optDeclSig $v:declVal)=>`(noncomputable abbrev $i:declId $s:optDeclSig $v:declVal)
local macro_rules|`(tactic|ext)=>`(tactic|decide)
local macro_rules|`(tactic|ext)=>`(tactic|omega)
local macro_rules|`(tactic|ext)=>`(tactic|lia)
local macro_rules|`(tactic|show $e)=>`(tactic|refine $e)
local macro_rules|`(tactic|ext $i:ident)=>`(tactic|cases $i:ident)
local macro_rules|`(tactic|ext $i:ident)=>`(tactic|unfold $i:ident)
local macro_rules|`(#[$a,*])=>`(⟨$a,*⟩)|`(#v[$a,*])=>`(List.toArray [$a,*])
local macro_rules|`(())=>`(by ext)
open Option renaming some->lD,none->Vg,getD_some->aaf,isSome_map->abO,isSome_iff_exists->acY,map_eq_some_iff->adH,isSome_some->ae4,toList_none->ae6,getD_none->afL,map_some->af2
open PySem.W renaming Frag->Ld,nsIn->VH,findIn->V3,subIn->V9,kitOne->Ws,mg_of->Wx,mg_none_of->WI,typeIn->WO,fnOf->W3,keepIn->W7,isClsIn->W8,emptyDict->Xi,instObj->XO,hasDictIn->XT,excIn->X1,InstAt->Yq,isFn->Yw,specialIn->Y0,cellsFrom_some->Y1,plainGet->Zh,codeIn->ZG,methodCall_KW->aaq,lookIn->aaw,tailIn->aaC,plainGet_of->aaS,clsIn->aaX,callWith_K->aa3,tail_of_in->aa8,methodObj->abr,plainOver->abt,takerIn->ab7,makesIn->ab8,readsIn->acd,findCls->ace,notCls->acw,nsOkIn->acx,mroIn->acM,pyHash_slot->aek,isNs_of_in->aet,handedIn->afi,OpenLaw->afM
open PySem renaming wpAny_bind->Vf,Value->Vh,Addr->Vm,PyData->Vo,Shared->Vp,wpAny_pure->Vt,mainGlobals->VD,sizeLine->VF,starEach->VT,Program->VV,Around->V7,NameKind->V8,wpAny_field->Wf,World->Wh,FuncData->WA,Expr->WB,bootBuiltins->WC,wpAny_newObj_type->WN,wpAny_setField->W5,wpAny_seqItems->Xe,swapsWith->Xm,wpAny_Call_Name_kw->Xw,wpAny_holding->Xy,mem_of_lookup->Xz,compareOp->XA,wpAny_loadPart_at->XF,binaryOp->XI,Stmt->XM,wpAny_standAt->XQ,cellsFrom->XU,sysModules->XZ,sizeLine_eq->Yb,codeAny_call_builtin->Yc,wpAny_callSpecial?_slot->Yk,wpAny_call_entry->Yl,wpAny_setField_rec->Yr,ExcBaseFacts->Ys,wpAny_passesOwn->Yv,plainId_quiet->YF,wpAny_truthy_bool->YH,Scope->YT,wpAny_letGo->YU,wpAny_isSubtype_exc->Y2,wpAny_execs_nil->Za,codeAny_builtin->Zd,wpAny_ite_split->Ze,call_meets->Zi,DictEntry->Zm,builtinLookup_eq_fast->ZF,wpAny_pyIter_list->ZX,codeAny_mono->ZY,PassesOwn->aac,wpAny_call->aah,BindsTo->aat,wpAny_comprehension_free->aaA,GenState->aaR,wpAny_isInstance->aaT,ItemsOf->aaU,Keyword->aa5,wpAny_typeOf->aa6,wpAny_specialOf->abm,typeLookup_type->abn,wpAny_updateSeq->abo,wpAny_pyIter_tuple->abv,Result->abQ,wpAny_updateSeq_pair->abU,wpAny_tryCatch->abV,wpAny_onRaise->aci,typeIs_int->acs,wpAny_rule->acu,tupleKind_room_in1->acv,ZipApart->acO,wpAny_Call_ofName->acP,eqIsQuiet_byValue->acQ,plainObj_wpAny_Assign_Attribute->acX,IsPart->adi,Model->adE,wpAny_of_eq->adG,Within->adQ,pushCells_keeps->adR,OsState->aej,wpAny_loadPart->aep,Code->aeq,ReadsAll->aer,IsZip->aes,wpAny_binaryOp_repeat_ref->ae5,Drawn->afK,wpAny_Assign_Subscript->afY,OwnTail->afZ,wpAny_isTrue_Compare1->agH,codeAny_handlers_test->agK,wpAny_loadName_local->agS,Reads->agU,wpAny_loadName_cell->ahr,wpAny_handleBy_cons->ahs,wpAny_raiseNew_none->aht,wpAny_Name->ahQ,wpAny_Constant_int->ahR,wpAny_load->ahT,wpAny_getItem_heap->ahU,wpAny_setItem_heap->ahV,wpAny_entryPlaceOf->ahW,passOn->ahX,wpAny_assign_Name->aiM,slot_list_getitem->aiN,wpAny_frameOf_fun->aiO,wpAny_pyHash_int->ajc,wpAny_pyHash_str->ajd,wpAny_execs_cons->aje,wpAny_lookBehind->ajo,pastItsLine_dict->ajp,noFill_tuple_add->ajq,call->ajs,wpAny_pyIter_zip->ajt,wpAny_Try_except->aju,beq_builtin_none->ajv,fitsIndex_both->alF,refuseLoop_ref->alN,isSubtype_type->alO,callType_codes->alP,rangeSize_one->anK,intBits_le_64->anL,seq_tuple_add->anM,evalPart_none->anN,call_list_seq->anO,eval_ListComp->anP,wpAny_attempt->anQ,strLen_append->anR,wpAny_newList->anS
open Bool renaming true->Vi,false->Vq,false_ne_true->Vu,and_eq_true->VZ,true_or->XD,or_eq_true->X0,and_self->X7,false_eq_true->Yj,or_true->YI,eq_iff_iff->YY,false_or->Zs,false_and->ZP,true_and->aag,and_true->abw,or_false->adF,not_true->adJ,or_eq_false_iff->ae7,not_eq_true'->af0,eq_false_iff->af1
open List renaming length_map->Vj,getElem?_eq_some_iff->Vk,mem_cons_self->Vn,mem_cons_of_mem->Vr,length_append->Vs,getElem?_eq_getElem->Vv,replicate->Vw,getElem?_map->Vx,mem_singleton->Vz,mem_cons->VG,length_cons->VI,size_toArray->VJ,getElem?_append_left->VN,range->VO,map_cons->VP,mem_of_getElem?->VQ,lookup_cons->VU,mem_map->VX,map_append->VY,append_nil->V2,getElem?_append_right->V5,getD_eq_getElem?_getD->Wa,length_replicate->Wb,append_assoc->Wc,length_range->Wg,mem_append->Wi,nodup_cons->Wj,getElem?_set_ne->Wm,find?_cons->Wn,map_map->Wt,mem_append_right->Wy,mem_range->WH,Nodup->WJ,replicate_succ->WK,length_set->WU,mem_iff_getElem?->WX,getElem?_set->WY,pairwise_singleton->W0,pairwise_cons->W2,getElem?_set_self->W4,length_nil->Xb,contains_cons->Xd,mem_append_left->Xf,length_take->Xg,not_mem_nil->Xh,all_eq_true->Xq,nodup_nil->Xv,getElem?_replicate->Xx,flatten_cons->X5,getElem_mem->Yd,lookup->Yi,mem_filter->Yn,lookup_cons_self->Yp,take_add_one->Yt,filter_cons->YJ,drop_eq_getElem_cons->YL,pairwise_iff_getElem->YM,getElem?_range->YQ,map_congr_left->YR,map_nil->Zb,drop_eq_nil_of_le->Zc,nodup_append->Zf,length_singleton->Zp,any_cons->Zt,length->Zu,of_mem_zip->ZE,mem_filterMap->ZQ,reverse_cons->Z7,pairwise_map->Z8,prefix_refl->aao,foldl->aau,pairwise_lt_range->aav,foldl_cons->aax,forIn_cons->aaz,nil_append->aaB,length_filter_le->aaL,getElem?_eq_none->aaM,filterMap_cons->abl,length_reverse->abp,map_inj_right->abP,getElem_map->acj,any_eq_true->ack,take_length->acm,forIn_nil->ac0,mem_of_find?_eq_some->adj,filterMap_cons_none->adK,filterMap_cons_some->adL,length_erase_of_mem->adM,getElem?_cons_succ->adS,getElem?_cons_zero->adT,pairwise_append->ae8,mem_erase_of_ne->ae9,getElem_range->afN,set_cons_zero->afO,set_cons_succ->afP,foldl_append->af4,length_drop->agI,zipIdx_cons->agJ,cons_append->agL,ext_getElem->agM,zipIdx_nil->agV,length_zip->agX,range_succ->agY,all_map->aiP
open Nat renaming le_of_ble_eq_true->Vl,le_refl->Vy,lt_of_lt_of_le->VS,ne_of_lt->VW,le_trans->Wk,zero_le->Wo,ne_of_gt->WL,lt_irrefl->WW,zero_add->Xs,lt_succ_self->YK,le_of_lt->Zg,lt_trans->Zj,add_assoc->Zv,le_of_succ_le->aad,lt_succ_of_lt->aae,add_sub_cancel_left->aar,le_succ->aa4,mul_le_mul->aa7,lt_of_le_of_lt->abT,lt_of_le_of_ne->abW,le_of_eq->ab9,add_comm->aca,min_le_right->acq,min_eq_left->acR,testBit_or->adk,testBit_two_pow->afR,one_shiftLeft->agN,le_add_right->agW,not_lt_zero->ahv,succ_mul->ajr,sub_self->ajw,log2_lt->akG,max_le->alQ
open Option.some renaming inj->VR,injEq->alR
open PyProof.Rows renaming envOfC->V0,callWith_type1->Xu,slot_tuple_getitem->YV,callWith_builtin1->akF,kws_cons->akH,kws_nil->akI
open Array renaming getElem?_eq_some_iff->V4,length_toList->Wz,getElem?_setIfInBounds_self_of_lt->Xr,getElem?_toList->XJ,getElem?_setIfInBounds_ne->Zk,getElem?_eq_getElem->ac3,toArray_toList->aeu,find?_toList->afh,forIn_toList->afj,toList->ahS
open Int renaming toNat_natCast->WM,le_refl->aa9,toNat_of_nonneg->abu,ofNat->acy,fdiv_eq_ediv_of_nonneg->adg,toNat->ael,emod_lt_of_pos->af3,emod_nonneg->ahu
open PySem.F renaming plainAttrs_list->WZ,excBase_ValueError->Xj,slot_list_append->X2,type_list_append->X3,attrBase_ValueError->Yo,slot_dict_values->ZS,plainAttrs_dict->ZZ,slot_dict_getitem->acL,args_tuple_add_2->acN,type_dict_values->acS,entry_tuple_add->acZ,slot_list_count->ac1,slot_list_index->ac2,slot_tuple_add->adh,slot_dict_pop->adI
open PySem.SeqAt renaming eqv_refl->Y9,compareEq_reads->alG,compareNe_reads->alH,in_list_reads->alI,in_tuple_reads->alJ,notIn_list_reads->alK,notIn_tuple_reads->alM
open List.Pairwise renaming nil->aay,map->ac4,filterMap->ajx,filter->ajy
open List.Perm renaming refl->acb,swap->ao1
open Int.ofNat renaming inj->afQ
open Nat.le renaming dest->ahY
open PySem.PassesOwn renaming never->ahZ
open PySem.EqMixed renaming eq_bool_str->ajf,eq_int_str->ajg,eq_str_bool->ajh,eq_str_int->aji,ne_bool_str->ajj,ne_int_str->ajk,ne_str_bool->ajl,ne_str_int->ajm
open PySem.W.Looks renaming here->ajn
open PySem.EqNone renaming eq_none_none->akp,eq_none_bool->akq,eq_none_int->akr,eq_none_str->aks,eq_bool_none->akt,eq_int_none->aku,eq_str_none->akv,ne_none_none->akx,ne_none_bool->aky,ne_none_int->akz,ne_none_str->akA,ne_bool_none->akB,ne_int_none->akC,ne_str_none->akD
open PySem.Within renaming cons->akE
open List.Sublist renaming refl->akJ
open List.Nodup renaming sublist->anT
open PySem.IsL renaming update->ao0
open List.cons renaming injEq->ao3
abbrev W:=@rfl
abbrev G:=@List
open Option renaming some->R,none->M
open Bool renaming true->P
open PySem renaming Addr->I,Value->B
namespace L2
open PySem PySem.Spec PyProof.Rows
abbrev db:=Sum Int Str
def vD:db->B->Bool
 |.inl k,v=>Vh.isInt k v
 |.inr x,v=>Vh.isStrOf x v
def UE(w:Wh):db->Int
 |.inl k=>hashInt k
 |.inr x=>hashStr w x
theorem dB:∀{k:db} {v:B},vD k v=P->(∃i t,k=Sum.inl i/\v=Vh.int i t)\/(∃x t,k=Sum.inr x/\v=Vh.str x t)
 |.inl i,v,h=>by let(t,e):=Vh.isInt_shape h;show .inl #[i,t,W,e]
 |.inr x,v,h=>by let(t,e):=Vh.isStrOf_shape h;show .inr #[x,t,W,e]
def FM(i:Int)(t:Tok):vD (.inl i) (.int i t)=P:=by simp[vD,Vh.isInt]
def Fq(x:Str)(t:Tok):vD (.inr x) (.str x t)=P:=by simp[vD,Vh.isStrOf]
def P6(a b:Int):decide ((Sum.inl a:db)=Sum.inl b)=(a==b):=by
 by_cases e:a=b
 .subst e;simp
 .let h:¬(Sum.inl a:db)=Sum.inl b:=λq=>e (Sum.inl.inj q);rw[aP h];show(beq_eq_false_iff_ne.mpr e).symm
def QR(a b:Str):decide ((Sum.inr a:db)=Sum.inr b)=decide (a=b):=by
 by_cases e:a=b
 .subst e;simp
 .let h:¬(Sum.inr a:db)=Sum.inr b:=λq=>e (Sum.inr.inj q);rw[aP h,aP e]
theorem Qv(a:Int)(b:Str):decide ((Sum.inl a:db)=Sum.inr b)=Vq:=aP (λq=>nomatch q)
theorem Q9(a:Str)(b:Int):decide ((Sum.inr a:db)=Sum.inl b)=Vq:=aP (λq=>nomatch q)
def dm(prog:VV)(w:Wh):PySem.KeyKind prog w db where
 is:=vD
 hash:=UE w
 inj:=λv a b m g=>by
  rcases dB m with⟨i,t,rfl,rfl⟩|⟨x,t,rfl,rfl⟩
  .rcases dB g with⟨j,u,rfl,e⟩|⟨y,u,rfl,e⟩
   .injection e with e1 _;rw[e1]
   .show nomatch e
  .rcases dB g with⟨j,u,rfl,e⟩|⟨y,u,rfl,e⟩
   .show nomatch e
   .injection e with e1 _;rw[e1]
 byValue:=λk v h=>by rcases dB h with⟨i,t,rfl,rfl⟩|⟨x,t,rfl,rfl⟩<;>rfl
 pyHash:=λf h=>by
  rcases dB f with⟨i,t,rfl,rfl⟩|⟨x,t,rfl,rfl⟩
  .show ajc h
  .show ajd h
 eqBool:=λl f h=>by
  rcases dB l with⟨i,t,rfl,rfl⟩|⟨x,t,rfl,rfl⟩
  .rcases dB f with⟨j,u,rfl,rfl⟩|⟨y,u,rfl,rfl⟩
   .rw[P6]at h;show wpAny_eqBool_int h
   .rw[Qv]at h;show SeqAt.EqAt.int_str i t y u _ _ _ _ h
  .rcases dB f with⟨j,u,rfl,rfl⟩|⟨y,u,rfl,rfl⟩
   .rw[Q9]at h;show SeqAt.EqAt.str_int x t j u _ _ _ _ h
   .rw[QR]at h;show wpAny_eqBool_str h
 «strs»:=λk x t v h=>by
  rcases dB h with⟨i,u,rfl,e⟩|⟨y,u,rfl,e⟩
  .show nomatch e
  .injection e with e1 _
   subst e1;ext v<;>rfl
theorem zz(prog:VV)(w:Wh)(i:Int)(t:Tok):(dm prog w).is (.inl i) (.int i t)=P:=FM i t
theorem zF(prog:VV)(w:Wh)(x:Str)(t:Tok):(dm prog w).is (.inr x) (.str x t)=P:=Fq x t
inductive V where
 |Xo|bl (b:Bool)|int (i:Int)|str (x:Str)|byt (b:Array UInt8)|flt (b:UInt64)|ref (a:I)|ty (n:String)
 deriving DecidableEq
def RelV:V->B->Prop
 |.Xo,u=>u=Vh.none
 |.bl b,u=>u=Vh.bool b
 |.int i,u=>∃t,u=Vh.int i t
 |.str x,u=>∃t,u=Vh.str x t
 |.byt b,u=>∃t,u=Vh.bytes b t
 |.flt b,u=>∃t,u=Vh.float b t
 |.ref a,u=>u=Vh.ref a
 |.ty n,u=>u=Vh.type n
abbrev Vals:G V->G B->Prop:=Paired RelV
theorem Vals.length(r:Vals xs us):xs.length=us.length:=Paired.length r
theorem Vals.get:∀{xs:G V} {us:G B} {i:Nat} {x:V},Vals xs us->xs[i]?=R x->∃u,us[i]?=R u/\RelV x u
 |_,_,_,_,.nil,e=>by simp at e
 |_,_,0,_,.cons r _,e=>by simp at e;subst e;show#[_,W,r]
 |_,_,i+1,x,.cons _ t,e=>by let(u,b,a):=Vals.get t (by simpa using e);show#[u,by simpa using b,a]
theorem Vals.append:∀{xs a:G V} {us ws:G B},Vals xs us->Vals a ws->Vals (xs++a) (us++ws)
 |_,_,_,_,.nil,s=>s
 |_,_,_,_,.cons r t,s=>.cons r (Vals.append t s)
theorem Vals.take:∀{xs:G V} {us:G B} (n:Nat),Vals xs us->Vals (xs.take n) (us.take n)
 |_,_,0,_=>.nil
 |_,_,_+1,.nil=>.nil
 |_,_,n+1,.cons r t=>.cons r (Vals.take n t)
theorem Vals.drop:∀{xs:G V} {us:G B} (n:Nat),Vals xs us->Vals (xs.drop n) (us.drop n)
 |_,_,0,r=>r
 |_,_,_+1,.nil=>.nil
 |_,_,n+1,.cons _ t=>Vals.drop n t
def ZU:br V->br B->Prop
 |some v,R u=>RelV v u
 |none,M=>True
 |_,_=>False
def KV:G (o×V)->G (o×B)->Prop:=Paired λ(p:o×V) (q:o×B)=>p.1=q.1/\RelV p.2 q.2
def kV:db->V
 |.inl i=>.int i
 |.inr x=>.str x
inductive HO where
 |lst (xs:G V)
 |tup (xs:G V)
 |dK (V1:G (db×V))|dT (V1:G (G db×V))
 |set (S:Int->Bool) (n:Nat)
 |ins (C dx:I) (fs:G (Str×V))
 |own (x:I)
 |xd (fs:G (Str×V))
 |met (f x:I)
 |rng (lo hi:Int)
 |frz (o:Obj) (u:HO)
 |tbl (ps:Array B)
 |ext (φ:Heap->Prop)
 |exw (φ:Wh->Heap->Prop)
abbrev Hp:=I->br HO
def bE(H:Hp)(a:I)(o:HO):Hp:=λb=>if b=a then R o else H b
def aJ:bE H a o a=R o:=by ext bE;rw[ag W]
def aG(h:b≠a):bE H a o b=H b:=by ext bE;rw[av h]
def RY{H:Hp}{a b:I}{o u:HO}(h:H a=R o)(c:H b=R u)(d:o≠u):a≠b:=by intro e;subst e;rw[h]at c;show d (VR c)
def cG{H:Hp}(h:H a=R o)(c:H b=M):a≠b:=by intro e;subst e;rw[h]at c;ext c
def acg(h:Heap)(a:I)(items:Array B):Prop:=∃o,h.get? a=R o/\(o.cls=.type "tuple"/\∃n,o.data=.seq items n)/\o.dict=M
theorem acg.tup(x:acg h a items):IsTup h a items:=let#[o,e,c,_]:=x;#[o,e,c]
theorem acg.lt(x:acg h a items):a<h.objs.size:=let#[_,e,_]:=x;cv e
theorem acg.new(h:Heap)(xs:Array B):acg (h.push {cls:=.type "tuple",data:=.seq xs}) h.objs.size xs:=#[_,cx _ W,#[W,_,W],W]
section
variable(P:VV)(w:Wh)
def ObjOk(H:Hp)(h:Heap)(a:I):HO->Prop
 |.lst xs=>xs.length<=VF/\∃(b:G B) (n:Nat),Vals xs b/\h.get? a=R {cls:=.type "list",data:=.seq b.toArray n}
 |.tup xs=>xs.length<=VF/\∃b:G B,Vals xs b/\acg h a b.toArray
 |.dK j=>j.length<=VF/\(a==XZ)=Vq/\∃m,KV j m/\h.DictOf (dm P w) a m
 |.dT j=>j.length<=VF/\(a==XZ)=Vq/\∃xs:G (G db×I×B),
   Paired (λ(p:G db×V) (q:G db×I×B)=>p.1=q.1/\H q.2.1=R (.tup (p.1.map kV))/\RelV p.2 q.2.2) j xs/\
   ∃o r E,h.get? a=R o/\o.ExactDict/\o.data=.dict r E/\r.toList=xs.map (entryOfKey (tupleKind (dm P w)))/\(xs.map (·.1)).Nodup
 |.set S n=>h.SetOf (intKind P w) a S n
 |.ins C l fs=>H l=R (.own a)/\fs.length<=1000/\l≠a/\h.get? a=R (XO C l)/\
   ∃g,h.Ns1 l g/\(∀f,ZU (fs.lookup f) (g f))/\adQ g (fs.map (·.1))
 |.own _=>∃o,h.get? a=R o
 |.xd fs=>∃g,h.Ns1 a g/\∀f,ZU (fs.lookup f) (g f)
 |.rng lo A=>∃t u v,h.get? a=R {cls:=.type "range",data:=.fields #v[.int lo t,.int A u,.int 1 v]}
 |.frz o u=>h.get? a=R o/\ObjOk H h a u
 |.tbl y=>h.get? a=R {cls:=.none,data:=.fields y}
 |.met f x=>h.get? a=R (abr (.ref f) (.ref x))
 |.ext e=>e h/\(∃o,h.get? a=R o)/\∀h1 i:Heap,e h1->(∀o,h1.get? a=R o->i.get? a=R o)->e i
 |.exw e=>e w h/\(∃o,h.get? a=R o)/\∀h1 i:Heap,e w h1->(∀o,h1.get? a=R o->i.get? a=R o)->e w i
def HOk(H:Hp)(h:Heap):Prop:=∀a o,H a=R o->ObjOk P w H h a o
end
section
variable{P:VV}{w:Wh}{H Z:Hp}{h h':Heap}{a:Vm}{o:HO}
def ObjOk.lt(x:ObjOk P w H h a o):a<h.objs.size:=by
 cases o with
 |lst xs=>let(_,_,_,_,e):=x;show cv e
 |tup xs=>let(_,_,_,p):=x;show p.lt
 |dK i=>let(_,_,_,_,o,_,_,e,_):=x;show cv e
 |dT i=>let(_,_,_,_,o,_,_,e,_):=x;show cv e
 |set S n=>let(o,_,_,_,e,_):=x;show cv e
 |ins C m fs=>let(_,_,_,e,_):=x;show cv e
 |own y=>let(_,e):=x;show cv e
 |xd fs=>let(_,(_,_,_,e,_),_):=x;show cv e
 |rng lo l=>let(_,_,_,e):=x;show cv e
 |frz b u=>let(e,_):=x;show cv e
 |tbl j=>show cv (show h.get? a=R _ from x)
 |met f y=>show cv (show h.get? a=R _ from x)
 |ext g=>let(_,(_,e),_):=x;show cv e
 |exw g=>let(_,(_,e),_):=x;show cv e
theorem Paired.ZW:∀{d:bg α} {c:bg β},Paired F d c->(∀a b,F a b->e a b)->Paired e d c
 |_,_,.nil,_=>.nil
 |_,_,.cons r t,f=>.cons (f _ _ r) (Paired.ZW t f)
def ObjOk.ZL(x:ObjOk P w H h a o)(k:∀b u,(b=a\/H b=R (.own a))->h.get? b=R u->h'.get? b=R u)
  (F:∀b,H b=R (.own a)->Z b=R (.own a)) (E:∀b xs,H b=R (.tup xs)->Z b=R (.tup xs)):ObjOk P w Z h' a o:=by
 induction o with
 |lst xs=>let(z,A,n,r,e):=x;show#[z,A,n,r,k _ _ (.inl W) e]
 |tup xs=>let(z,A,r,g,e,c):=x;show#[z,A,r,g,k _ _ (.inl W) e,c]
 |dK O=>let(z,y,N,r,g,J,i,e,c):=x;show#[z,y,N,r,g,J,i,k _ _ (.inl W) e,c]
 |dT O=>let(z,y,xs,r,g,J,i,e,c):=x;show#[z,y,xs,Paired.ZW r λp q z=>#[z.1,E _ _ z.2.1,z.2.2],g,J,i,k _ _ (.inl W) e,c]
 |set S n=>let(g,J,i,t,e,c):=x;show#[g,J,i,t,k _ _ (.inl W) e,c]
 |ins C T fs=>let(d,z,ne,e,m,(l,J,i,G,c),r):=x;show#[F _ d,z,ne,k _ _ (.inl W) e,m,#[l,J,i,k _ _ (.inr d) G,c],r]
 |own y=>let(g,e):=x;show#[g,k _ _ (.inl W) e]
 |xd fs=>let(m,(l,J,i,e,c),r):=x;show#[m,#[l,J,i,k _ _ (.inl W) e,c],r]
 |rng lo Q=>let(t,u,v,e):=x;show#[t,u,v,k _ _ (.inl W) e]
 |frz g u B=>let(e,q):=x;show#[k _ _ (.inl W) e,B q]
 |tbl K=>let e:h.get? a=R {cls:=.none,data:=.fields K}:=x;show h'.get? a=R {cls:=.none,data:=.fields K};show k a _ (.inl W) e
 |met f y=>let e:h.get? a=R (abr (.ref f) (.ref y)):=x;show h'.get? a=R (abr (.ref f) (.ref y));show k a _ (.inl W) e
 |ext L=>let(p,(o,e),j):=x;show#[j _ _ p λo q=>k _ _ (.inl W) q,#[o,k _ _ (.inl W) e],j]
 |exw L=>let(p,(o,e),j):=x;show#[j _ _ p λo q=>k _ _ (.inl W) q,#[o,k _ _ (.inl W) e],j]
theorem HOk.lt(x:HOk P w H h)(e:H a=R o):a<h.objs.size:=(x a o e).lt
def HOk.fresh(x:HOk P w H h)(e:h.objs.size<=a):H a=M:=by
 cases q:H a with
 |none=>rfl
 |some u=>show a6 (VS (x.lt q) e) (WW _)
theorem HOk.kept(x:HOk P w H h)(k:∀b u,h.get? b=R u->h'.get? b=R u):HOk P w H h':=λa o e=>
 (x a o e).ZL (λb u _ q=>k b u q) (λ_ q=>q) λ_ _ q=>q
theorem HOk.laid(x:HOk P w H h)(k:∀b u,h.get? b=R u->h'.get? b=R u)(g:h.objs.size<=a)(new:ObjOk P w (bE H a o) h' a o):HOk P w (bE H a o) h':=λb u e=>by
 let i:=x.fresh g;by_cases f:b=a
 .subst f;rw[aJ]at e;ext e;show new
 .rw[aG f]at e;show(x b u e).ZL (λc v _ q=>k c v q) (λc q=>by rw[aG (cG q i)];show q) λc xs q=>by rw[aG (cG q i)];show q
end
def Rd(H:Hp)(a:I)(u:HO):Prop:=H a=R u\/∃o,H a=R (.frz o u)
theorem Rd.of(h:H a=R u):Rd H a u:=.inl h
def Rd.ok(r:Rd H a u)(x:HOk b w H h):ObjOk b w H h a u:=by
 rcases r with r|⟨o,r⟩
 .show x a u r
 .let(_,q):=x a _ r;show q
def S2:br HO->Prop
 |some (.lst _)=>True
 |some (.dK _)=>True
 |some (.dT _)=>True
 |some (.set _ _)=>True
 |some (.ins _ _ _)=>True
 |some (.ext _)=>True
 |some (.exw _)=>True
 |_=>False
section
variable{P:VV}{w:Wh}{H:Hp}{h h':Heap}{x e:Vm}{Z:HO}
theorem HOk.write(ok:HOk P w H h)(g:S2 (H x))(o:e=x\/H e=R (.own x))(k:∀b u,b≠e->h.get? b=R u->h'.get? b=R u)(l:∃u,h'.get? e=R u)
  (new:ObjOk P w (bE H x Z) h' x Z):HOk P w (bE H x Z) h':=λb u q=>by
 let f:∀c y,H c=R (.own y)->c≠x:=λc y r z=>by subst z;rw[r]at g;show g
 let m:∀c xs,H c=R (.tup xs)->c≠x:=λc xs r z=>by subst z;rw[r]at g;show g
 by_cases j:b=x
 .subst j;rw[aJ]at q;ext q;show new
 .rw[aG j]at q
  by_cases a:b=e
  .let n:H b=R (.own x):=by
    rcases o with z|z
    .show a6 (a.trans z) j
    .rw[a];show z
   rw[q]at n;ext n;let(v,p):=l;show#[v,by rw[a];show p]
  .show(ok b u q).ZL (λc v i r=>k c v ?_ r) (λc r=>by rw[aG (f c b r)];show r) λc xs r=>by rw[aG (m c xs r)];show r
   rcases i with rfl|i
   .show a
   .rintro rfl
    rcases o with z|z
    .show f c b i z
    .rw[i]at z;ext z;show j W
end
structure Un(fs ex:G I)(H H':Hp)(h h':Heap):Prop where
 keep:∀b o,h.get? b=R o->H b=M->b∉fs->b∉ex->h'.get? b=R o
 slot:∀b o,h.get? b=R o->H b=M->b∈fs->b∉ex->∃sl,h'.get? b=R {o with slots:=sl}
 free:∀b o,h.get? b=R o->H b=M->b∉ex->H' b=M
 there:∀b o,h.get? b=R o->b∉ex->∃o',h'.get? b=R o'
 abD:∀b xs,H b=R (.tup xs)->H' b=R (.tup xs)
 abc:∀b o u,H b=R (.frz o u)->H' b=R (.frz o u)
 abC:∀b ps,H b=R (.tbl ps)->∃more,H' b=R (.tbl (ps++more))
section
variable{fs X Z U:bg Vm}{H T S:Hp}{h Y Q h':Heap}{a x e:Vm}{o:HO}
def Un.any(u:Un fs Z H T h Y)(q:h.get? b=R ob)(n:H b=M)(f:b∉Z):∃c,Y.get? b=R {ob with slots:=c}:=by
 by_cases g:b∈fs
 .show u.slot b ob q n g f
 .show#[ob.slots,u.keep b ob q n g f]
theorem Un.kept(k:∀b u,h.get? b=R u->h'.get? b=R u):Un fs Z H H h h':=
 #[λb f q _ _ _=>k b f q,λb f q _ _ _=>#[f.slots,k b f q],λ_ _ _ n _=>n,λb f q _=>#[f,k b f q],λ_ _ q=>q,λ_ _ _ q=>q,λ_ g q=>#[#v[],by rw[q];simp]]
theorem Un.refl:Un fs Z H H h h:=Un.kept λ_ _ q=>q
theorem Un.laid(k:∀b u,h.get? b=R u->h'.get? b=R u)(f:h.objs.size<=a)(c:H a=M):Un fs Z H (bE H a o) h h' where
 keep:=λb u q _ _ _=>k b u q
 slot:=λb u q _ _ _=>#[u.slots,k b u q]
 free:=λb u q n _=>by rw[aG (VW (VS (cv q) f))];show n
 there:=λb u q _=>#[u,k b u q]
 abD:=λb xs q=>by rw[aG (cG q c)];show q
 abc:=λb u xs q=>by rw[aG (cG q c)];show q
 abC:=λb g q=>#[#v[],by rw[aG (cG q c),q];simp]
def Un.write(g:S2 (H x))(p:e=x\/H e=R (.own x))(k:∀b u,b≠e->h.get? b=R u->h'.get? b=R u)(i:∃u,h'.get? e=R u):Un fs Z H (bE H x o) h h':=by
 let j:∀b,H b=M->b≠x:=λb n z=>by subst z;rw[n]at g;show g
 let l:∀b,H b=M->b≠e:=λb n z=>by
  subst z;rcases p with r|r
  .show j b n r
  .rw[n]at r;ext r
 let hm:∀b u,H b=R u->¬S2 (R u)->b≠x:=λb u q m z=>by subst z;rw[q]at g;show m g
 show#[λb u q n _ _=>k b u (l b n) q,λb u q n _ _=>#[u.slots,k b u (l b n) q],λb u q n _=>by rw[aG (j b n)];show n,λb u q _=>?_,
  λb xs q=>by rw[aG (hm b _ q λz=>z)];show q,λb u xs q=>by rw[aG (hm b _ q λz=>z)];show q,λb t q=>#[#v[],by rw[aG (hm b _ q λz=>z),q];simp]]
 by_cases f:b=e
 .subst f;show i
 .show#[u,k b u f q]
end
def TY(h:Heap)(H:Hp):G I:=(VO h.objs.size).filter λa=>(H a).isSome
def ym(h:Heap)(H:Hp):Heap:=PySem.W.hideAll h (TY h H)
theorem Fg(h:Heap)(H:Hp):(ym h H).objs.size=h.objs.size:=PySem.W.hideAll_size _ _
theorem JO(e:h.get? b=R o)(n:H b=M):(ym h H).get? b=R o:=
 PySem.W.hideAll_get _ e λhm=>by let q:=(Yn.mp hm).2;rw[n]at q;simp at q
def LK(e:(ym h H).get? b=R o):h.get? b=R o/\H b=M:=by
 let a:=PySem.W.of_hideAll (TY h H) e;show#[a,?_];cases q:H b with
 |none=>rfl
 |some x=>let hm:b∈TY h H:=Yn.mpr #[WH.mpr (cv a),by simp[q]];let z:(ym h H).get? b=M:=PySem.W.hideAll_none (TY h H) hm;rw[z]at e;ext e
structure Mod(K:Ld)(mg:Str->br B)(base:Heap):Prop where
 kin:K.In base
 glob:base.Ns VD mg
 blt:∃mb,base.Ns builtinsNs mb/\∀x:Str,x≠ "__name__"->mb x=WC x
 nolimit:base.NoLimit
structure Cx where
 prog:VV
 w:Wh
 K:Ld
 mg:Str->br B
 base:Heap
 A:V7
 N:G Str
 s₀:Vp
 H₀:Hp
 env:Env
 outer:G Env
 stack:G Env
 ex:G I
 fn:Str->Bool
 calm:Bool
 pn:G (I×Obj)
 xe:B->Vp->Prop
def yy(l:G Env):G I:=l.filterMap (·.frame)
abbrev Cx.fs(X:Cx):G I:=yy X.outer
def TJ(sc:YT)(x:Str):Prop:=sc.names.lookup x=R .local\/sc.names.lookup x=R .cell\/sc.names.lookup x=R .free
def SJ(sc:YT)(x:Str):Prop:=sc.names.lookup x=R .local\/sc.names.lookup x=R .cell
def Uh(env:Env)(h:Heap)(m:Str->br B)(x:Str)(u:B):Prop:=
 (env.kindOf x=R .local/\m x=R u)\/((env.kindOf x=R .cell\/env.kindOf x=R .free)/\∃c,env.cells.lookup x=R c/\h.IsCell c (R u))
structure Cx.Ok(X:Cx):Prop where
 mod:Mod X.K X.mg X.base
 kind:X.env.scope.kind=.function
 glob:X.env.globals=VD
 blt:X.env.builtins=builtinsNs
 above:X.s₀.heap.objs.size<=X.env.locals
 inj:∀x y c,X.env.cells.lookup x=R c->X.env.cells.lookup y=R c->x=y
 has:∀x,(X.env.kindOf x=R .cell\/X.env.kindOf x=R .free)->∃c,X.env.cells.lookup x=R c
 cab:∀x c,X.fn x=P->X.env.cells.lookup x=R c->X.s₀.heap.objs.size<=c
 hd:X.calm=P->X.A.handled=M
 frames:X.A.frames=R X.stack
 stk:X.stack=X.outer\/(X.stack=X.env::X.outer/\X.env.frame=R X.env.locals)
 exf:∀b∈X.ex,b≠X.env.locals/\∀x c,X.env.cells.lookup x=R c->c≠b
 bs:∀b o,X.base.get? b=R o->X.s₀.heap.get? b=R o/\X.H₀ b=M
 bsz:X.base.objs.size<=X.s₀.heap.objs.size
 adX:∀b o,X.base.get? b=R o->b∉X.ex
 aef:∀b∈X.ex,b∉X.fs
 abh:X.s₀.heap.FunFrames X.base X.outer
 frf:∀b∈X.fs,X.H₀ b=M
structure Inv(X:Cx)(pins:G (I×Obj))(σ:G (br V))(H:Hp)(s:Vp):Prop where
 ok:X.Ok
 os:s.os=X.s₀.os
 bare:AllBare s.gens
 base:Un X.fs X.ex X.H₀ H X.s₀.heap s.heap
 loc:∃m,s.heap.Ns X.env.locals m/\∀(i:Nat) (x:Str) (v:V),X.N[i]?=R x->σ[i]?=R (R v)->TJ X.env.scope x->∃u,RelV v u/\Uh X.env s.heap m x u
 cell:∀x c,X.env.cells.lookup x=R c->∃v,s.heap.IsCell c v
 free:H X.env.locals=M
 Y4:∀x c,X.env.cells.lookup x=R c->H c=M
 pin:∀p∈X.pn++pins,s.heap.get? p.1=R p.2/\H p.1=M/\p.1≠X.env.locals/\p.1∉X.fs/\∀v,p.2.data≠.cell v
 WT:HOk X.prog X.w H s.heap
 len:σ.length=X.N.length
section
variable{X:Cx}{Z:bg (Vm×Obj)}{Y:bg (br V)}{H H':Hp}{s:Vp}{h':Heap}
theorem Cx.Ok.amP(ok:X.Ok)(e:X.base.get? b=R o):b∉X.fs:=λa=>by let:=(ok.abh.mem a).1;rw[e]at this;ext this
theorem Inv.bs(I:Inv X Z Y H s):∀b o,X.base.get? b=R o->s.heap.get? b=R o/\H b=M:=λb o e=>
 #[I.base.keep b o (I.ok.bs b o e).1 (I.ok.bs b o e).2 (I.ok.amP e) (I.ok.adX b o e),I.base.free b o (I.ok.bs b o e).1 (I.ok.bs b o e).2 (I.ok.adX b o e)]
theorem Inv.bk(I:Inv X Z Y H s):∀b o,X.base.get? b=R o->s.heap.get? b=R o:=λb o e=>(I.bs b o e).1
theorem Inv.mod(I:Inv X Z Y H s):Mod X.K X.mg X.base:=I.ok.mod
theorem Inv.kIn(I:Inv X Z Y H s):X.K.In s.heap:=I.ok.mod.kin.keeps I.bk
theorem Inv.lt(I:Inv X Z Y H s):X.env.locals<s.heap.objs.size:=let#[_,a,_]:=I.loc;a.lt
theorem Inv.sz(I:Inv X Z Y H s):X.s₀.heap.objs.size<=s.heap.objs.size:=Wk I.ok.above (Zg I.lt)
theorem Inv.am2(I:Inv X Z Y H s)(h:s.heap.objs.size<=a):a∉X.fs:=λe=>by let(_,o,b,_):=I.ok.abh.mem e;show a6 (VS (cv b) (Wk I.sz h)) (WW _)
theorem Inv.cne(I:Inv X Z Y H s):∀x c,X.env.cells.lookup x=R c->c≠X.env.locals:=λx c e z=>by let(v,o,f,g):=I.cell x c e;let(m,(h,j,i,a,b,_),_):=I.loc;rw[z,a]at f;ext f;rw[b]at g;ext g
def Inv.abh(I:Inv X Z Y H s):s.heap.FunFrames X.base X.outer:=by
 let all:∀(l:G Env),(∀b∈yy l,b∈X.fs)->X.s₀.heap.FunFrames X.base l->s.heap.FunFrames X.base l:=by
  intro l
  induction l with
  |nil=>intro _ _;trivial
  |cons t r i=>intro h n;let(p,(L,o,a,v,m,q),j):=n;let g:=h L (by ext yy;rw[abl,a];show Vn);let(u,e):=I.base.slot L o m (I.ok.frf L g) g λz=>I.ok.aef L z g;show#[p,#[L,_,a,v,e,q],i (λb f=>h b (by ext yy;rw[abl,a];show Vr _ f)) j]
 show all X.outer (λ_ f=>f) I.ok.abh
def Inv.stack(I:Inv X Z Y H s):s.heap.FunFrames X.base X.stack:=by
 rcases I.ok.stk with e|⟨e,hf⟩
 .rw[e];show I.abh
 .rw[e];let(m,a,_):=I.loc;show .cons (by rw[I.ok.kind];decide) hf a ?_ I.abh;show dP (Wk I.ok.bsz I.ok.above)
theorem Inv.abj(I:Inv X Z Y H s):∀b∈yy X.stack,b∈X.env.locals::X.fs:=λb a=>by
 rcases I.ok.stk with e|⟨e,hf⟩
 .rw[e]at a;show Vr _ a
 .rw[e]at a;unfold yy at a;rw[abl,hf]at a;show a
theorem Inv.abH(I:Inv X Z Y H s):∀b∈yy X.stack,H b=M:=λb a=>by
 rcases VG.mp (I.abj b a)with e|a
 .rw[e];show I.free
 .let(_,o,f,_):=I.ok.abh.mem a;show I.base.free b o f (I.ok.frf b a) λz=>I.ok.aef b z a
def Inv.step{g':Array aaR}{t':Nat}{d':afK}{ch:bg Vm}(I:Inv X Z Y H s)
  (g:∀b∈ch,(b∈X.ex\/X.s₀.heap.objs.size<=b)/\b≠X.env.locals/\(∀x c,X.env.cells.lookup x=R c->c≠b)/\∀p∈X.pn++Z,p.1≠b)
  (keep:∀b o,b≠X.env.locals->b∉X.fs->b∉ch->s.heap.get? b=R o->H b=Vg->h'.get? b=R o)
  (slot:∀b o,b≠X.env.locals->b∈X.fs->b∉ch->s.heap.get? b=R o->H b=Vg->∃S,h'.get? b=R {o with slots:=S}) (free:∀b o,b∉ch->s.heap.get? b=R o->H b=Vg->H' b=Vg)
  (there:∀b o,b∉ch->s.heap.get? b=R o->∃w,h'.get? b=R w)
  (U:∀b xs,H b=R (.tup xs)->H' b=R (.tup xs)) (T:∀b o u,H b=R (.frz o u)->H' b=R (.frz o u)) (abC:∀b D,H b=R (.tbl D)->∃more,H' b=R (.tbl (D++more)))
  (L:∀m,s.heap.Ns X.env.locals m->h'.Ns X.env.locals m) (WT:HOk X.prog X.w H' h') (P:AllBare g'):
  Inv X Z Y H' {s with heap:=h',gens:=g',drawn:=d',toks:=t'}:=by
 let B:∀b o,X.s₀.heap.get? b=R o->b≠X.env.locals:=λb o e=>VW (VS (cv e) I.ok.above);let j:∀b o,X.s₀.heap.get? b=R o->b∉X.ex->b∉ch:=λb o e a y=>by
  rcases(g b y).1 with z|z
  .show a z
  .show a6 (VS (cv e) z) (WW _)
 let h:∀x c,X.env.cells.lookup x=R c->∀v,s.heap.IsCell c v->h'.IsCell c v:=λx c e v #[o,A,F]=>by
  let f:c∉ch:=λz=>(g c z).2.2.1 x c e W;by_cases K:c∈X.fs
  .let(S,q):=slot c o (I.cne x c e) K f A (I.Y4 x c e);show#[_,q,F]
  .show#[o,keep c o (I.cne x c e) K f A (I.Y4 x c e),F]
 show#[I.ok,I.os,P,#[λb o e n y a=>?_,λb o e n y a=>?_,λb o e n a=>?_,λb o e a=>?_,λb xs e=>U b xs (I.base.abD b xs e),λb o xs e=>T b o xs (I.base.abc b o xs e),λb D e=>?_],?_,λx c e=>?_,?_,λx c e=>?_,λp J=>?_,WT,I.len]
 .show keep b o (B b o e) y (j b o e a) (I.base.keep b o e n y a) (I.base.free b o e n a)
 .let(S,t):=I.base.slot b o e n y a;let(E,C):=slot b _ (B b o e) y (j b o e a) t (I.base.free b o e n a);show#[E,C]
 .let(w,t):=I.base.there b o e a;show free b w (j b o e a) t (I.base.free b o e n a)
 .let(w,t):=I.base.there b o e a;show there b w (j b o e a) t
 .let(N,t):=I.base.abC b D e;let(M,C):=abC b _ t;show#[N++M,by rw[C,Array.append_assoc]]
 .let(m,hn,O):=I.loc
  show#[m,L m hn,λi x v t C Q=>?_];let(u,r,l):=O i x v t C Q;show#[u,r,?_];rcases l with l|⟨k,c,e,z⟩
  .show .inl l
  .show .inr #[k,c,e,h x c e _ z]
 .let(v,z):=I.cell x c e;show#[v,h x c e v z]
 .let(m,(o,_,_,A,_),_):=I.loc;show free _ o (λz=>(g _ z).2.1 W) A I.free
 .let(v,o,A,F):=I.cell x c e;show free c o (λz=>(g c z).2.2.1 x c e W) A (I.Y4 x c e)
 .let(e,n,ne,G,d):=I.pin p J;let f:p.1∉ch:=λz=>(g p.1 z).2.2.2 p J W;show#[keep p.1 p.2 ne G f e n,free p.1 p.2 f e n,ne,G,d]
def Inv.un{t':Nat}(I:Inv X Z Y H s)(u:Un X.fs [] H H' s.heap h')(WT:HOk X.prog X.w H' h'):Inv X Z Y H' {s with heap:=h',toks:=t'}:=by let(m,(o,w,v,i,r),_):=id I.loc;let(p,l):=u.any i I.free (by simp);show I.step (g':=s.gens) (d':=s.drawn) (ch:=[]) (λ_ z=>nomatch z) (λb o _ f _ e n=>u.keep b o e n f (by simp)) (λb o _ f _ e n=>u.slot b o e n f (by simp)) (λb o _ e n=>u.free b o e n (by simp)) (λb o _ e=>u.there b o e (by simp)) u.abD u.abc u.abC (λt hm=>by let(q,g,h,a,j):=hm;rw[i]at a;ext a;show#[_,g,h,l,j]) WT I.bare
def Inv.call{g':Array aaR}{t':Nat}{d':afK}{ch:G Vm}(I:Inv X Z Y H s)(u:Un (yy X.stack) ch H H' s.heap h')(WT:HOk X.prog X.w H' h')(t:AllBare g')
  (g:∀b∈ch,(b∈X.ex\/X.s₀.heap.objs.size<=b)/\b≠X.env.locals/\(∀x c,X.env.cells.lookup x=R c->c≠b)/\∀p∈X.pn++Z,p.1≠b):
  Inv X Z Y H' {s with heap:=h',gens:=g',drawn:=d',toks:=t'}:=by
 let(m,(o,w,C,l,r),_):=id I.loc;let(y,h):=u.any l I.free λz=>(g _ z).2.1 W;show I.step (ch:=ch) g (λb o h v a e n=>u.keep b o e n (λz=>(VG.mp (I.abj b z)).elim h v) a) (λb o _ _ a e n=>u.any e n a) (λb o a e n=>u.free b o e n a) (λb o a e=>u.there b o e a) u.abD u.abc u.abC (λB hm=>by let(A,i,j,f,q):=hm;rw[l]at f;ext f;show#[_,i,j,h,q]) WT t
def Inv.turned{t':Nat}{it:Vm}(I:Inv X Z Y H s)(k:∀b o,b≠it->s.heap.get? b=R o->h'.get? b=R o)(d:H it=M)(g:it≠X.env.locals)
  (t:it∈X.ex\/X.s₀.heap.objs.size<=it) (l:∀x c,X.env.cells.lookup x=R c->c≠it) (j:∀p∈X.pn++Z,p.1≠it):Inv X Z Y H {s with heap:=h',toks:=t'}:=by
 let f:∀b u,H b=R u->b≠it:=λb u e z=>by rw[z,d]at e;ext e
 show I.step (g':=s.gens) (d':=s.drawn) (ch:=[it]) (λb i=>?_) (λb o _ _ a e _=>k b o (λz=>a (by simp[z])) e) (λb o _ _ a e _=>#[o.slots,k b o (λz=>a (by simp[z])) e]) (λ_ _ _ _ n=>n)
  (λb o a e=>#[o,k b o (λz=>a (by simp[z])) e]) (λ_ _ e=>e) (λ_ _ _ e=>e) (λb A e=>#[#v[],by rw[e];simp]) (λm hm=>?_) (λb u e=>?_) I.bare
 .let e:b=it:=by simpa using i
  subst e;show#[t,g,l,j]
 .let(o,y,w,h,r):=hm;show#[o,y,w,k _ o (ej g) h,r]
 .show(I.WT b u e).ZL (λc v a q=>k c v ?_ q) (λ_ q=>q) λ_ _ q=>q
  rcases a with z|z
  .rw[z];show f b u e
  .show f c _ z
theorem Inv.tok(I:Inv X Z Y H s)(t:Nat):Inv X Z Y H {s with toks:=t}:=I.un Un.refl I.WT
theorem Inv.kept{t':Nat}(I:Inv X Z Y H s)(k:∀b u,s.heap.get? b=R u->h'.get? b=R u):Inv X Z Y H {s with heap:=h',toks:=t'}:=I.un (Un.kept k) (I.WT.kept k)
theorem Inv.laid{a:Vm}{o:HO}{t':Nat}(I:Inv X Z Y H s)(k:∀b u,s.heap.get? b=R u->h'.get? b=R u)(e:s.heap.objs.size<=a)(new:ObjOk X.prog X.w (bE H a o) h' a o):
  Inv X Z Y (bE H a o) {s with heap:=h',toks:=t'}:=I.un (Un.laid k e (I.WT.fresh e)) (I.WT.laid k e new)
theorem Inv.write{x e:Vm}{o:HO}{t':Nat}(I:Inv X Z Y H s)(f:S2 (H x))(g:e=x\/H e=R (.own x))(k:∀b u,b≠e->s.heap.get? b=R u->h'.get? b=R u)(a:∃u,h'.get? e=R u)
  (new:ObjOk X.prog X.w (bE H x o) h' x o):Inv X Z Y (bE H x o) {s with heap:=h',toks:=t'}:=I.un (Un.write f g k a) (I.WT.write f g k a new)
theorem Inv.adD(I:Inv X Z Y H s)(h:∀p∈aj9,s.heap.get? p.1=R p.2/\H p.1=M/\p.1≠X.env.locals/\p.1∉X.fs/\∀v,p.2.data≠.cell v):Inv X aj9 Y H s:=
 #[I.ok,I.os,I.bare,I.base,I.loc,I.cell,I.free,I.Y4,λp a=>(Wi.mp a).elim (λz=>I.pin p (Xf _ z)) (h p),I.WT,I.len]
def sR{N:G Str}(e:N.Nodup){i j:Nat}(a:N[i]?=R x)(b:N[j]?=R x):i=j:=by let(l,g):=Vk.mp a;let(h,f):=Vk.mp b;show(List.getElem_inj e).mp (g.trans f.symm)
def vI{M:adE}{A:V7}{E:B->Vp->Prop}{i:Nat}{x:Str}{v:V}{u:B}{Q:Unit->Vp->Prop}(I:Inv X Z Y H s)(hN:X.N.Nodup)(D:X.N[i]?=R x)(t:SJ X.env.scope x)(r:RelV v u)
  (h:∀F,Inv X Z (Y.set i (R v)) H F->(∃a,Heap.SameBut a s.heap F.heap/\(a=X.env.locals\/X.env.cells.lookup x=R a))->Q ⟨⟩ F) (hf:X.fn x=P\/X.env.scope.names.lookup x=R .local:=by first|show .inl W|show .inr W|assumption):wpAny M A (storeName X.env x u) Q E s:=by
 let(m,hn,hl):=id I.loc;let ail:(X.env.scope.kind==.class||(X.env.scope.kind==.module&&X.env.locals !=X.env.globals))=Vq:=by rw[I.ok.kind];rfl
 let J:i<Y.length:=by rw[I.len];show(Vk.mp D).1
 let cne:=I.cne;let tracked:∀{a:Vm} {h':Heap},(∃o,s.heap.get? a=R o/\H a=Vg)->Heap.SameBut a s.heap h'->HOk X.prog X.w H h':=λ{a h'} ha f b ob e=>by
  let(_,_,S):=ha;show(I.WT b ob e).ZL (λc T l q=>(f.2 c ?_).trans q) (λ_ q=>q) λ_ _ q=>q;rintro rfl;rcases l with rfl|l
  .rw[S]at e;ext e
  .rw[S]at l;ext l
 rcases t with C|C
 .show wpAny_storeName_local C hn (λh' hn' f=>?_) ail
  let(oL,_,_,hoL,_):=id hn;show h _ #[I.ok,I.os,I.bare,#[λb o e n L t=>?_,λb o e n L t=>?_,I.base.free,λb o e t=>?_,I.base.abD,I.base.abc,I.base.abC],#[_,hn',λj y v' g w e3=>?_],λy c e=>?_,I.free,I.Y4,λp hp=>?_,tracked #[oL,hoL,I.free] f,by simpa using I.len] #[_,f,.inl W]
  .show(f.2 b (VW (VS (cv e) I.ok.above))).trans (I.base.keep b o e n L t)
  .let(sl,g):=I.base.slot b o e n L t;show#[sl,(f.2 b (VW (VS (cv e) I.ok.above))).trans g]
  .let(o',g):=I.base.there b o e t;show#[o',(f.2 b (VW (VS (cv e) I.ok.above))).trans g]
  .by_cases hj:j=i
   .subst hj;rw[D]at g;ext g;rw[W4 J]at w;ext w;show#[u,r,.inl #[C,by simp]]
   .rw[Wm (ej hj)]at w
    let(u',r',q):=hl j y v' g w e3;show#[u',r',?_];rcases q with⟨k,e⟩|⟨k,c,e,z⟩
    .show .inl #[k,?_];let:y≠x:=λe=>hj (sR hN g (e▸D));simp[this,e]
    .show .inr #[k,c,e,z.sameBut f (cne y c e)]
  .let(T,z):=I.cell y c e;show#[T,z.sameBut f (cne y c e)]
  .let(e,n,ne,nf,d):=I.pin p hp;show#[(f.2 p.1 ne).trans e,n,ne,nf,d]
 .let K:X.fn x=P:=by
   rcases hf with z|z
   .show z
   .rw[z]at C;ext C
  let(c,l):=I.ok.has x (.inl C);let(T,z):=I.cell x c l;show wpAny_storeName_cell I.ok.kind C l z (λh' O f=>?_);let(oc,N,amc):=id z;show h {s with heap:=h'} #[I.ok,I.os,I.bare,#[λb o e n L t=>?_,λb o e n L t=>?_,I.base.free,λb o e t=>?_,I.base.abD,I.base.abc,I.base.abC],#[m,hn.sameBut f (ej (cne x c l)),λj y v' g w e3=>?_],λy U e=>?_,I.free,I.Y4,λp hp=>?_,tracked #[oc,N,I.Y4 x c l] f,by simpa using I.len] #[c,f,.inr l]
  .show(f.2 b (VW (VS (cv e) (I.ok.cab x c K l)))).trans (I.base.keep b o e n L t)
  .let(sl,g):=I.base.slot b o e n L t;show#[sl,(f.2 b (VW (VS (cv e) (I.ok.cab x c K l)))).trans g]
  .let(o',g):=I.base.there b o e t;show#[o',(f.2 b (VW (VS (cv e) (I.ok.cab x c K l)))).trans g]
  .by_cases hj:j=i
   .subst hj;rw[D]at g;ext g;rw[W4 J]at w;ext w;show#[u,r,.inr #[.inl C,c,l,O]]
   .rw[Wm (ej hj)]at w
    let(u',r',q):=hl j y v' g w e3;show#[u',r',?_];rcases q with q|⟨k,U,e,z'⟩
    .show .inl q
    .show .inr #[k,U,e,z'.sameBut f ?_];rintro rfl;show hj (sR hN g (I.ok.inj _ _ _ e l▸D))
  .by_cases hcc:U=c
   .subst hcc;show#[_,O]
   .let(w2,z2):=I.cell y U e;show#[w2,z2.sameBut f hcc]
  .let(e,n,ne,nf,d):=I.pin p hp;show#[(f.2 p.1 ?_).trans e,n,ne,nf,d];intro q;rw[q,N]at e;let q':oc=p.2:=VR e;show d T (by rw[<-q'];show amc)
theorem oU{i:Nat}{v:V}{u:B}{Q:Unit->Vp->Prop}(I:Inv X Z Y H s)(e:X.N.Nodup)(d:X.N[i]?=R x)(c:SJ X.env.scope x)(r:RelV v u)
  (h:∀b,Inv X Z (Y.set i (R v)) H b->Q ⟨⟩ b) (hf:X.fn x=P\/X.env.scope.names.lookup x=R .local:=by first|show .inl W|show .inr W|assumption):wpAny a A (storeName X.env x u) Q E s:=
 vI I e d c r (λb f _=>h b f) hf
def Inv.ad8{a:Vp}{ch:G Vm}(I:Inv X Z Y H s)(h:a.os=s.os)(u:Un (yy X.stack) ch H H' s.heap a.heap)(WT:HOk X.prog X.w H' a.heap)(i:AllBare a.gens)
  (f:∀b∈ch,(b∈X.ex\/X.s₀.heap.objs.size<=b)/\b≠X.env.locals/\(∀x c,X.env.cells.lookup x=R c->c≠b)/\∀p∈X.pn++Z,p.1≠b):Inv X Z Y H' a:=by
 let(h',l,m,j,g):=a;let e:g=s.os:=h;subst e;show I.call (g':=l) (t':=j) (d':=m) u WT i f
end
abbrev XK:=B->br I->Hp->Prop
abbrev St:=G (br V)
abbrev VK:=V->Hp->Prop
abbrev TE:=St->Hp->VK->Prop
abbrev TT:=St->Hp->(Bool->Hp->Prop)->Prop
abbrev TA:=St->Hp->(G V->Hp->Prop)->Prop
structure Ends where
 nx:St->Hp->Prop
 rt:VK
 bk:St->Hp->Prop:=λ_ _=>False
 ct:St->Hp->Prop:=λ_ _=>False
abbrev TS:=Ends->St->Hp->Prop
def EP(X:Cx)(a:G (I×Obj))(b:St)(Q:VK)(u:B)(e:Vp):Prop:=∃v f,Inv X a b f e/\RelV v u/\Q v f
def TP(X:Cx)(a:G (I×Obj))(e:St)(Q:Bool->Hp->Prop)(b:Bool)(f:Vp):Prop:=∃g,Inv X a e g f/\Q b g
def AP(X:Cx)(a:G (I×Obj))(b:St)(Q:G V->Hp->Prop)(us:G B)(e:Vp):Prop:=∃f g,Inv X a b g e/\Vals f us/\Q f g
def SP(X:Cx)(a:G (I×Obj))(D:Ends)(f:Flow)(b:Vp):Prop:=
 match f with
 |.next=>∃e g,Inv X a e g b/\D.nx e g
 |.brk=>∃e g,Inv X a e g b/\D.bk e g
 |.cont=>∃e g,Inv X a e g b/\D.ct e g
 |.ret u=>∃v e g,Inv X a e g b/\RelV v u/\D.rt v g
def PE(X:Cx)(e:WB)(t:TE):Prop:=
 ∀(a:G (I×Obj)) (s:Vp) (b:St) (H:Hp) (Q:VK),Inv X a b H s->t b H Q->wpAny (model X.prog X.w) X.A (eval e X.env) (EP X a b Q) X.xe s
def PT(X:Cx)(e:WB)(t:TT):Prop:=
 ∀(a:G (I×Obj)) (s:Vp) (b:St) (H:Hp) (Q:Bool->Hp->Prop),Inv X a b H s->t b H Q->wpAny (model X.prog X.w) X.A (isTrue e X.env (eval e X.env)) (TP X a b Q) X.xe s
def PW(X:Cx)(e:WB)(t:TT):Prop:=
 ∀(b:Sem B) (a:G (I×Obj)) (s:Vp) (f:St) (H:Hp) (Q:Bool->Hp->Prop),Inv X a f H s->t f H Q->wpAny (model X.prog X.w) X.A (isTrue e X.env b) (TP X a f Q) X.xe s
theorem PW.pt(h:PW X e t):PT X e t:=h _
def PA(X:Cx)(c:G WB)(t:TA):Prop:=
 ∀(e:Pos) (a:G (I×Obj)) (s:Vp) (b:St) (H:Hp) (Q:G V->Hp->Prop),Inv X a b H s->t b H Q->wpAny (model X.prog X.w) X.A (spliced (backTo e (VT c X.env))) (AP X a b Q) X.xe s
def PS(X:Cx)(e:XM)(t:TS):Prop:=
 ∀(a:G (I×Obj)) (s:Vp) (b:St) (H:Hp) (D:Ends),Inv X a b H s->t D b H->wpAny (model X.prog X.w) X.A (exec e X.env) (SP X a D) X.xe s
def PSs(X:Cx)(e:G XM)(t:TS):Prop:=
 ∀(a:G (I×Obj)) (s:Vp) (b:St) (H:Hp) (D:Ends),Inv X a b H s->t D b H->wpAny (model X.prog X.w) X.A (execs e X.env) (SP X a D) X.xe s
theorem cR{α:Type}{t:Sem α}{Q b:α->Vp->Prop}{M:adE}{A:V7}{E:B->Vp->Prop}{s:Vp}(h:wpAny M A t Q E s)(e:∀a s,Q a s->b a s):wpAny M A t b E s:=wpAny_mono h e λ_ _ x=>x
section
variable{X:Cx}
def qG(i:Nat):TE:=λa H Q=>∃v,a[i]?=R (R v)/\Q v H
def tC(v:V):TE:=λ_ H Q=>Q v H
def Rr(t:X.N[i]?=R x)(p:TJ X.env.scope x)(hd:(x==("__debug__":Str))=Vq:=by decide)(j:(x==("__classdict__":Str))=Vq:=by decide):PE X (.Name x pos) (qG i):=by
 intro f s o H Q I h;let(v,e,h):=h;let(m,w,q):=I.loc;let(u,r,l):=q i x v t e p;let b:EP X f o Q u s:=#[v,H,I,r,h];rcases l with⟨a,hm⟩|⟨a,c,n,g⟩
 .show ahQ (agS I.ok.kind a w hm b) hd
 .rcases a with a|a
  .show ahQ (ahr I.ok.kind a n g b) hd
  .show ahQ (wpAny_loadName_free I.ok.kind a n g b j) hd
theorem aN{i j pos}:PE X (.Constant (.int i) j pos) (tC (.int i)):=λ_ _ _ H _ I h=>ahR #[.int i,H,I.tok _,#[_,W],h]
theorem Hu{b j pos}:PE X (.Constant (.bool b) j pos) (tC (.bl b)):=λ_ _ _ H _ I h=>Constant_bool #[.bl b,H,I,W,h]
theorem eO{j pos}:PE X (.Constant .none j pos) (tC .Xo):=λ_ _ _ H _ I h=>Constant_none #[.Xo,H,I,W,h]
theorem gO{x j pos}:PE X (.Constant (.str x) j pos) (tC (.str x)):=λ_ _ _ H _ I h=>Calls.Constant_str #[.str x,H,I.tok _,#[_,W],h]
def Gl(X:Cx)(x:Str):Prop:=X.env.kindOf x=R .globalImplicit
theorem iH(I:Inv X pins σ H s)(a:Gl X x)(hm:X.mg x=R u)(h:Q u s)
  (hd:(x==("__debug__":Str))=Vq:=by decide):wpAny (model X.prog X.w) X.A (eval (.Name x pos) X.env) Q E s:=
 Calls.Name_function_global I.ok.kind a (Calls.loadGlobal_global (by rw[I.ok.glob];show I.mod.glob.keeps I.bk) hm h) hd
def mn(I:Inv X pins σ H s)(b:Gl X x)(hm:X.mg x=M)(a:WC x=R u)(h:Q u s)
  (c:x≠ "__name__":=by decide) (hd:(x==("__debug__":Str))=Vq:=by decide):wpAny (model X.prog X.w) X.A (eval (.Name x pos) X.env) Q E s:=by
 let(g,f,e):=I.mod.blt;show Calls.Name_function_global I.ok.kind b (Calls.loadGlobal_builtin (by rw[I.ok.glob];show I.mod.glob.keeps I.bk) hm (by rw[I.ok.blt];show f.keeps I.bk) ((e x c).trans a) h) hd
theorem eT{x:Str}{v:V}{u:B}{a:Pos}(b:Gl X x)(hm:X.mg x=R u)(r:RelV v u)(hd:(x==("__debug__":Str))=Vq:=by decide):PE X (.Name x a) (tC v):=
 λ_ _ _ H _ I h=>iH I b hm #[v,H,I,r,h] hd
theorem yk(b:Gl X x)(hm:X.mg x=M)(a:WC x=R u)(r:RelV v u)(c:x≠ "__name__":=by decide)(hd:(x==("__debug__":Str))=Vq:=by decide):PE X (.Name x pos) (tC v):=
 λ_ _ _ H _ I h=>mn I b hm a #[v,H,I,r,h] c hd
variable{a b:WB}{Y Z:TE}{O:Pos}
def PC(X:Cx)(i:CmpOp)(a b:WB)(t:TE):Prop:=
 ∀(e:G (I×Obj)) (s:Vp) (h:St) (H:Hp) (Q:VK),Inv X e h H s->t h H Q->
  wpAny (model X.prog X.w) X.A (eval a X.env) (λv g=>wpAny (model X.prog X.w) X.A (eval b X.env) (λu f=>wpAny (model X.prog X.w) X.A (XA i v u) (EP X e h Q) X.xe f) X.xe g) X.xe s
def tB(t:TE):TT:=λe H Q=>t e H λx f=>∃c,x=.bl c/\Q c f
def Kb(h:PC X op a b t)(f:behindInMarks op b=Vq:=by first|show C _ () ()|rfl):PT X (.Compare a [op] [b] O) (tB t):=by intro e s g H Q I l;show agH (cR (h e s g H _ I l) λv w f=>cR f λu r m=>cR m λc p a=>?_) f;let(x,o,n,i,j):=a;let(d,rfl,q):=j;ext i;show YH #[o,n,q]
def Cn{e:WB}{t:TE}(h:PE X e t)(m:∀whole,isTrue e X.env whole=(do let v<-whole;standAt e.pos;holding [v] (truthy v)):=by intro _;rfl):PT X e (tB t):=by intro f s g H Q I l;show isTrue_plain (cR (h f s g H _ I l) λv p #[x,o,n,i,j]=>?_) (m _);let(d,rfl,q):=j;ext i;show YH #[o,n,q]
variable{T S:TT}{U:bg WB}
def QD(t u:TT):TT:=λe H Q=>t e H λc f=>if c=P then u e f Q else Q Vq f
def TF(t u:TT):TT:=λe H Q=>t e H λc f=>if c=P then Q P f else u e f Q
def Px(t:TT):TT:=λe H Q=>t e H λc f=>Q (!c) f
def Ln(d:PT X a T):PW X (.BoolOp .And [a] O) T:=by
 intro i f s g H Q I h;show isTrue_and (cR (d f s g H Q I h) λc j e=>?_);cases c with
 |true=>show isTrue_and_nil e
 |false=>show e
def JE(d:PT X a T):PW X (.BoolOp .Or [a] O) T:=by
 intro i f s g H Q I h;show isTrue_or (cR (d f s g H Q I h) λc j e=>?_);cases c with
 |false=>show isTrue_or_nil e
 |true=>show e
def QE(d:PT X a T)(n:PW X (.BoolOp .And (b::U) O) S):PW X (.BoolOp .And (a::b::U) O) (QD T S):=by
 intro l e s f H Q I h;show isTrue_and (cR (d e s f H _ I h) λc m a=>?_);let(j,i,g):=a;cases c with
 |true=>show n l e m f j Q i g
 |false=>show#[j,i,g]
def OM(d:PT X a T)(n:PW X (.BoolOp .Or (b::U) O) S):PW X (.BoolOp .Or (a::b::U) O) (TF T S):=by
 intro l e s f H Q I h;show isTrue_or (cR (d e s f H _ I h) λc m a=>?_);let(j,i,g):=a;cases c with
 |true=>show#[j,i,g]
 |false=>show n l e m f j Q i g
def JQ(d:PT X a T):PT X (.UnaryOp .Not a O) (Px T):=by intro e s f H Q I h;show isTrue_not (d e s f H (λc g=>Q (!c) g) I h)
def Da(Y Z:TE):TE:=λe H Q=>Y e H λx f=>∃c,x=.bl c/\if c=P then Z e f Q else Q (.bl Vq) f
theorem tJ{op}(h:PE X a t):PE X (.BoolOp op [a] O) t:=λe s f H Q I g=>BoolOp_one (h e s f H Q I g)
def nU(d:PE X a Y)(n:PE X (.BoolOp .And (b::U) O) Z):PE X (.BoolOp .And (a::b::U) O) (Da Y Z):=by
 intro e s g H Q I h;show BoolOp_and (cR (d e s g H _ I h) λv l a=>?_);let(x,j,i,m,f):=a;let(c,rfl,f):=f;ext m;show YH ?_;cases c with
 |true=>show n e l g j Q i f
 |false=>show#[.bl Vq,j,i,W,f]
def Uj(t:TT)(Y Z:TE):TE:=λe H Q=>t e H λc f=>if c=P then Y e f Q else Z e f Q
def IB(m:PT X c T)(k:PE X a Y)(n:PE X b Z):PE X (.IfExp c a b O) (Uj T Y Z):=by
 intro e s f H Q I h;show wpAny_IfExp (cR (m e s f H _ I h) λd g a=>?_);let(l,j,i):=a;cases d with
 |true=>show k e g f l Q j i
 |false=>show n e g f l Q j i
end
def SqL(K:Ld)(H:Hp)(a:I)(xs:G V):Prop:=
 Rd H a (.lst xs)\/
  ∃(o:Obj) (b:Array B) (n:Nat),K.lookup a=R o/\o.cls=.type "list"/\o.dict=M/\o.data=.seq b n/\b.size<=VF/\Vals xs b.toList
def SqT(K:Ld)(H:Hp)(a:I)(xs:G V):Prop:=
 Rd H a (.tup xs)\/
  ∃(o:Obj) (b:Array B) (n:Nat),K.lookup a=R o/\(o.cls=.type "tuple"/\o.dict=M)/\o.data=.seq b n/\b.size<=VF/\Vals xs b.toList
def T8:B->br V
 |.none=>R .Xo
 |.bool b=>R (.bl b)
 |.int i _=>R (.int i)
 |.str x _=>R (.str x)
 |.bytes b _=>R (.byt b)
 |.float b _=>R (.flt b)
 |.ref a=>R (.ref a)
 |.type n=>R (.ty n)
 |_=>M
def RelV.abs(r:RelV x u):T8 u=R x:=by
 cases x with
 |Xo=>ext r;rfl
 |bl _=>ext r;rfl
 |int _=>let(t,rfl):=r;rfl
 |str _=>let(t,rfl):=r;rfl
 |byt _=>let(t,rfl):=r;rfl
 |flt _=>let(t,rfl):=r;rfl
 |ref _=>ext r;rfl
 |ty _=>ext r;rfl
theorem RelV.inj(r:RelV x u)(q:RelV y u):x=y:=VR (r.abs.symm.trans q.abs)
theorem Vals.inj:∀{xs a:G V} {us:G B},Vals xs us->Vals a us->xs=a
 |_,_,_,.nil,.nil=>rfl
 |_,_,_,.cons r t,.cons e b=>by rw[r.inj e,Vals.inj t b]
section
variable{X:Cx}{Z:bg (Vm×Obj)}{Y:St}{H:Hp}{s:Vp}{a:Vm}{T U:bg V}
theorem SqL.of{K:Ld}(h:H a=R (.lst T)):SqL K H a T:=.inl (.inl h)
theorem SqT.of{K:Ld}(h:H a=R (.tup T)):SqT K H a T:=.inl (.inl h)
def Inv.list(I:Inv X Z Y H s)(h:SqL X.K H a T):∃b:G B,Vals T b/\PlainL s.heap a b.toArray/\T.length<=VF:=by
 rcases h with h|⟨o,b,n,g,i,hd,f,j,r⟩
 .let(z,b,n,r,e):=h.ok I.WT;show#[b,r,#[_,n,e,W,W,W],z]
 .show#[b.toList,r,#[o,n,I.kIn a o g,i,hd,by simpa using f],?_];let e:=r.length;simp only[Wz]at e;ext
def Inv.tuple(I:Inv X Z Y H s)(h:SqT X.K H a T):∃b:G B,Vals T b/\IsTup s.heap a b.toArray/\T.length<=VF:=by
 rcases h with h|⟨o,b,n,g,i,f,j,r⟩
 .let(z,b,r,p):=h.ok I.WT;show#[b,r,p.tup,z]
 .show#[b.toList,r,#[o,I.kIn a o g,i.1,n,by simpa using f],?_];let e:=r.length;simp only[Wz]at e;ext
def Inv.aic(I:Inv X Z Y H s)(h:SqT X.K H a T):∃b:G B,Vals T b/\acg s.heap a b.toArray/\T.length<=VF:=by
 rcases h with h|⟨o,b,n,i,f,g,j,r⟩
 .let(z,b,r,p):=h.ok I.WT;show#[b,r,p,z]
 .show#[b.toList,r,#[o,I.kIn a o i,#[f.1,n,by simpa using g],f.2],?_];let e:=r.length;simp only[Wz]at e;ext
def Inv.af7(I:Inv X Z Y H s)(h:SqL X.K H a T)(c:SqL X.K H a U):T=U:=by
 let(j,r,(o,n,e,_,_,d),_):=I.list h;let(b,i,(l,m,f,_,_,g),_):=I.list c;rw[e]at f;ext f;rw[d]at g;injection g with d1 _;let:j=b:=by simpa using eH ahS d1
 subst this;show r.inj i
def Inv.afx(I:Inv X Z Y H s)(h:SqT X.K H a T)(c:SqT X.K H a U):T=U:=by
 let(j,r,(o,e,_,n,d),_):=I.tuple h;let(b,i,(l,f,_,m,g),_):=I.tuple c;rw[e]at f;ext f;rw[d]at g;injection g with d1 _;let:j=b:=by simpa using eH ahS d1
 subst this;show r.inj i
end
abbrev Cx.aan(X:Cx)(E:B->Vp->Prop):Cx:={X with xe:=E}
abbrev Cx.nox(X:Cx):Cx:=X.aan λ_ _=>False
theorem Cx.Ok.aan{X:Cx}(ok:X.Ok)(E:B->Vp->Prop):(X.aan E).Ok:=
 #[ok.mod,ok.kind,ok.glob,ok.blt,ok.above,ok.inj,ok.has,ok.cab,ok.hd,ok.frames,ok.stk,ok.exf,ok.bs,ok.bsz,ok.adX,ok.aef,ok.abh,ok.frf]
theorem Cx.Ok.Zl{X:Cx}(ok:(X.aan E).Ok):X.Ok:=
 #[ok.mod,ok.kind,ok.glob,ok.blt,ok.above,ok.inj,ok.has,ok.cab,ok.hd,ok.frames,ok.stk,ok.exf,ok.bs,ok.bsz,ok.adX,ok.aef,ok.abh,ok.frf]
section
variable{X:Cx}{Z:bg (Vm×Obj)}{Y:St}{H:Hp}{s:Vp}{E:Vh->Vp->Prop}
theorem Inv.aan(I:Inv X Z Y H s)(E:B->Vp->Prop):Inv (X.aan E) Z Y H s:=#[I.ok.aan E,I.os,I.bare,I.base,I.loc,I.cell,I.free,I.Y4,I.pin,I.WT,I.len]
theorem Inv.Zl(I:Inv (X.aan E) Z Y H s):Inv X Z Y H s:=#[I.ok.Zl,I.os,I.bare,I.base,I.loc,I.cell,I.free,I.Y4,I.pin,I.WT,I.len]
def SP.Zl(h:SP (X.aan E) Z D f s'):SP X Z D f s':=by
 cases f with
 |next=>let(a,b,I,q):=h;show#[a,b,I.Zl,q]
 |brk=>let(a,b,I,q):=h;show#[a,b,I.Zl,q]
 |cont=>let(a,b,I,q):=h;show#[a,b,I.Zl,q]
 |ret u=>let(v,a,b,I,r,q):=h;show#[v,a,b,I.Zl,r,q]
theorem PSs.nox{a:G XM}(h:PSs X.nox a t):PSs X a t:=λZ s Y H D I b=>
 wpAny_mono (h Z s Y H D (I.aan _) b) (λ_ _ q=>q.Zl) λ_ _ z=>False.elim z
end
section
variable{X:Cx}{U:XM}{Y:bg XM}{t u:TS}{e:WB}{Z:TE}{T:Pos}
def Es:TS:=λD a H=>D.nx a H
def Nw(t u:TS):TS:=λD a H=>t {D with nx:=u D} a H
theorem eV:PSs X [] Es:=λ_ _ a H _ I h=>Za #[a,H,I,h]
def ar(l:PS X U t)(j:PSs X Y u):PSs X (U::Y) (Nw t u):=by
 intro a s g H D I h;show aje (cR (l a s g H {D with nx:=u D} I h) λf i q=>?_);cases f with
 |next=>let(b,n,m,q):=q;show j a i b n D m q
 |ret v=>show q
 |brk=>show q
 |cont=>show q
def aL(g:PS X U t):PSs X [U] t:=by
 intro a s b H D I h;show aje (cR (g a s b H D I h) λf i q=>?_);cases f with
 |next=>show Za q
 |ret v=>show q
 |brk=>show q
 |cont=>show q
def Inv.quiet{a:G (Vm×Obj)}{b:St}{H:Hp}{s:Vp}(I:Inv X a b H s):interactive X.env=Vq:=by simp[interactive,I.ok.kind]
def Dl(Z:TE):TS:=λD a H=>Z a H λ_ b=>D.nx a b
def eX(i:PE X e Z)(g:Xm e M T.line X.env=pure Vq:=by rfl):PS X (.Expr e T) (Dl Z):=by intro a s b H D I h;show wpAny_Expr_any (cR (i a s b H _ I h) λv m #[x,l,j,n,f]=>#[b,l,j,f]) I.quiet g
def KO(Z:TE):TS:=λD a H=>Z a H D.rt
def cK(i:PE X e Z):PS X (.Return (R e) T) (KO Z):=by intro a s b H D I h;show wpAny_Return_some (cR (i a s b H _ I h) λv m #[x,l,j,f,g]=>#[x,b,l,j,f,g])
def Oi:TS:=λD _ H=>D.rt .Xo H
theorem M5:PS X (.Return M T) Oi:=λ_ _ a H _ I h=>wpAny_Return_none #[.Xo,a,H,I,W,h]
def Lm(c:TT)(t u:TS):TS:=λD a H=>c a H λb f=>if b=P then t D a f else u D a f
def jC(n:PT X c C)(k:PSs X a t)(o:PSs X b u):PS X (.If c a b T) (Lm C t u):=by
 intro f s g H D I h;show wpAny_If (cR (n f s g H _ I h) λd i a=>?_);let(m,l,j):=a;cases d with
 |true=>show k f i g m D l j
 |false=>show o f i g m D l j
def PL:TS:=λ_ _ _=>False
theorem dS:PS X U PL:=λ_ _ _ _ _ _ h=>h.elim
end
abbrev TG:=V->St->Hp->(St->Hp->Prop)->Prop
abbrev Qn:=G V->St->Hp->(St->Hp->Prop)->Prop
def PG(X:Cx)(a:WB)(t:TG):Prop:=
 ∀(b:G (I×Obj)) (s:Vp) (e:St) (H:Hp) (v:V) (u:B) (Q:St->Hp->Prop),Inv X b e H s->RelV v u->t v e H Q->
  wpAny (model X.prog X.w) X.A (assign a X.env u) (λ_ f=>∃g h,Inv X b g h f/\Q g h) X.xe s
def T3(X:Cx)(f:G WB)(t:Qn):Prop:=
 ∀(a:G (I×Obj)) (s:Vp) (b:St) (H:Hp) (i:G V) (e:G B) (Q:St->Hp->Prop),Inv X a b H s->Vals i e->t i b H Q->
  wpAny (model X.prog X.w) X.A (assignInOrder ((assignEach f X.env).map (·.2)) e) (λ_ g=>∃h j,Inv X a h j g/\Q h j) X.xe s
abbrev T9:=V->V->Hp->VK->Prop
def Uf(X:Cx)(e:Operator)(t:T9):Prop:=
 ∀(a:G (I×Obj)) (s:Vp) (b:St) (H:Hp) (x y:V) (v u:B) (Q:VK),Inv X a b H s->RelV x v->RelV y u->t x y H Q->
  wpAny (model X.prog X.w) X.A (inplaceOp e v u) (EP X a b Q) X.xe s
section
variable{X:Cx}{Z:Pos}
def vp(i:Nat):TG:=λv a H Q=>Q (a.set i (R v)) H
def bW(c:X.N.Nodup)(b:X.N[i]?=R x)(a:SJ X.env.scope x)(hf:X.fn x=P\/X.env.scope.names.lookup x=R .local:=by first|show .inl W|show .inr W|assumption):PG X (.Name x Z) (vp i):=by intro pins s σ H v u Q I r h;show aiM (oU I c b a r (λf e=>#[_,H,e,h]) hf)
def Qo:Qn:=λb a H Q=>b=[]/\Q a H
def Hi(t:TG)(u:Qn):Qn:=λf b H Q=>∃v r,f=v::r/\t v b H λa e=>u r a e Q
def sA:T3 X [] Qo:=by intro a s b H g f Q I r h;let(e,h):=h;subst e;ext r;show assignInOrder_nil #[b,H,I,h]
def jb(n:PG X e t)(m:T3 X C u)
  (l:(assignEach (e::C) X.env).map (·.2)=assign e X.env::(assignEach C X.env).map (·.2):=by rfl):T3 X (e::C) (Hi t u):=by
 intro a s f H A y Q I r h;let(v,w,o,h):=h;subst o;cases r with
 |cons r i=>rw[l];show assignInOrder_cons (cR (n a s f H _ _ _ I r h) λ_ g a=>?_);let(b,q,p,j):=a;show m a g b q _ _ Q p i j
def P9(K:Ld)(n:Nat)(t:Qn):TG:=λv b H Q=>∃a xs,v=.ref a/\SqT K H a xs/\xs.length=n/\t xs b H Q
def yi(q:X.calm=P)(h:T3 X C t)
  (c:(assignEach C X.env).length=n:=by rfl) (dI:(assignEach C X.env).findIdx? (·.1)=M:=by rfl):PG X (.Tuple C k Z) (P9 X.K n t):=by
 intro f s i H v u Q I r g;let(a,xs,w,m,p,g):=g;subst w;ext r;let(B,E,l,z):=I.tuple m;show assign_Tuple_tuple (I.ok.hd q) l (by simp[c,<-p,E.length]) dI λA j=>?_;let y:=I.kept (t':=s.toks) λb o e=>j b o (VW (cv e)) e;show h f _ i H xs _ Q y (by simpa using E) g
def F0(b:TE)(g:TG):TS:=λD a H=>b a H λx e=>g x a e D.nx
def J5(o:PE X e J)(n:PG X C g)(m:swapsWithSole [C] e Z.line X.env=pure Vq:=by rfl)(l:swappedStores [C] e X.env=pure M:=by rfl)
  (p:(assignEach [C] X.env).map (·.2)=[assign C X.env]:=by rfl):PS X (.Assign [C] e Z) (F0 J g):=by
 intro a s b H D I h;show wpAny_Assign_stores (cR (o a s b H _ I h) λv f a=>?_) m l;let(x,t,r,i,j):=a;rw[p];show cR (n a f b t x v _ r i j) λ_ u q=>q
def bQ{i:Nat}{x:Str}{e:WB}{a:TE}{pos':Pos}(j:X.N.Nodup)(g:X.N[i]?=R x)(c:SJ X.env.scope x)(he:PE X e a)(d:Xm e (R (.Name x pos')) Z.line X.env=pure Vq:=by rfl)(hf:X.fn x=P\/X.env.scope.names.lookup x=R .local:=by first|show .inl W|show .inr W|assumption):
  PS X (.Assign [.Name x pos'] e Z) (F0 a (vp i)):=by
 intro pins s σ H D I h;show wpAny_Assign_Name (cR (he pins s σ H _ I h) λv s1 a=>?_) d;let(y,H1,m,b,f):=a;show oU m j g c b (λs2 l=>#[_,H1,l,f]) hf
def Sj(i:Nat)(e:TE)(b:T9):TS:=λD a H=>∃x,a[i]?=R (R x)/\e a H λy g=>b x y g λz f=>D.nx (a.set i (R z)) f
def QH(F:X.N.Nodup)(n:X.N[i]?=R x)(d:SJ X.env.scope x)(he:PE X e C)(E:Uf X op o)(hf:X.fn x=P\/X.env.scope.names.lookup x=R .local:=by first|show .inl W|show .inr W|assumption):
  PS X (.AugAssign (.Name x pos') op e Z) (Sj i C o):=by
 intro pins s σ H D I h;let(v,N,h):=h;let(m,J,K):=I.loc;let g:TJ X.env.scope x:=by rcases d with k|k;show .inl k;show .inr (.inl k)
 let(u,r,l):=K i x v n N g;show wpAny_AugAssign_Name ?_;let go:wpAny (model X.prog X.w) X.A (eval e X.env) (λw f=>wpAny (model X.prog X.w) X.A (inplaceOp op u w) (λr b=>wpAny (model X.prog X.w) X.A (storeName X.env x r) (λ_=>SP X pins D .next) X.xe b) X.xe f) X.xe s:=by show cR (he pins s σ H _ I h) λw s1 #[y,H1,S,q,A]=>?_;show cR (E pins s1 σ H1 v y u w _ S r q A) λz s2 a=>?_;let(U,T,Q,p,t):=a;show oU Q F n d p (λs3 O=>#[_,T,O,t]) hf
 rcases l with⟨a,hm⟩|⟨a,c,L,j⟩
 .show agS I.ok.kind a J hm go
 .rcases a with a|a
  .show ahr I.ok.kind a L j go
  .rcases d with k|k
   .let:X.env.scope.names.lookup x=R .free:=a;rw[k]at this;ext this
   .let:X.env.scope.names.lookup x=R .free:=a;rw[k]at this;ext this
def UR(f:Int->Int->Int):T9:=λx y H Q=>∃i j,x=.int i/\y=.int j/\Q (.int (f i j)) H
def RI:Uf X .Add (UR λi j=>i+j):=by intro a s l H x y v u Q I e b h;let(i,j,g,f,q):=h;subst g;subst f;let(t,rfl):=e;let(m,rfl):=b;show iadd_int #[.int _,H,I.tok _,#[_,W],q]
end
section
variable{X:Cx}{Z:Pos}
def Bm(c:TT)(f:TS):TS:=λD a H=>∃W:Nat->St->Hp->Prop,(∃m,W m a H)/\∀m a H,W m a H->
 c a H λb e=>if b=P then∃N:St->Hp->Prop,(∀g i,N g i->∃h,h<m/\W h g i)/\f {D with nx:=N,ct:=N,bk:=D.nx} a e else D.nx a e
def oz(r:aac (model X.prog X.w) X.A X.env X.xe)(L:PT X c U)(M:PSs X body tb):PS X (.While c body [] Z) (Bm U tb):=by
 intro e s B H D I h;let(W,(K,E),turn):=h;show wpAny_While (codeAny_whileLoop (λn J=>∃w A,Inv X e w A J/\W n w A) ?_ K #[B,H,I,E]);rintro n G ⟨g,z,O,C⟩;show Yv r (cR (L e G g z _ O (turn n g z C)) λb F a=>?_);let(y,u,l):=a;cases b with
 |true=>
  let(N,t,l):=l;rw[ag rfl];show Yv r (cR (M e F g y _ u l) λf P j=>?_);cases f with
  |next=>let(a,i,q,o):=j;let(p,hm,m):=t a i o;show#[p,hm,a,i,q,m]
  |cont=>let(a,i,q,o):=j;let(p,hm,m):=t a i o;show#[p,hm,a,i,q,m]
  |brk=>show j
  |ret v=>show j
 |false=>rw[av Vu];show Za #[g,y,u,l]
end
structure It where
 go:Nat->Hp->Prop
 yld:Nat->Hp->V->Hp->Prop
 stop:Nat->Hp->Prop
def pH(X:Cx)(a:G (I×Obj))(H:Hp)(b:I):Prop:=
 H b=M/\b≠X.env.locals/\b∉X.fs/\(b∈X.ex\/X.s₀.heap.objs.size<=b)/\(∀x c,X.env.cells.lookup x=R c->c≠b)/\∀p∈X.pn++a,p.1≠b
def Inv.acD(I:Inv X pins σ H s)(a:s.heap.objs.size<=b)(d:H' b=M):pH X pins H' b:=by
 show#[d,WL (VS I.lt a),I.am2 a,.inr (Wk I.sz a),λx c e z=>?_,λp f z=>?_]
 .let(v,q):=I.cell x c e;show a6 (VS q.lt (by rw[z];show a)) (WW _)
 .show a6 (VS (cv (I.pin p f).1) (by rw[z];show a)) (WW _)
structure Turn(P:VV)(w:Wh)(K:Ld)(tg:WB)(J:It)(fp:G I)(it:I)(tn:Nat->Heap->Prop):Prop where
 mem:it∈fp
 obj:∀i h,tn i h->∀b∈fp,∃o,h.get? b=R o/\∀v,o.data≠.cell v
 keep:∀i h h',tn i h->(∀b∈fp,∀o,h.get? b=R o->h'.get? b=R o)->tn i h'
 item:∀(X:Cx),X.prog=P->X.w=w->X.K=K->X.calm=Vi->∀(i:Nat) (pins:G (I×Obj)) (s:Vp) (σ:St) (H:Hp) (E:B->Vp->Prop),Inv X pins σ H s->(∀b∈fp,pH X pins H b)->tn i s.heap->J.go i H->
  wpAny (model P w) X.A (pyNext (.ref it)) (λr s1=>∃u,r=R u/\
   wpAny (model P w) X.A (letOwnedTupleGo tg (.ref it) u) (λ_ s2=>∃x H',Inv X pins σ H' s2/\RelV x u/\J.yld i H x H'/\tn (i+1) s2.heap/\∀b∈fp,H' b=M) E s1) E s
 done:∀(X:Cx),X.prog=P->X.w=w->X.K=K->X.calm=Vi->∀(i:Nat) (pins:G (I×Obj)) (s:Vp) (σ:St) (H:Hp) (E:B->Vp->Prop),Inv X pins σ H s->(∀b∈fp,pH X pins H b)->tn i s.heap->J.stop i H->
  wpAny (model P w) X.A (pyNext (.ref it)) (λr s1=>r=M/\Inv X pins σ H s1) E s
 self:∀(A:V7) (i:Nat) (s:Vp) (Q:B->Vp->Prop) (E:B->Vp->Prop),tn i s.heap->Q (.ref it) s->wpAny (model P w) A (pyIter (.ref it)) Q E s
abbrev TI:=St->Hp->(It->Hp->Prop)->Prop
def UT(X:Cx)(a:G (I×Obj))(l:St)(m:WB)(R:It->Hp->Prop)(e:B)(h:Vp):Prop:=
 ∃(i:I) (j:G I) (g:Nat->Heap->Prop) (J:It) (f:Hp),e=.ref i/\Inv X a l f h/\Turn X.prog X.w X.K m J j i g/\g 0 h.heap/\(∀b∈j,pH X a f b)/\R J f
def PI(X:Cx)(g b:WB)(f:TI):Prop:=
 ∀(a:G (I×Obj)) (s:Vp) (e:St) (H:Hp) (R:It->Hp->Prop),Inv X a e H s->f e H R->
  wpAny (model X.prog X.w) X.A (eval b X.env) (λv h=>wpAny (model X.prog X.w) X.A (pyIter v) (UT X a e g R) X.xe h) X.xe s
def Jl{M:adE}{A:V7}{E:B->Vp->Prop}{s:Vp}{b:WB}{it:I}{u:B}{o:Obj}{n:String}{c:Array B}{Q:Unit->Vp->Prop}(e:s.heap.get? it=R o)(f:o.cls=.type n)(hd:o.data=.fields c)
  (d:["enumerate","zip","dict_itemiterator","dict_reverseitemiterator","odict_iterator","itertools.zip_longest","itertools.pairwise"].contains n=Vq) (a:Q ⟨⟩ s):wpAny M A (letOwnedTupleGo b (.ref it) u) Q E s:=by
 ext letOwnedTupleGo;ext b<;>first
  |show Vt a
  |(ext u<;>first
    |show Vt a
    |(show Vf (ahT e ?_)
      rw[f,hd];show wpAny M A (if(["enumerate","zip","dict_itemiterator","dict_reverseitemiterator","odict_iterator","itertools.zip_longest","itertools.pairwise"].contains n&&c[0]? ==R (rawInt _))=P then _ else _) Q E s;rw[av (by intro h;rw[d,ZP]at h;ext h)];show Vt a))
def T7(K:Ld)(a:I):It:=
 #[λi H=>∃xs x,SqL K H a xs/\xs[i]?=R x,λi H x b=>b=H/\∀xs,SqL K H a xs->xs[i]?=R x,λi H=>∃xs,SqL K H a xs/\xs.length<=i]
def Ud(K:Ld)(a:I):It:=
 #[λi H=>∃xs x,SqT K H a xs/\xs[i]?=R x,λi H x b=>b=H/\∀xs,SqT K H a xs->xs[i]?=R x,λi H=>∃xs,SqT K H a xs/\xs.length<=i]
def TR(lo:Int)(n:Nat):It:=#[λi _=>i<n,λi H x a=>a=H/\x=.int (lo+i),λi _=>n<=i]
theorem E1{K:Ld}(a it:Vm):Turn Pz0 w K tg (T7 K a) [it] it (λi h=>h.IsListIter it a i) where
 mem:=by simp
 obj:=λi h f b g=>by
  let e:b=it:=by simpa using g
  subst e;let(o,e,c,d):=f;show#[o,e,λv z=>by rw[d]at z;ext z]
 keep:=λi h M f k=>f.at λo e=>k it (by simp) o e
 item:=by intro X y r A L i l s N H E I n f t;subst y r A;let(xs,x,m,q):=t;let(Z,rv,p,R):=I.list m;let(u,T,Q):=rv.get q;let(J,G,U,F,C,B):=n it (by simp);show wpAny_pyNext_list_item f p.isList (by simpa using T) λM j O=>?_;let I1:=I.turned (t':=s.toks) (λb o g e=>(O.2 b g).trans e) J G F C B;let(o,e,c,d):=id j;show#[u,W,Jl e c d () #[x,H,I1,Q,#[W,λys S=>by rw[I.af7 S m];show q],j,λb g=>(n b g).1]]
 done:=by intro X y r A L i l s N H E I n f t;subst y r A;let(xs,m,q):=t;let(Z,rv,p,R):=I.list m;let(J,G,U,F,C,B):=n it (by simp);let hl:=rv.length;show wpAny_pyNext_list_end (I.ok.hd L) f p.isList (by simp;ext) λM Y=>#[W,I.turned (λb o g e=>Y b o g e) J G F C B]
 self:=λ_ _ _ _ _ f h=>wpAny_pyIter_listiter f h
theorem Bz{K:Ld}(a it:Vm):Turn Pz0 w K tg (Ud K a) [it] it (λi h=>h.IsTupleIter it a i) where
 mem:=by simp
 obj:=λi h f b g=>by
  let e:b=it:=by simpa using g
  subst e;let(o,e,c,d):=f;show#[o,e,λv z=>by rw[d]at z;ext z]
 keep:=λi h N f k=>f.at λo e=>k it (by simp) o e
 item:=by intro X y r A M i l s O H E I n f t;subst y r A;let(xs,x,m,q):=t;let(L,rv,p,S):=I.tuple m;let(u,U,R):=rv.get q;let(J,G,Y,F,C,B):=n it (by simp);show wpAny_pyNext_tuple_item f (show s.heap.IsTuple a L.toArray from p) (by simpa using U) λN j Q=>?_;let I1:=I.turned (t':=s.toks) (λb o g e=>(Q.2 b g).trans e) J G F C B;let(o,e,c,d):=id j;show#[u,W,Jl e c d () #[x,H,I1,R,#[W,λys T=>by rw[I.afx T m];show q],j,λb g=>(n b g).1]]
 done:=by intro X y r A M i l s O H E I n f t;subst y r A;let(xs,m,q):=t;let(L,rv,p,S):=I.tuple m;let(J,G,Y,F,C,B):=n it (by simp);let hl:=rv.length;show wpAny_pyNext_tuple_end (I.ok.hd M) f (show s.heap.IsTuple a L.toArray from p) (by simp;ext) λN Z=>#[W,I.turned (λb o g e=>Z b o g e) J G F C B]
 self:=λ_ _ _ _ _ f h=>wpAny_pyIter_tupleiter f h
theorem BZ{K:Ld}(it:Vm)(lo:Int)(n:Nat):Turn T w K U (TR lo n) [it] it (λi h=>IsRangeIter h it (lo+(i:Nat)*1) ((n:Int) - (i:Nat)) 1) where
 mem:=by simp
 obj:=λi h a b g=>by
  let e:b=it:=by simpa using g
  subst e;show#[_,a,λv z=>by let L:=z;ext L]
 keep:=λi h y a k=>k it (by simp) _ a
 item:=by intro X r m u q i f s J H E I l a p;subst r m u;let(G,F,Q,C,B,A):=l it (by simp);let W:=Walks.range (prog:=X.prog) (w:=X.w) (I.ok.hd q) it lo 1 n;show W.item i s _ _ p a λv y M O j N=>?_;let(t,rfl):=O;let S:Inv X f J H {s with heap:=y,toks:=M}:=I.turned (λb o g e=>N b o (by simpa using g) e) G F C B A;show#[_,rfl,Jl j rfl rfl () #[.int (lo+i),H,S,#[t,?_],#[rfl,rfl],j,λb g=>(l b g).1]];rw[Int.mul_one]
 done:=by intro X r m u q i f s J H E I l a p;subst r m u;let(G,F,Q,C,B,A):=l it (by simp);show wpAny_pyNext_range_end (I.ok.hd q) a (by let:n<=i:=p;ext) λy R=>#[rfl,I.turned (λb o g e=>R b o g e) G F C B A]
 self:=λ_ _ _ _ _ a h=>wpAny_pyIter_rangeiter a h
section
variable{X:Cx}{Z:WB}
def HC{a:G (Vm×Obj)}{f:St}{H:Hp}{s:Vp}{R:It->Hp->Prop}{E:B->Vp->Prop}{lo c:Int}{t u v:Tok}{g:Nat}(I:Inv X a f H s)(n: -(2^62)<=lo)(m:lo<2^62)(l: -(2^62)<=c)(j:c<2^62)
  (q:R (TR lo (c - lo).toNat) H):wpAny (model X.prog X.w) X.A (pyIter (.ref s.heap.objs.size)) (UT X a f Z R) E {s with heap:=s.heap.push {cls:=.type "range",data:=.fields #v[.int lo t,.int c u,.int 1 v]},toks:=g}:=by
 show wpAny_pyIter_range (IsRange.new ..) (small_one n m l j) ?_;let h:Inv X a f H {s with heap:=s.heap.push {cls:=.type "range",data:=.fields #v[.int lo t,.int c u,.int 1 v]},toks:=g}:=I.kept λb o e=>bP _ e;show#[(s.heap.push {cls:=.type "range",data:=.fields #v[.int lo t,.int c u,.int 1 v]}).objs.size,[(s.heap.push {cls:=.type "range",data:=.fields #v[.int lo t,.int c u,.int 1 v]}).objs.size],_,_,H,W,
  h.kept (t':=g) λb o e=>bP _ e,BZ _ lo (c - lo).toNat,?_,λb i=>?_,q]
 .let r:lo+((0:Nat):Int)*1=lo:=by simp
  let p:(((c - lo).toNat:Nat):Int) - ((0:Nat):Int)=Builtin.Range.rangeSize lo c 1:=by rw[anK];split<;>ext
  show IsRangeIter _ _ (lo+((0:Nat):Int)*1) ((((c - lo).toNat:Nat):Int) - ((0:Nat):Int)) 1;rw[r,p];show cx _ W
 .let e:b=(s.heap.push {cls:=.type "range",data:=.fields #v[.int lo t,.int c u,.int 1 v]}).objs.size:=by simpa using i
  subst e;show h.acD (Vy _) (h.WT.fresh (Vy _))
def OB(b:TA):TI:=λa H R=>b a H λf e=>∃j:Int,f=[.int j]/\ -(2^62)<=j/\j<2^62/\R (TR 0 j.toNat) e
def gn(o:Gl X "range")(hm:X.mg "range"=M)(c:PA X [a] C)(n:VT [a] X.env=[(Vq,eval a X.env)]:=by rfl):PI X Z (.Call (.Name "range" p) [a] [] pos) (OB C):=by
 intro b s g H R I h;show Call_ (mn I o hm boot_range (Xu (cR (c pos b s g H _ I h) λv w #[A,y,u,l,f]=>?_) n W));let(j,e,f,m,q):=f;subst e;cases l with
 |cons r i=>ext i;let(t,rfl):=r;show call_range_1 (HC u () () f m (by simpa using q))
def QI(e:TI)(g:TG)(f:TS):TS:=λD a H=>e a H λJ j=>∃W:Nat->Nat->St->Hp->Prop,(∃m,W 0 m a j)/\∀i m a H,W i m a H->
 (J.stop i H/\D.nx a H)\/(J.go i H/\∃N:St->Hp->Prop,(∀l n,N l n->∃o,o<m/\W (i+1) o l n)/\∀x n,J.yld i H x n->g x a n λb h=>f {D with nx:=N,ct:=N,bk:=D.nx} b h)
def tF(a:G I)(h:Heap):G (I×Obj):=a.filterMap λb=>(h.get? b).map λo=>(b,o)
theorem kM(a:b∈C)(e:h.get? b=R o):(b,o)∈tF C h:=ZQ.mpr #[b,a,by rw[e];rfl]
def EX(a:p∈tF C h):p.1∈C/\h.get? p.1=R p.2:=by
 let(b,f,e):=ZQ.mp a;cases q:h.get? b with
 |none=>rw[q]at e;ext e
 |some o=>rw[q]at e;let g:=VR e;subst g;show#[f,q]
theorem Inv.pinned(I:Inv X pins σ H s)(i:∀b∈fp,pH X pins H b)(h:∀b∈fp,∃o,s.heap.get? b=R o/\∀v,o.data≠.cell v):Inv X (pins++tF fp s.heap) σ H s:=
 I.adD λp g=>(Wi.mp g).elim (λz=>I.pin p (Wy _ z)) λz=>by let(a,e):=EX z;let(m,l,j,_):=i p.1 a;let(o,f,d):=h p.1 a;rw[e]at f;ext f;show#[e,m,l,j,d]
theorem Inv.abK(I:Inv X (pins++pl) σ H s):Inv X pins σ H s:=I.adD λp a=>I.pin p (Wy _ (Xf _ a))
def wo(L:aac (model X.prog X.w) X.A X.env X.xe)(c:X.calm=Vi)(V:PI X Z iter wi)(hg:PG X Z g)(p:PSs X body tb)
  (k:∀x,foldedSetIterable iter X.env x=pure x:=by intro _;rfl):PS X (.For Z iter body [] pos) (QI wi g tb):=by
 intro j s σ H D I h;show wpAny_For (cR (V j s σ H _ I h) λv s1 h1=>cR h1 λitv s2 h2=>?_) k;let(it,O,tn,J,H2,e,I2,T,R,f2,W,(m0,w0),turn):=h2;subst e;let E:∀{z:Hp},(∀b∈O,z b=Vg)->∀b∈O,pH X j z b:=λhn b p=>#[hn b p,(f2 b p).2];show codeAny_forLoop_any (λn s'=>∃i w z,Inv X j w z s'/\tn i s'.heap/\(∀b∈O,z b=Vg)/\W i n w z) ?_ m0 #[0,σ,H2,I2,R,λb p=>(f2 b p).1,w0];rintro n s3 ⟨i,l,P,I3,G,M,w3⟩;rcases turn i n l P w3 with⟨F,qn⟩|⟨go,N,hN,step⟩
 .show Yv L (cR (T.done X rfl rfl rfl c i j s3 l P X.xe I3 (E M) G F) λr s4 #[U,I4]=>?_);subst U;show Za #[l,P,I4,qn]
 .show Yv L (cR (T.item X rfl rfl rfl c i j s3 l P X.xe I3 (E M) G go) λr s4 #[u,U,h4]=>?_)
  subst U;show Yv L (cR h4 λ_ s5 a=>?_);let(x,H5,I5,r5,y5,C,Y):=a;let A:=I5.pinned (E Y) (T.obj _ _ C);show Yv L (cR (hg _ s5 l H5 x u _ A r5 (step x H5 y5)) λ_ s6 a=>?_);let(Q,H6,I6,q6):=a;show Yv L (cR (p _ s6 Q H6 _ I6 q6) λf S B=>?_);let q:∀{a:St} {y:Hp},Inv X (j++tF O s5.heap) a y S->N a y->∃m,m<n/\∃i w z,Inv X j w z S/\tn i S.heap/\(∀b∈O,z b=Vg)/\W i m w z:=λ{a y} t K=>by let(m',hm,w7):=hN a y K;show#[m',hm,i+1,a,y,t.abK,T.keep _ _ _ C λb p o e=>(t.pin (b,o) (Wy _ (Wy _ (kM p e)))).1,λb p=>?_,w7];let(o,e,d):=T.obj _ _ C b p;show(t.pin (b,o) (Wy _ (Wy _ (kM p e)))).2.1
  cases f with
  |next=>let(a,y,t,K):=B;show q t K
  |cont=>let(a,y,t,K):=B;show q t K
  |brk=>let(a,y,t,B):=B;show#[a,y,t.abK,B]
  |ret v=>let(x7,a,y,t,r7,B):=B;show#[x7,a,y,t.abK,r7,B]
end
abbrev R2:=V->V->Hp->VK->Prop
def OpR(X:Cx)(f:B->B->Sem B)(r:R2):Prop:=
 ∀(a:G (I×Obj)) (s:Vp) (b:St) (H:Hp) (x y:V) (v u:B) (Q:VK),Inv X a b H s->RelV x v->RelV y u->r x y H Q->
  wpAny (model X.prog X.w) X.A (f v u) (EP X a b Q) X.xe s
def Ur(X:Cx)(f:B->Sem B)(r:V->Hp->VK->Prop):Prop:=
 ∀(a:G (I×Obj)) (s:Vp) (b:St) (H:Hp) (x:V) (v:B) (Q:VK),Inv X a b H s->RelV x v->r x H Q->
  wpAny (model X.prog X.w) X.A (f v) (EP X a b Q) X.xe s
def YG(X:Cx)(f:B)(r:G V->Hp->VK->Prop):Prop:=
 ∀(a:G (I×Obj)) (s:Vp) (b:St) (H:Hp) (xs:G V) (e:G B) (Q:VK),Inv X a b H s->Vals xs e->r xs H Q->
  wpAny (model X.prog X.w) X.A (call f e) (EP X a b Q) X.xe s
def OZ(r:R2)(e b:TE):TE:=λa H Q=>e a H λx g=>b a g λy f=>r x y f Q
def U7(r:V->Hp->VK->Prop)(b:TE):TE:=λa H Q=>b a H λx e=>r x e Q
def rI(C:Int->Int->Prop)(g:Int->Int->V):R2:=λx y H Q=>∃i j,x=.int i/\y=.int j/\C i j/\Q (g i j) H
def AE(g:Int->Int->V):R2:=λx y H Q=>∃i j,x=.int i/\y=.int j/\Q (g i j) H
def rU(g:Int->V):V->Hp->VK->Prop:=λx H Q=>∃i,x=.int i/\Q (g i) H
section
variable{X:Cx}{a b c:WB}{Z Y T:TE}{U:Pos}
def Qj(r:PE X a Z)(n:PE X b Y){R:V->V->Hp->Prop}(I:Inv X pins σ H s)
  (h:Z σ H λx H1=>Y σ H1 λy d=>R x y d) {f:B->B->Sem B}
  (m:∀v u s2 x y d,Inv X pins σ d s2->RelV x v->RelV y u->R x y d->wpAny (model X.prog X.w) X.A (f v u) Q X.xe s2):
  wpAny (model X.prog X.w) X.A (eval a X.env) (λv q=>wpAny (model X.prog X.w) X.A (eval b X.env) (λu k=>wpAny (model X.prog X.w) X.A (f v u) Q X.xe k) X.xe q) X.xe s:=by
 show cR (r pins s σ H _ I h) λv e a=>?_;let(x,H1,p,i,l):=a;show cR (n pins e σ H1 _ p l) λu s2 a=>?_;let(y,d,o,g,j):=a;show m v u s2 x y d o i g j
def gD(l:OpR X (XI op) r)(d:PE X a Z)(m:PE X b Y):PE X (.BinOp a op b U) (OZ r Z Y):=by intro e s f H Q I h;show wpAny_BinOp (Qj d m I h λv u g x y o n j i q=>l e g f o x y v u Q n j i q)
def Oo(l:Ur X (unaryOp op) r)(d:PE X a Z):PE X (.UnaryOp op a U) (U7 r Z):=by intro e s f H Q I h;show UnaryOp_ (cR (d e s f H _ I h) λv g #[x,n,m,i,j]=>l e g f n x v Q m i j)
def RP{g:Int->Int->Int}
  (e:∀(i j:Int) (t u:Tok) (s:Vp) (Q:B->Vp->Prop) (E:B->Vp->Prop),C i j->Q (.int (g i j) s.toks) {s with toks:=s.toks+1}->wpAny (model X.prog X.w) X.A (f (.int i t) (.int j u)) Q E s):
  OpR X f (rI C λi j=>.int (g i j)):=by
 intro l s r H x y v u Q I o n h;let(i,j,rfl,rfl,p,q):=h;let(t,rfl):=o;let(m,rfl):=n;show e i j t m s _ _ p #[.int (g i j),H,I.tok _,#[_,W],q]
def QO{g:Int->Int->Int}
  (e:∀(i j:Int) (t u:Tok) (s:Vp) (Q:B->Vp->Prop) (E:B->Vp->Prop),Q (.int (g i j) s.toks) {s with toks:=s.toks+1}->wpAny (model X.prog X.w) X.A (f (.int i t) (.int j u)) Q E s):
  OpR X f (AE λi j=>.int (g i j)):=by
 intro l s p H x y v u Q I o n h;let(i,j,rfl,rfl,q):=h;let(t,rfl):=o;let(m,rfl):=n;show e i j t m s _ _ #[.int (g i j),H,I.tok _,#[_,W],q]
def Q5{g:Int->Int->Bool}
  (e:∀(i j:Int) (t u:Tok) (s:Vp) (Q:B->Vp->Prop) (E:B->Vp->Prop),Q (.bool (g i j)) s->wpAny (model X.prog X.w) X.A (f (.int i t) (.int j u)) Q E s):
  OpR X f (AE λi j=>.bl (g i j)):=by
 intro l s p H x y v u Q I o n h;let(i,j,rfl,rfl,q):=h;let(t,rfl):=o;let(m,rfl):=n;show e i j t m s _ _ #[.bl (g i j),H,I,W,q]
def GY(i j:Int):Prop:=0<=j/\j<=1000000/\i.natAbs<2^64
def ahe(i j:Int):Prop:=(-(2^64)<i/\i<2^64)\/(-(2^64)<j/\j<2^64)
def ahe.ok(h:ahe i j):IntMulOk i j:=by
 rcases h with⟨f,e⟩|⟨f,e⟩
 .show .of_left (anL f e)
 .show .of_right (anL f e)
def two_pow_nn(k:Nat):(0:Int)<=2^k:=by rw[two_pow_cast];show Int.natCast_nonneg _
theorem Rn:OpR X (XI .Add) (AE λi j=>.int (i+j)):=QO λ_ _ _ _ _ _ _ q=>add_int q
theorem G6:OpR X (XI .Sub) (AE λi j=>.int (i - j)):=QO λ_ _ _ _ _ _ _ q=>sub_int q
theorem QY:OpR X (XI .Mult) (rI ahe λi j=>.int (i*j)):=RP λ_ _ _ _ _ _ _ e q=>mul_int q e.ok
theorem GR:OpR X (XI .Mod) (rI (λ_ j=>0<j) λi j=>.int (i % j)):=RP λi j _ _ _ _ _ e q=>by let f:(0:Int)<j:=e;show mod_int' () (by rw[Int.fmod_eq_emod_of_nonneg i ()];show q)
theorem Ru:OpR X (XI .Pow) (rI GY λi j=>.int (i^j.toNat)):=RP λ_ _ _ _ _ _ _ e q=>pow_int_small e.1 e.2.1 e.2.2 q
theorem Hj:OpR X (XI .LShift) (rI GY λi j=>.int (i*2^j.toNat)):=RP λ_ _ _ _ _ _ _ e q=>lshift_int_small e.1 e.2.1 e.2.2 q
theorem Jf:OpR X (XI .RShift) (rI (λ_ j=>0<=j) λi j=>.int (i/2^j.toNat)):=RP λi j _ _ _ _ _ e q=>
 rshift_int e (by rw[adg i (two_pow_nn _)];show q)
theorem KC:OpR X (XI .BitAnd) (AE λi j=>.int (Builtin.bitAnd i j)):=QO λ_ _ _ _ _ _ _ q=>and_int q
def U2{g:Int->Int}
  (e:∀(i:Int) (t:Tok) (s:Vp) (Q:B->Vp->Prop) (E:B->Vp->Prop),Q (.int (g i) s.toks) {s with toks:=s.toks+1}->wpAny (model X.prog X.w) X.A (f (.int i t)) Q E s):
  Ur X f (rU λi=>.int (g i)):=by
 intro j s m H x v Q I l h;let(i,rfl,q):=h;let(t,rfl):=l;show e i t s _ _ #[.int (g i),H,I.tok _,#[_,W],q]
theorem Gs:Ur X (unaryOp .USub) (rU λi=>.int (-i)):=U2 λ_ _ _ _ _ q=>neg_int q
end
def wR:V->V->Bool
 |.Xo,.Xo=>P|.Xo,.int _=>P|.int _,.Xo=>P|.Xo,.bl _=>P|.bl _,.Xo=>P|.Xo,.str _=>P|.str _,.Xo=>P
 |.int _,.int _=>P|.bl _,.bl _=>P|.str _,.str _=>P|.byt _,.byt _=>P
 |.int _,.str _=>P|.str _,.int _=>P|.bl _,.str _=>P|.str _,.bl _=>P
 |_,_=>Vq
def UG:R2:=λx y H Q=>wR x y=P/\Q (.bl (decide (x=y))) H
def US:R2:=λx y H Q=>wR x y=P/\Q (.bl (!decide (x=y))) H
def C6:decide (V.int i=V.int j)=(i==j):=by rw[YY];rw[decide_eq_true_iff,beq_iff_eq];show#[λh=>by ext h;rfl,λh=>by rw[h]]
def KI:decide (V.bl i=V.bl j)=(i==j):=by rw[YY];rw[decide_eq_true_iff,beq_iff_eq];show#[λh=>by ext h;rfl,λh=>by rw[h]]
def DH:decide (V.str i=V.str j)=(i==j):=by rw[YY];rw[decide_eq_true_iff,beq_iff_eq];show#[λh=>by ext h;rfl,λh=>by rw[h]]
def CW:decide (V.byt i=V.byt j)=(i.toList==j.toList):=by rw[YY];rw[decide_eq_true_iff,beq_iff_eq];show#[λh=>by ext h;rfl,λh=>by rw[Array.toList_inj.mp h]]
section
variable{X:Cx}{a b c:WB}{Y Z T:TE}{U:Pos}
def b5(I:Inv X pins σ H s)(q:Q (.bl k) H)(e:k=o):EP X pins σ Q (.bool o) s:=by subst e;show#[.bl k,H,I,W,q]
def Ie:OpR X (XA .Eq) UG:=by
 intro m s n H x y v u Q I l e h;let(g,q):=h;cases x with
 |Xo=>
  ext l;cases y with
  |Xo=>ext e;show akp (b5 I q (by simp))
  |bl j=>ext e;show akq (b5 I q (by simp))
  |int j=>let(f,rfl):=e;show akr (b5 I q (by simp))
  |str j=>let(f,rfl):=e;show aks (b5 I q (by simp))
  |_=>show a6 (show Vq=P from g) Vu
 |bl i=>
  ext l;cases y with
  |Xo=>ext e;show akt (b5 I q (by simp))
  |bl j=>ext e;show eq_bool (b5 I q KI)
  |str j=>let(f,rfl):=e;show ajf (b5 I q (by simp))
  |_=>show a6 (show Vq=P from g) Vu
 |int i=>
  let(t,rfl):=l;cases y with
  |Xo=>ext e;show aku (b5 I q (by simp))
  |int j=>let(f,rfl):=e;show eq_int (b5 I q C6)
  |str j=>let(f,rfl):=e;show ajg (b5 I q (by simp))
  |_=>show a6 (show Vq=P from g) Vu
 |str i=>
  let(t,rfl):=l;cases y with
  |Xo=>ext e;show akv (b5 I q (by simp))
  |bl j=>ext e;show ajh (b5 I q (by simp))
  |int j=>let(f,rfl):=e;show aji (b5 I q (by simp))
  |str j=>let(f,rfl):=e;show eq_str (b5 I q DH)
  |_=>show a6 (show Vq=P from g) Vu
 |byt i=>
  let(t,rfl):=l;cases y with
  |byt j=>let(f,rfl):=e;show PySem.W.eq_bytes (b5 I q CW)
  |_=>show a6 (show Vq=P from g) Vu
 |_=>ext y<;>show a6 (show Vq=P from g) Vu
def Sq:OpR X (XA .NotEq) US:=by
 intro m s n H x y v u Q I l e h;let(g,q):=h;cases x with
 |Xo=>
  ext l;cases y with
  |Xo=>ext e;show akx (b5 I q (by simp))
  |bl j=>ext e;show aky (b5 I q (by simp))
  |int j=>let(f,rfl):=e;show akz (b5 I q (by simp))
  |str j=>let(f,rfl):=e;show akA (b5 I q (by simp))
  |_=>show a6 (show Vq=P from g) Vu
 |bl i=>
  ext l;cases y with
  |Xo=>ext e;show akB (b5 I q (by simp))
  |bl j=>ext e;show ne_bool (b5 I q (eH not KI))
  |str j=>let(f,rfl):=e;show ajj (b5 I q (by simp))
  |_=>show a6 (show Vq=P from g) Vu
 |int i=>
  let(t,rfl):=l;cases y with
  |Xo=>ext e;show akC (b5 I q (by simp))
  |int j=>let(f,rfl):=e;show ne_int (b5 I q (eH not C6))
  |str j=>let(f,rfl):=e;show ajk (b5 I q (by simp))
  |_=>show a6 (show Vq=P from g) Vu
 |str i=>
  let(t,rfl):=l;cases y with
  |Xo=>ext e;show akD (b5 I q (by simp))
  |bl j=>ext e;show ajl (b5 I q (by simp))
  |int j=>let(f,rfl):=e;show ajm (b5 I q (by simp))
  |str j=>let(f,rfl):=e;show ne_str (b5 I q (eH not DH))
  |_=>show a6 (show Vq=P from g) Vu
 |byt i=>
  let(t,rfl):=l;cases y with
  |byt j=>let(f,rfl):=e;show PySem.W.ne_bytes (b5 I q (eH not CW))
  |_=>show a6 (show Vq=P from g) Vu
 |_=>ext y<;>show a6 (show Vq=P from g) Vu
theorem G1:OpR X (XA .Lt) (AE λi j=>.bl (decide (i<j))):=Q5 λ_ _ _ _ _ _ _ q=>lt_int q
theorem D6:OpR X (XA .Gt) (AE λi j=>.bl (decide (j<i))):=Q5 λ_ _ _ _ _ _ _ q=>gt_int q
theorem N8:OpR X (XA .GtE) (AE λi j=>.bl (decide (j<=i))):=Q5 λ_ _ _ _ _ _ _ q=>ge_int q
def v9:OpR X (XA .Is) (λx y H Q=>y=.Xo/\Q (.bl (decide (x=.Xo))) H):=by
 intro f s i H x y v u Q I e g h;let(rfl,q):=h;ext g;show is_none_gen (b5 I q ?_);ext x<;>first
  |(ext e;rfl)
  |(let(t,rfl):=e;rfl)
def wX:OpR X (XA .IsNot) (λx y H Q=>y=.Xo/\Q (.bl (!decide (x=.Xo))) H):=by
 intro f s i H x y v u Q I e g h;let(rfl,q):=h;ext g;show isnot_none_gen (b5 I q ?_);ext x<;>first
  |(ext e;rfl)
  |(let(t,rfl):=e;rfl)
def cO(b:WB)(h:op≠.In:=by decide)(e:op≠.NotIn:=by decide):behindInMarks op b=Vq:=by
 let g:(op==CmpOp.In)=Vq:=by ext op<;>first|rfl|show a6 W h
 let f:(op==CmpOp.NotIn)=Vq:=by ext op<;>first|rfl|show a6 W e
 ext b<;>simp[behindInMarks,g,f]
def fF{f:CmpOp}{r:R2}(m:OpR X (XA f) r)(d:PE X a Y)(n:PE X b Z)(hm:behindInMarks f b=Vq):PE X (.Compare a [f] [b] U) (OZ r Y Z):=by intro e s g H Q I h;show wpAny_Compare1 (Qj d n I h λv u i x y p o l j q=>m e i g p x y v u Q o l j q) hm
def CH(t:TE):TT:=λe H Q=>t e H λx f=>∃k,x=.bl k/\Q k f
def c9(t:OpR X (XA op) r)(d:PE X a Y)(w:PE X b Z)(hm:behindInMarks op b=Vq):PT X (.Compare a [op] [b] U) (CH (OZ r Y Z)):=by
 intro f s g H Q I h;show agH (cR (d f s g H _ I h) λv j #[x,G,C,n,q]=>cR (w f j g G _ C q) λu i #[y,F,K,m,p]=>
  cR (t f i g F x y v u _ K n m p) λc J a=>?_) hm;let(z,E,A,l,k,e,o):=a
 subst e;ext l;show YH #[E,A,o]
def wC:(VF:Nat)<2^63:=by rw[Yb];decide
def kY(r:Vals [x] us):∃u,us=[u]/\RelV x u:=by
 cases r with
 |cons f e=>ext e;show#[_,W,f]
def yD(r:Vals [x,y] us):∃u d,us=[u,d]/\RelV x u/\RelV y d:=by
 cases r with
 |cons h g=>
  cases g with
  |cons f e=>ext e;show#[_,_,W,h,f]
def FH(g:X.calm=P):YG X (.builtin "max") (λxs H Q=>∃i j,xs=[.int i,.int j]/\Q (.int (if j>i then j else i)) H):=by
 intro f s l H xs n Q I r h;let(i,j,rfl,q):=h;let(u,m,rfl,(t,rfl),(p,rfl)):=yD r;show max_two_ints (I.ok.hd g) λv o k=>#[_,H,I.kept k,?_,q];by_cases e:j>i
 .rw[ag e,ag e];show#[_,W]
 .rw[av e,av e];show#[_,W]
def MW(K:Ld)(x:V)(H:Hp)(n:Nat):Prop:=
 match x with
 |.str y=>y.length<=VF/\n=y.length
 |.byt y=>y.size<=VF/\n=y.size
 |.ref p=>(∃xs,SqL K H p xs/\n=xs.length)\/∃xs,SqT K H p xs/\n=xs.length
 |_=>False
def c7:YG X (.builtin "len") (λxs H Q=>∃x n,xs=[x]/\MW X.K x H n/\Q (.int n) H):=by
 intro m s z H xs A Q I r h;let(x,n,rfl,e,q):=h;let(u,rfl,i):=kY r;let C:=wC;let B:=Yb;cases x with
 |str y=>let(t,rfl):=i;let(v,g):=e;subst g;show len_str () #[.int _,H,I.tok _,#[_,W],q]
 |byt y=>let(t,rfl):=i;let(v,g):=e;subst g;show PySem.W.len_bytes () #[.int _,H,I.tok _,#[_,W],q]
 |ref p=>
  ext i;let g:=e;rcases g with⟨xs,l,g⟩|⟨xs,l,g⟩
  .subst g;let(w,j,pl,o):=I.list l;let f:=j.length;show Calls.call_len_list pl.isList (by simp only[VJ];ext) #[.int xs.length,H,I.tok _,#[_,by simp only[VJ];rw[f]],q]
  .subst g;let(w,j,pl,o):=I.tuple l;let f:=j.length;show len_tuple pl (by simp only[VJ];ext) #[.int xs.length,H,I.tok _,#[_,by simp only[VJ];rw[f]],q]
 |_=>show(show False from e).elim
end
structure ae3(h:Heap)(x dx C:I)(mA:Str->br B):Prop where
 obj:h.get? x=R (XO C dx)
 ns:h.Ns1 dx mA
 ne:dx≠x
def vJ{h:Heap}(n:h.Ns1 J C):∃c,h.get? J=R c/\∀name,aaw name c=R (C name):=by
 let(o,p,m,g,j,i,_,hm):=n;show#[o,g,λname=>?_];let e:=hm name;unfold nsFind findBy at e;rw[<-afh]at e;ext aaw;rw[j];dsimp only;split
 .rename_i y q;rw[q]at e;show eH R e
 .rename_i q
  rw[q]at e;let a:p.toList.any (·.refKey)=Vq:=by rw[List.any_eq_false];intro y f;let(z,t,b):=i y (Array.mem_toList_iff.mp f);simp[Zm.refKey,b]
  let l:¬p.toList.any (·.refKey)=P:=by rw[a];show Vu
  rw[av l];show eH R e
theorem ae3.look(I:ae3 h x dx C mA):∃a,Yq h x (XO C dx) C (R a)/\∀name,aaw name a=R (mA name):=
 let#[a,b,e]:=vJ I.ns
 #[a,#[I.obj,W,W,b],e]
section
variable{U:VV}{w:Wh}{A:V7}{E:Vh->Vp->Prop}{s:Vp}{K:Ld}{x T C f:Vm}{Z:Str->br Vh}{Y:Str}{v:Vh}
def Mj(X:K.In s.heap)(I:ae3 s.heap x T C Z)(i:Zh K C Y=P)(g:XT K C=P)
  (c:V3 K (.ref C) Y=R M) (b:Z Y=R v) (a:afi v=P) (h:Q v {s with toks:=s.toks+1}):
  wpAny (model U w) A (getAttr (.ref x) Y expr) Q E s:=by
 let(j,J,e):=I.look;show PySem.W.get_value X J (aaS i).1 (PySem.W.findObj_own g c W (by rw[e,b])) a h
def Kg(X:K.In s.heap)(I:ae3 s.heap x T C Z)(a:Zh K C Y=P)
  (j:V3 K (.ref C) Y=R (R (.ref f))) (g:Yw K (.ref f)=P) (e:Z Y=M) (h:Q (.ref f,[.ref x]) s):
  wpAny (model U w) A (getMethod (.ref x) Y pl) Q E s:=by
 let(b,J,i):=I.look;show PySem.W.method_fn X J (aaS a).1 (aaS a).2 j (beq_iff_eq.mp g) (by show(aaw Y b).map (·.isSome)=R Vq;rw[i,e];rfl) h
def Li(X:K.In s.heap)(I:ae3 s.heap x T C Z)
  (p:V3 K (.ref C) "__setattr__"=R (R (.builtin "object.__setattr__"))) (q:abt K C=P) (o:ab7 K C Y=R M) (r:XT K C=P)
  (n:adQ Z ns) (d:ns.length<=VF)
  (h:∀c,ae3 c x T C (λy=>if y=Y then R v else Z y)->Heap.SameBut T s.heap c->Q ⟨⟩ {s with heap:=c,toks:=s.toks+2}):
  wpAny (model U w) A (setAttr (.ref x) Y v) Q E s:=by
 let(B,J,G):=I.look;show PySem.W.set_plain X J p (PySem.W.osa_open X J q o λb=>?_);let(H,t,j):=PySem.W.any_some r;let m:=I.obj;show Vf (Vt (Vf (Vf (aep m (Vf (ajn (PySem.W.looks_clsIn X t) ?_))))));rw[j];show Vt (Vf (Vt (Vf ?_)));show wpAny_nsSet1 I.ns λc e a=>?_;let(F,u,z,g,i,l):=e.count (akE Y v n);show Vf (ajo g (by rw[i];show ajp (Wk l (by rw[VI];ext))) ?_);show Vt (h _ #[(a.2 _ (ej I.ne)).trans I.obj,e,I.ne] a)
def Hc{R:abQ->Vp->Prop}{c:G B}{b:G (Str×B)}(X:K.In s.heap)(hm:ab8 K C=P)
  (k:V3 K (.ref C) "__init__"=lD (lD (.ref f))) (e:WO K (.ref f)=lD (.type "function"))
  (h:codeAny (model U w) (A.under (.builtin "type.__call__" #[.ref C::c,b])) (.call (.ref f) #[.ref (s.heap.objs.size+1)::c,b]) (PySem.W.InitBack (s.heap.objs.size+1) R)
   {s with heap:=(s.heap.push Xi).push (XO C s.heap.objs.size)}):
  codeAny (model U w) A (.call (.ref C) #[c,b]) R s:=by
 let(j,g,d,t,i):=s;show PySem.W.make_core (PySem.W.makes_of X hm) (PySem.W.looks_findIn X k) (λa=>PySem.W.bind_fn X a e) (.inl W) h
end
def jP(f:Str)(v:V):G (Str×V)->G (Str×V)
 |[]=>[(f,v)]
 |(g,x)::r=>if g=f then(g,v)::r else(g,x)::jP f v r
theorem rj(f g:Str)(v:V):∀fs:G (Str×V),(jP f v fs).lookup g=if g=f then R v else fs.lookup g
 |[]=>by
  show Yi g [(f,v)]=_;by_cases h:g=f
  .let a:=beq_iff_eq.mpr h;simp only[Yi,a,ag h]
  .let a:=beq_eq_false_iff_ne.mpr h;simp only[Yi,a,av h]
 |(k,x)::r=>by
  let i:=rj f g v r;rw[show jP f v ((k,x)::r)=(if k=f then(k,v)::r else(k,x)::jP f v r)from rfl];by_cases b:k=f
  .rw[ag b]
   by_cases h:g=k
   .let a:=beq_iff_eq.mpr h;simp only[Yi,a,ag (h.trans b)]
   .let a:=beq_eq_false_iff_ne.mpr h;simp only[Yi,a,av (λe:g=f=>h (e.trans b.symm))]
  .rw[av b]
   by_cases h:g=k
   .let a:=beq_iff_eq.mpr h;simp only[Yi,a,av (λe:g=f=>b (h.symm.trans e))]
   .let a:=beq_eq_false_iff_ne.mpr h;simp only[Yi,a];show i
theorem qV(f:Str)(v:V):∀fs:G (Str×V),f∈(jP f v fs).map (·.1)/\∀g,g∈fs.map (·.1)->g∈(jP f v fs).map (·.1)
 |[]=>#[by simp[jP],λg h=>by simp at h]
 |(k,x)::r=>by
  let(i,b):=qV f v r;rw[show jP f v ((k,x)::r)=(if k=f then(k,v)::r else(k,x)::jP f v r)from rfl];by_cases a:k=f
  .rw[ag a];subst a;show#[by simp,λg h=>by simpa using h]
  .rw[av a]
   show#[?_,λg h=>?_]
   .rw[VP];show Vr _ i
   .rw[VP]at h⊢
    rcases VG.mp h with e|e
    .show VG.mpr (.inl e)
    .show Vr _ (b g e)
theorem qZ(f:Str)(v:V):∀fs:G (Str×V),(jP f v fs).length<=fs.length+1
 |[]=>by simp[jP]
 |(k,x)::r=>by
  let b:=qZ f v r;rw[show jP f v ((k,x)::r)=(if k=f then(k,v)::r else(k,x)::jP f v r)from rfl];by_cases a:k=f
  .rw[ag a,VI,VI];ext
  .rw[av a,VI,VI];ext
def ZU.some_of(r:ZU (R v) o):∃u,o=R u/\RelV v u:=by
 cases o with
 |none=>show(show False from r).elim
 |some u=>show#[u,W,r]
def ZU.none_of(r:ZU M o):o=M:=by
 cases o with
 |none=>rfl
 |some u=>show(show False from r).elim
def v7(r:RelV v u):afi u=P:=by
 cases v with
 |Xo=>cases(show u=Vh.none from r);rfl
 |bl b=>cases(show u=Vh.bool b from r);rfl
 |int i=>let(t,e):=(show∃t,u=Vh.int i t from r);ext e;rfl
 |str x=>let(t,e):=(show∃t,u=Vh.str x t from r);ext e;rfl
 |byt b=>let(t,e):=(show∃t,u=Vh.bytes b t from r);ext e;rfl
 |flt b=>let(t,e):=(show∃t,u=Vh.float b t from r);ext e;rfl
 |ref a=>cases(show u=Vh.ref a from r);rfl
 |ty n=>cases(show u=Vh.type n from r);rfl
section
variable{P:VV}{w:Wh}{H X:Hp}{h U:Heap}{a C Z:Vm}{fs Y:bg (Str×V)}
def we(WT:HOk P w H h)(e:H a=R (.ins C Z fs)):∃c,ae3 h a Z C c/\(∀f,ZU (fs.lookup f) (c f))/\adQ c (fs.map (·.1))/\fs.length<=1000/\H Z=R (.own a):=by let(d,z,ne,b,c,n,r,q):=(show ObjOk P w H h a (.ins C Z fs)from WT a _ e);show#[c,#[b,n,ne],r,q,z,d]
end
structure Cls(K:Ld)(C:I):Prop where
 pg:Zh K C Str.empty=P
 hd:XT K C=P
 po:abt K C=P
 sa:V3 K (.ref C) "__setattr__"=R (R (.builtin "object.__setattr__"))
theorem Cls.get{K:Ld}(c:Cls K C)(f:Str):Zh K C f=P:=c.pg
def ZV(K:Ld)(C:I)(f:Str):Prop:=V3 K (.ref C) f=R M
def ZV.ajD{K:Ld}(n:ZV K C f):ab7 K C f=R M:=by ext ab7;rw[show V3 K (.ref C) f=R M from n];rfl
structure Con(K:Ld)(C:I)(f:Str)(v:V)(u:B):Prop where
 at_:V3 K (.ref C) f=R (R u)
 rel:RelV v u
 get:Y0 K u "__get__"=R M
 cp:PySem.W.copiedNames.contains f=Vq
structure Meth(K:Ld)(C:I)(m:Str)(f:I):Prop where
 at_:V3 K (.ref C) m=R (R (.ref f))
 fn:Yw K (.ref f)=P
 kp:W7 K (.ref f)=P
section
variable{X:Cx}{Z:bg (Vm×Obj)}{Y:St}{H:Hp}{s:Vp}{a C U:Vm}{fs:bg (Str×V)}{f:Str}{v:V}{A:V7}{E:Vh->Vp->Prop}
def Ce(I:Inv X Z Y H s)(e:H a=R (.ins C U fs))(c:Cls X.K C)(n:ZV X.K C f)(l:fs.lookup f=R v)
  (h:∀u d,Inv X Z Y H d->RelV v u->Q u d):wpAny (model X.prog X.w) A (getAttr (.ref a) f b) Q E s:=by
 let(j,O,r,_,_,_):=we I.WT e;let(u,i,g):=ZU.some_of (by rw[<-l];show r f);show Mj I.kIn O (c.get f) c.hd n i (v7 g) (h u _ (I.tok _) g)
def uG(I:Inv X Z Y H s)(e:H a=R (.ins C U fs))(c:Cls X.K C)(k:Meth X.K C m g)(l:fs.lookup m=M)
  (h:Q (.ref g,[.ref a]) s):wpAny (model X.prog X.w) A (getMethod (.ref a) m pl) Q E s:=by
 let(b,O,r,_,_,_):=we I.WT e;let i:=ZU.none_of (by rw[<-l];show r m);show Kg I.kIn O (c.get m) k.at_ k.fn i h
def A7(I:Inv X Z Y H s)(e:H a=R (.ins C U fs))(c:Cls X.K C)(n:ZV X.K C f)(M:fs.length<1000)(t:RelV y u)
  (h:∀d,Inv X Z Y (bE H a (.ins C U (jP f y fs))) d->Q ⟨⟩ d):wpAny (model X.prog X.w) A (setAttr (.ref a) f u) Q E s:=by
 let(l,O,r,j,_,m):=we I.WT e;let B:(fs.map (·.1)).length<=VF:=by rw[Vj,Yb];ext
 show Li I.kIn O c.sa c.po n.ajD c.hd j B λL i p=>h _ ?_;let G:∃o,L.get? U=R o:=let#[o,_,_,w,_]:=i.ns;#[o,w]
 show I.write (by rw[e];show True.intro) (.inr m) (λb q J z=>(p.2 b J).trans z) G ?_;show#[by rw[aG O.ne];show m,?_,O.ne,i.obj,_,i.ns,λg=>?_,λg F=>?_]
 .let:=qZ f y fs;ext
 .show ZU ((jP f y fs).lookup g) (if g=f then R u else l g)
  rw[rj];by_cases q:g=f
  .rw[ag q,ag q];show t
  .rw[av q,av q];show r g
 .by_cases q:g=f
  .rw[q];show(qV f y fs).1
  .show(qV f y fs).2 g (j g λz=>F ?_);show(if g=f then R u else l g)=Vg;rw[av q];show z
def Inv.made(I:Inv X Z Y H s):Inv X Z Y (bE (bE H s.heap.objs.size (.own (s.heap.objs.size+1))) (s.heap.objs.size+1) (.ins C s.heap.objs.size []))
  {s with heap:=(s.heap.push Xi).push (XO C s.heap.objs.size)}:=by
 let g:(s.heap.push Xi).get? s.heap.objs.size=R Xi:=cx s.heap W;let l:((s.heap.push Xi).push (XO C s.heap.objs.size)).get? (s.heap.objs.size+1)=R (XO C s.heap.objs.size):=by let:=cx (s.heap.push Xi) (o:=XO C s.heap.objs.size) W;rwa [dN]at this
 let j:(s.heap.push Xi).Ns s.heap.objs.size (λ_=>M):=#[Xi,#v[],_,g,W,(λe i=>a6 i (by simp)),λ_=>W];let m:=I.laid (a:=s.heap.objs.size) (o:=.own (s.heap.objs.size+1)) (h':=s.heap.push Xi) (t':=s.toks) (λb u q=>bP _ q) (Vy _) #[_,g];show m.laid (a:=s.heap.objs.size+1) (o:=.ins C s.heap.objs.size []) (t':=s.toks) (λb u q=>bP _ q) (ab9 (dN _ _)) ?_;let ne:s.heap.objs.size≠s.heap.objs.size+1:=VW (YK _);show#[by rw[aG ne,aJ],Wo _,ne,l,λ_=>M,(Heap.Ns1.of_empty j).at λo q=>bP _ q,λ_=>True.intro,λy h=>a6 W h]
theorem Cv{prog:VV}{w:Wh}{env:Env}{e:WB}{f:Str}{b:Pos}{s:Vp}{Q:B->Vp->Prop}(g:attributeBase e f env (eval e env)=eval e env)
  (h:wpAny (model prog w) A (eval e env) (λo c=>wpAny (model prog w) A (getAttr o f P) Q E c) E s):wpAny (model prog w) A (eval (.Attribute e f b) env) Q E s:=
 Attribute_any_ h (by rw[arm_eval_Attribute,g])
end
def QG(K:Ld)(g:TE)(f:Str):TE:=λe H Q=>g e H λx b=>∃a C h fs v,x=.ref a/\b a=R (.ins C h fs)/\Cls K C/\ZV K C f/\fs.lookup f=R v/\Q v b
def Pm(K:Ld)(h g:TE)(f:Str):TS:=λD b H=>g b H λy i=>h b i λx e=>∃a C j fs,x=.ref a/\e a=R (.ins C j fs)/\Cls K C/\ZV K C f/\fs.length<1000/\
 D.nx b (bE e a (.ins C j (jP f y fs)))
section
variable{X:Cx}{o e Z:WB}{f:Str}{T Y O:Pos}{U S:TE}
def c8(m:PE X e U)(p:attributeBase e f X.env (eval e X.env)=eval e X.env):PE X (.Attribute e f T) (QG X.K U f):=by intro b s g H Q I h;show Cv p (cR (m b s g H _ I h) λu E a=>?_);let(x,z,y,i,a,C,J,fs,v,r,t,c,n,l,q):=a;subst r;obtain rfl:=i;show Ce y t c n l λA B w j=>#[v,z,w,j,q]
def pP(d:PE X o U)(r:PE X Z S)(t:Xm Z (R (.Attribute o f Y)) T.line X.env=pure Vq):PS X (.Assign [.Attribute o f Y] Z T) (Pm X.K U S f):=by intro b s g H D I h;show acX (cR (r b s g H _ I h) λu i #[y,E,K,j,q]=>cR (d b i g E _ K q) λJ G a=>?_) t;let(x,L,A,m,a,C,N,fs,v,w,c,n,l,p):=a;subst v;obtain rfl:=m;show A7 A w c n l j λF z=>#[g,_,z,p]
end
section
variable{X:Cx}{Z:bg (Vm×Obj)}{Y:St}{H:Hp}{s:Vp}{A:V7}{E:Vh->Vp->Prop}{Q:Vh->Vp->Prop}{c:Vh}{b:Bool}
inductive acB(K:Ld)(H:Hp):V->B->Prop where
 |Xo:acB K H .Xo (.type "NoneType")
 |bl (x:Bool):acB K H (.bl x) (.type "bool")
 |int (i:Int):acB K H (.int i) (.type "int")
 |str (x:Str):acB K H (.str x) (.type "str")
 |flt (x:UInt64):acB K H (.flt x) (.type "float")
 |lst {a:I} {xs:G V} (e:H a=R (.lst xs)):acB K H (.ref a) (.type "list")
 |frz {a:I} {o:Obj} {xs:G V} (e:H a=R (.frz o (.lst xs))):acB K H (.ref a) (.type "list")
 |tup {a:I} {xs:G V} (e:H a=R (.tup xs)):acB K H (.ref a) (.type "tuple")
 |dK {a:I} {V1:G (db×V)} (e:H a=R (.dK V1)):acB K H (.ref a) (.type "dict")
 |dT {a:I} {V1:G (G db×V)} (e:H a=R (.dT V1)):acB K H (.ref a) (.type "dict")
 |ins {a C dx:I} {fs:G (Str×V)} (e:H a=R (.ins C dx fs)) (cl:Cls K C) (ha:V3 K (.ref C) "__class__"=R (R (.builtin "object.__class__")))
   (hn:Y0 K (.builtin "object.__class__") "__get__"=R (R (.builtin "getset_descriptor.__get__"))) (htk:PySem.W.takesIn K (.builtin "object.__class__")=R P)
   (hm:acM K C (.type "object")=R P):acB K H (.ref a) (.ref C)
end
structure XN(k:Nat)(A:V7):Prop where
 hd:A.handled=M
 dp:A.depth+3*k+5<recursionLimit
 un:A.units+16*k+200<cLine
theorem XN.mono(r:XN k A)(h:j<=k):XN j A:=#[r.hd,by let:=r.dp;ext,by let:=r.un;ext]
theorem XN.deeper(r:XN (k+1) A)(env:Env):XN k (A.deeper env):=
 #[r.hd,by let:=r.dp;show A.depth+1+3*k+5<_;ext,by let:=r.un;show A.units+3+16*k+200<_;ext]
def Cl{A:V7}:(A.under (.builtin "type.__call__" #[.ref C::us,kw])).depth=A.depth+1:=by
 first|rfl|simp[V7.under,aeq.weight,aeq.isCreation,aeq.isGuard,aeq.isCaller,aeq.frames,aeq.isFrame,guardIds]
def Bp{A:V7}:(A.under (.builtin "type.__call__" #[.ref C::us,kw])).units=A.units+1:=by
 first|rfl|simp[V7.under,aeq.cUnits,aeq.frames,aeq.isFrame]
theorem XN.make(r:XN (k+1) A)(C:I)(us:G B)(a:G (Str×B)):XN k (A.under (.builtin "type.__call__" #[.ref C::us,a])):=
 #[r.hd,by let:=r.dp;rw[Cl];ext,by let:=r.un;rw[Bp];ext]
def XN.depth(r:XN k A):A.depth<recursionLimit:=by let:=r.dp;ext
def XN.units(r:XN k A):A.units+64<cLine:=by let:=r.un;ext
def kQ:TA:=λ_ H Q=>Q [] H
def fU(e:TE)(b:TA):TA:=λa H Q=>e a H λx g=>b a g λxs f=>Q (x::xs) f
section
variable{X:Cx}{e:WB}{Y:bg WB}{U:TE}{t:TA}{Z:Pos}
theorem aw:PA X [] kQ:=λ_ _ _ _ H Q I h=>Calls.spliced_nil #[[],H,I,.nil,h]
def aa(c:PE X e U)(n:PA X Y t)(m:VT (e::Y) X.env=(Vq,eval e X.env)::VT Y X.env:=by rfl):PA X (e::Y) (fU U t):=by intro Z a s b H Q I h;rw[m];show Calls.spliced_cons (cR (c a s b H _ I h) λu f a=>?_);let(x,r,p,i,l):=a;show cR (n Z a f b r _ p l) λv w #[xs,q,o,g,j]=>#[x::xs,q,o,.cons i g,j]
def NV(t:TA):TE:=λb H Q=>t b H λxs a=>xs.length<=VF/\∀p,a p=M->Q (.ref p) (bE a p (.tup xs))
def Ra(t:TA):TE:=λb H Q=>t b H λxs a=>xs.length<=VF/\∀p,a p=M->Q (.ref p) (bE a p (.lst xs))
def d9{c}(h:PA X Y t):PE X (.Tuple Y c Z) (NV t):=by intro a s i H Q I l;show wpAny_Tuple_spliced (cR (h Z a s i H _ I l) λj f #[xs,n,g,r,z,q]=>#[by rw[<-r.length];show z,?_]);let m:=g.WT.fresh (Vy _);show#[.ref f.heap.objs.size,bE n f.heap.objs.size (.tup xs),g.laid (λb u e=>bP _ e) (Vy _) ?_,W,q _ m];show#[z,j,r,#[_,cx _ W,#[W,_,W],W]]
def ip(h:PA X Y t):PE X (.List Y Z) (Ra t):=by intro a s i H Q I l;show wpAny_List_spliced (cR (h Z a s i H _ I l) λj f #[xs,n,g,r,z,q]=>#[by rw[<-r.length];show z,?_]);let m:=g.WT.fresh (Vy _);show#[.ref f.heap.objs.size,bE n f.heap.objs.size (.lst xs),g.laid (λb u e=>bP _ e) (Vy _) ?_,W,q _ m];show#[z,j,0,r,cx _ W]
end
abbrev Sp:=G V->Hp->VK->XK->Prop
abbrev uP:=G Env->Hp->Vp->XK->B->Vp->Prop
structure Env0(P:VV)(w:Wh)(K:Ld)(mg:Str->br B)(base:Heap)(A:V7)(outer:G Env)(s:Vp)(H:Hp):Prop where
 frames:A.frames=R outer
 mod:Mod K mg base
 bs:∀b o,base.get? b=R o->s.heap.get? b=R o/\H b=M
 bsz:base.objs.size<=s.heap.objs.size
 abh:s.heap.FunFrames base outer
 frf:∀b∈yy outer,H b=M
 WT:HOk P w H s.heap
 bare:AllBare s.gens
def CE(outer:G Env)(P:VV)(w:Wh)(H:Hp)(s:Vp)(Q:VK)(u:B)(a:Vp):Prop:=
 ∃v b,a.os=s.os/\AllBare a.gens/\Un (yy outer) [] H b s.heap a.heap/\HOk P w b a.heap/\RelV v u/\Q v b
def CR(b:uP)(outer:G Env)(P:VV)(w:Wh)(H:Hp)(s:Vp)(Q:VK)(E:XK)(r:abQ)(a:Vp):Prop:=
 match r with
 |.ok (.ret u)=>CE outer P w H s Q u a
 |.ok _=>False
 |.error e=>b outer H s E e a
structure FnOk(P:VV)(w:Wh)(K:Ld)(mg:Str->br B)(base:Heap)(CX:uP)(k:Nat)(f:I)(fd:WA)(ps:G Str)(sp:Sp):Prop where
 len:∀vs H Q E,sp vs H Q E->vs.length=ps.length
 run:∀(A:V7) (outer:G Env) (s:Vp) (H:Hp) (args:Args) (us:G B) (vs:G V) (Q:VK) (E:XK),XN k A->Env0 P w K mg base A outer s H->aat s fd args (ps.zip us)->Vals vs us->sp vs H Q E->
  codeAny (model P w) A (.call (.ref f) args) (CR CX outer P w H s Q E) s
theorem FnOk.imp{P:VV}{w:Wh}{K:Ld}{p:Str->br B}{base:Heap}{g:uP}{k:Nat}{f:I}{fd:WA}{d:G Str}{sp b:Sp}(F:FnOk P w K p base g k f fd d sp)
  (h:∀c H Q E,b c H Q E->sp c H Q E):FnOk P w K p base g k f fd d b:=
 #[λc H Q E q=>F.len c H Q E (h _ _ _ _ q),λA a s H e i c Q E m n o j l=>F.run A a s H e i c Q E m n o j (h _ _ _ _ l)]
theorem Env0.make{K:Ld}(e:Env0 b w K mg base A outer s H)(C:I)(us:G B)(a:G (Str×B)):
  Env0 b w K mg base (A.under (.builtin "type.__call__" #[.ref C::us,a])) outer s H:=#[by first|show e.frames|(simpa [V7.under,aeq.envs,aeq.isFrame,pushEnvs]using e.frames),e.mod,e.bs,e.bsz,e.abh,e.frf,e.WT,e.bare]
section
variable{X:Cx}{Z:bg (Vm×Obj)}{Y:St}{H:Hp}{s U:Vp}
theorem Inv.ag6(I:Inv X Z Y H s):Env0 X.prog X.w X.K X.mg X.base X.A X.stack s H:=
 #[I.ok.frames,I.ok.mod,I.bs,Wk I.ok.bsz I.sz,I.stack,I.abH,I.WT,I.bare]
def Inv.after{Q:VK}{u:B}(I:Inv X Z Y H s)(h:CE X.stack X.prog X.w H s Q u U):EP X Z Y Q u U:=by let(v,j,f,a,un,WT,r,q):=h;let(i,g,d,t,e):=U;obtain rfl:e=s.os:=f;show#[v,j,I.call (h':=i) (g':=g) (d':=d) (t':=t) (ch:=[]) un WT a (λb z=>a6 z (by simp)),r,q]
end
def jt(sp:Sp)(c:G V)(E:XK)(t:TA):TE:=λa H Q=>t a H λe b=>sp (e++c) b Q E
def vK(C:I)(m:Str)(sp:Sp)(c:G V)(E:XK)(f:TE)(t:TA):TE:=λb H Q=>f b H λx e=>∃a i fs,x=.ref a/\e a=R (.ins C i fs)/\fs.lookup m=M/\
 t b e λh g=>sp (x::(h++c)) g Q E
def zj(C:I)(sp:Sp)(c:G V)(E:XK)(t:TA):TE:=λb H Q=>t b H λg a=>∀x f,a x=M->a f=M->f≠x->
 sp (.ref x::(g++c)) (bE (bE a f (.own x)) x (.ins C f [])) (λv e=>v=.Xo/\Q (.ref x) e) E
def Binds(K:Ld)(fd:WA)(b:G Str)(ds:G B):Prop:=
 ∀(s:Vp) (a:G B),K.In s.heap->(a++ds).length=b.length->aat s fd #[a,[]] (b.zip (a++ds))
theorem Binds.all{K:Ld}{fd:WA}{b:G Str}(h:∀us:G B,us.length=b.length->bindArgs fd #[us,[]]=pure (b.zip us)):Binds K fd b []:=λs us _ a=>by rw[V2]at a⊢;show .of_eq (h us a)
def eR(g:uP)(X:Cx)(E:XK):Prop:=∀(a:G (I×Obj)) (f:St) (H:Hp) (s:Vp) (e:B) (b:Vp),Inv X a f H s->g X.stack H s E e b->X.xe e b
section
variable{X:Cx}{Y:uP}{k:Nat}{f C:Vm}{fd:WA}{ps:bg Str}{sp:Sp}{A:bg V}{ds:bg Vh}{E:XK}{x m:Str}{p T Z:Pos}{e o:WB}{es:bg WB}{U:TE}{t:TA}
def BX{a:G (Vm×Obj)}{g:St}{H:Hp}{s:Vp}{Q:VK}{us:G B}{vs:G V}(F:FnOk X.prog X.w X.K X.mg X.base Y k f fd ps sp)(n:XN k X.A)(v:Binds X.K fd ps ds)(hd:Vals A ds)(l:eR Y X E)
  (I:Inv X a g H s) (r:Vals vs us) (h:sp (vs++A) H Q E):wpAny (model X.prog X.w) X.A (call (.ref f) us) (EP X a g Q) X.xe s:=by
 let i:Vals (vs++A) (us++ds):=r.append hd;let q:(us++ds).length=ps.length:=by rw[<-i.length];show F.len _ _ _ _ h
 show aah (ZY (F.run X.A X.stack s H #[us,[]] (us++ds) (vs++A) Q E n I.ag6 (v s us I.kIn q) i h) λr j b=>?_);cases r with
 |error e=>show l a g H s e j I b
 |ok y=>
  cases y with
  |ret u=>show I.after b
  |next=>show False.elim b
  |brk=>show False.elim b
  |cont=>show False.elim b
def Dx(F:FnOk X.prog X.w X.K X.mg X.base Y k f fd ps sp)(n:XN k X.A)(v:Gl X x)(hm:X.mg x=R (.ref f))(u:W7 X.K (.ref f)=P)(z:Binds X.K fd ps ds)(hd:Vals A ds)(l:eR Y X E)
  (c:PA X (e::es) t) (g:(x==("__debug__":Str))=Vq:=by decide) (y:VT (e::es) X.env=(Vq,eval e X.env)::VT es X.env:=by rfl) (b:(backTo T (VT es X.env)).any (·.1)=Vq:=by rfl):
  PE X (.Call (.Name x p) (e::es) [] T) (jt sp A E t):=by
 intro a s j H Q I h;show Xw (iH I v hm ?_ g);show aa3 I.ok.mod.kin u (cR (c T a s j H _ I h) λB G #[w,J,i,r,q]=>#[i.kIn,?_]) y b;show BX F n z hd l i r q
def Lc{pl:Sem Bool}(L:PE X o U)(c:Cls X.K C)(hm:Meth X.K C m f)(F:FnOk X.prog X.w X.K X.mg X.base Y k f fd ps sp)(J:XN k X.A)(M:Binds X.K fd ps ds)(hd:Vals A ds)(B:eR Y X E)(d:PA X (e::es) t)
  (dI:VT (e::es) X.env=(Vq,eval e X.env)::VT es X.env:=by rfl) (g:(backTo T (VT es X.env)).any (·.1)=Vq:=by rfl)
  (G:eval (.Call (.Attribute o m Z) (e::es) [] T) X.env=(do
   let ov<-eval o X.env
   standAt Z.atName
   let(f,first)<-holding [ov] (getMethod ov m pl)
   callWith T f first (backTo T (VT (e::es) X.env)) (backToKw T (keywordEach [] X.env))):=by rfl):
  PE X (.Call (.Attribute o m Z) (e::es) [] T) (vK C m sp A E U t):=by
 intro b s i H Q I h;show aaq (pl:=pl) (cR (L b s i H _ I h) λu v a=>?_) G;let(x,w,n,y,a,dx,fs,N,O,l,q):=a;subst N;obtain rfl:u=Vh.ref a:=y;show uG n O c hm l ?_;show aa3 (first:=[.ref a]) (h₀:=X.base) I.ok.mod.kin hm.kp (cR (d T b v i w _ n q) λus R #[K,S,j,r,z]=>#[j.kIn,?_]) dI g;show BX (us:=.ref a::us) (vs:=.ref a::K) F J M hd B j (.cons W r) z
def HE{pl:Sem Bool}(y:PE X o U)(c:Cls X.K C)(hm:Meth X.K C m f)(F:FnOk X.prog X.w X.K X.mg X.base Y k f fd ps sp)(v:XN k X.A)(z:Binds X.K fd ps ds)(hd:Vals A ds)(n:eR Y X E)
  (r:eval (.Call (.Attribute o m Z) [] [] T) X.env=(do
   let ov<-eval o X.env
   standAt Z.atName
   let(f,first)<-holding [ov] (getMethod ov m pl)
   callWith T f first (backTo T (VT [] X.env)) (backToKw T (keywordEach [] X.env))):=by rfl):
  PE X (.Call (.Attribute o m Z) [] [] T) (vK C m sp A E U kQ):=by
 intro b s i H Q I h;show aaq (pl:=pl) (cR (y b s i H _ I h) λu J a=>?_) r;let(x,L,g,j,a,K,fs,w,G,l,q):=a;subst w;obtain rfl:u=Vh.ref a:=j;show uG g G c hm l ?_;show PySem.W.callWith_K0 (first:=[.ref a]) g.kIn hm.kp (BX (us:=[.ref a]) (vs:=[.ref a]) F v z hd n g (.cons W .nil) q)
structure Mk(K:Ld)(C f:I):Prop where
 makes:ab8 K C=P
 init:V3 K (.ref C) "__init__"=R (R (.ref f))
 fn:Yw K (.ref f)=P
 kp:W7 K (.ref C)=P
def Je(M:Mk X.K C f)(F:FnOk X.prog X.w X.K X.mg X.base Y k f fd ps sp)(q:XN (k+1) X.A)(z:Binds X.K fd ps ds)(hd:Vals A ds)
  (n:eR Y X E) (I:Inv X pins σ H s) (r:Vals vs us)
  (h:∀x c,H x=Vg->H c=Vg->c≠x->sp (.ref x::(vs++A)) (bE (bE H c (.own x)) x (.ins C c [])) (λv d=>v=.Xo/\Q (.ref x) d) E):
  wpAny (model X.prog X.w) X.A (call (.ref C) us) (EP X pins σ Q) X.xe s:=by
 let i:=h (s.heap.objs.size+1) s.heap.objs.size (I.WT.fresh (aa4 _)) (I.WT.fresh (Vy _)) (VW (YK _));let b:=Inv.made (C:=C) I;let g:Vals (V.ref (s.heap.objs.size+1)::(vs++A)) (Vh.ref (s.heap.objs.size+1)::(us++ds)):=.cons W (r.append hd);let y:(Vh.ref (s.heap.objs.size+1)::us++ds).length=ps.length:=by let e:=g.length;rw[F.len _ _ _ _ i]at e;show e.symm
 show aah (Hc I.kIn M.makes M.init (beq_iff_eq.mp M.fn) (ZY (F.run _ X.stack _ _ #[Vh.ref (s.heap.objs.size+1)::us,[]] (Vh.ref (s.heap.objs.size+1)::(us++ds)) _ _ E (q.make C us [])
  (b.ag6.make C us []) (z _ (Vh.ref (s.heap.objs.size+1)::us) b.kIn y) g i) λr j a=>?_))
 cases r with
 |error e=>show n pins σ _ _ e j b a
 |ok B=>
  cases B with
  |ret u=>let(v,J,G,w,ev,l):=b.after a;subst ev;show#[w,#[V.ref (s.heap.objs.size+1),J,G,W,l]]
  |next=>show False.elim a
  |brk=>show False.elim a
  |cont=>show False.elim a
def L6(M:Mk X.K C f)(F:FnOk X.prog X.w X.K X.mg X.base Y k f fd ps sp)(n:XN (k+1) X.A)(u:Gl X x)(hm:X.mg x=R (.ref C))(y:Binds X.K fd ps ds)(hd:Vals A ds)(l:eR Y X E)
  (c:PA X (e::es) t) (g:(x==("__debug__":Str))=Vq:=by decide) (v:VT (e::es) X.env=(Vq,eval e X.env)::VT es X.env:=by rfl) (b:(backTo T (VT es X.env)).any (·.1)=Vq:=by rfl):
  PE X (.Call (.Name x p) (e::es) [] T) (zj C sp A E t):=by
 intro a s j H Q I h;show Xw (iH I u hm ?_ g);show aa3 I.ok.mod.kin M.kp (cR (c T a s j H _ I h) λz B #[w,G,i,r,q]=>#[i.kIn,?_]) v b;show Je M F n y hd l i r q
end
def PK(X:Cx)(f:G aa5)(t:TA):Prop:=
 ∀(e:Pos) (a:G (I×Obj)) (s:Vp) (b:St) (H:Hp) (Q:G V->Hp->Prop),Inv X a b H s->t b H Q->wpAny (model X.prog X.w) X.A (evalAll ((backToKw e (keywordEach f X.env)).map (·.2))) (AP X a b Q) X.xe s
section
variable{X:Cx}{U:uP}{k:Nat}{f C:Vm}{fd:WA}{ps ks:bg Str}{sp:Sp}{E:XK}{x m:Str}{p pos apos T:Pos}{e o:WB}{es:bg WB}{Z:bg aa5}{te ta:TE}{t Y:TA}{nm:br Str}
theorem Qg:PK X [] kQ:=λ_ _ _ _ H Q I h=>wpAny_evalAll_nil #[[],H,I,.nil,h]
def Mg(c:PE X e te)(q:PK X Z t):PK X (#[nm,e,T]::Z) (fU te t):=by intro pos a s b H Q I h;show wpAny_evalAll_cons (Vf (cR (c a s b H _ I h) λu g #[x,y,v,j,n]=>Vf (XQ (Vt ?_))));show cR (q pos a g b y _ v n) λz A #[xs,w,r,i,l]=>#[x::xs,w,r,.cons j i,l]
structure adz(K:Ld)(fd:WA)(ps ks:G Str)(g:G B->G B->G B)(gV:G V->G V->G V):Prop where
 to:∀(s:Vp) (us ws:G B),K.In s.heap->(g us ws).length=ps.length->aat s fd #[us,ks.zip ws] (ps.zip (g us ws))
 rel:∀{vs:G V} {us:G B} {zs:G V} {ws:G B},Vals vs us->Vals zs ws->Vals (gV vs zs) (g us ws)
def BP(sp:Sp)(g:G V->G V->G V)(E:XK)(t Y:TA):TE:=λa H Q=>t a H λj i=>Y a i λb h=>sp (g j b) h Q E
variable{g:bg Vh->bg Vh->bg Vh}{T:bg V->bg V->bg V}
def LQ(F:FnOk X.prog X.w X.K X.mg X.base U k f fd ps sp)(q:XN k X.A)(i:adz X.K fd ps ks g T)(n:eR U X E)
  (I:Inv X pins σ H s) (r:Vals J us) (l:Vals zs ws) (h:sp (T J zs) H Q E):wpAny (model X.prog X.w) X.A (call (.ref f) us (ks.zip ws)) (EP X pins σ Q) X.xe s:=by
 let b:=i.rel r l;let v:(g us ws).length=ps.length:=by rw[<-b.length];show F.len _ _ _ _ h
 show aah (ZY (F.run X.A X.stack s H #[us,ks.zip ws] (g us ws) (T J zs) Q E q I.ag6 (i.to s us ws I.kIn v) b h) λr j a=>?_);cases r with
 |error e=>show n pins σ H s e j I a
 |ok y=>
  cases y with
  |ret u=>show I.after a
  |next=>show False.elim a
  |brk=>show False.elim a
  |cont=>show False.elim a
def GV(F:FnOk X.prog X.w X.K X.mg X.base U k f fd ps sp)(J:XN k X.A)(M:Gl X x)(hm:X.mg x=lD (.ref f))(L:W7 X.K (.ref f)=Vi)(O:adz X.K fd ps ks g T)(G:eR U X E)
  (c:PA X (e::es) t) (i:PK X Z Y) (n:(backToKw pos (keywordEach Z X.env)).all (·.1.isSome)=Vi:=by rfl) (j:(backToKw pos (keywordEach Z X.env)).filterMap (·.1)=ks:=by rfl)
  (l:(x==("__debug__":Str))=Vq:=by decide) (N:VT (e::es) X.env=(Vq,eval e X.env)::VT es X.env:=by rfl)
  (b:((backTo pos (VT (e::es) X.env)).any (·.1)||(backToKw pos (keywordEach Z X.env)).any (·.1.isNone))=Vq:=by rfl):
  PE X (.Call (.Name x p) (e::es) Z pos) (BP sp T E t Y):=by
 intro a s u H Q I h;show Xw (iH I M hm ?_ l);show PySem.W.callWith_KW (h₀:=X.base) I.ok.mod.kin L n (cR (c pos a s u H _ I h) λus y a=>?_) b N;let(vs,K,A,r,q):=a;show cR (i pos a y u K _ A q) λws s2 #[S,H2,v,z,w]=>#[v.kIn,?_];rw[j];show LQ F J O G v r z w
end
structure XX(N P:G Str)(sc:YT):Prop where
 kind:sc.kind=.function
 co:sc.isCoroutine=Vq
 gen:sc.isGenerator=Vq
 nd:N.Nodup
 pre:N.take P.length=P
 par:∀x∈P,sc.names.lookup x=R .local\/sc.names.lookup x=R .cell
 ah7:∀y∈sc.names,y.2≠.free
theorem vP{a:Str->br V8}:∀{binds:G (Str×B)} {m:Str->br B},(∀v,(x,v)∉binds)->bindL a binds m x=m x
 |[],_,_=>rfl
 |(n,v)::r,m,h=>by
  ext bindL;rw[vP λw b=>h w (Vr _ b)];split
  .let:x≠n:=by rintro rfl;show h v Vn
   simp[this]
  .rfl
theorem vO{a:Str->br V8}:∀{binds:G (Str×B)} {m:Str->br B},(∀v,(x,v)∉binds)->bindC a binds m x=m x
 |[],_,_=>rfl
 |(n,v)::r,m,h=>by
  ext bindC;rw[vO λw b=>h w (Vr _ b)];split
  .rfl
  .let:x≠n:=by rintro rfl;show h v Vn
   simp[this]
theorem vq{kindOf:Str->br V8}:∀{a:G Str} {b:G B} {i:Nat} {m:Str->br B},a.Nodup->a[i]?=R x->b[i]?=R v->kindOf x=R .local->
  bindL kindOf (a.zip b) m x=R v
 |[],_,_,_,_,h,_,_=>by simp at h
 |_::_,[],_,_,_,_,h,_=>by simp at h
 |p::a,w::b,0,m,nd,h1,e,f=>by simp at h1 e;subst h1;subst e;show bindL kindOf ((p,w)::a.zip b) m p=_;ext bindL;rw[vP λv g=>(Wj.mp nd).1 (ZE g).1,ag f];simp
 |p::a,w::b,i+1,m,nd,h1,e,f=>by ext bindL;show vq (Wj.mp nd).2 (by simpa using h1) (by simpa using e) f
theorem vv{kindOf:Str->br V8}:∀{a:G Str} {b:G B} {i:Nat} {m:Str->br B},a.Nodup->a[i]?=R x->b[i]?=R v->kindOf x≠R .local->
  bindC kindOf (a.zip b) m x=R v
 |[],_,_,_,_,h,_,_=>by simp at h
 |_::_,[],_,_,_,_,h,_=>by simp at h
 |p::a,w::b,0,m,nd,h1,e,f=>by simp at h1 e;subst h1;subst e;show bindC kindOf ((p,w)::a.zip b) m p=_;ext bindC;rw[vO λv g=>(Wj.mp nd).1 (ZE g).1,av f];simp
 |p::a,w::b,i+1,m,nd,h1,e,f=>by ext bindC;show vv (Wj.mp nd).2 (by simpa using h1) (by simpa using e) f
def start(N:G Str)(a:G V):St:=a.map R++Vw (N.length - a.length) M
def eB(i:uP)(P:VV)(w:Wh)(K:Ld)(c:Str->br B)(base:Heap)(N:G Str)(b:Str)(a:YT)(f:I)(h:B)(A:V7)(outer:G Env)(s:Vp)(H:Hp)(E:XK):Cx where
 prog:=P
 w:=w
 K:=K
 mg:=c
 base:=base
 A:=A.deeper (envOfC b a s.heap.objs.size f h)
 N:=N
 s₀:=s
 H₀:=H
 env:=envOfC b a s.heap.objs.size f h
 outer:=outer
 stack:=envOfC b a s.heap.objs.size f h::outer
 ex:=[]
 calm:=Vi
 fn:=λ_=>Vi
 pn:=[]
 xe:=λe j=>wpAny (model P w) (A.deeper (envOfC b a s.heap.objs.size f h)) (leaving (envOfC b a s.heap.objs.size f h) e) (λ_ g=>i outer H s E e g) (λl g=>i outer H s E l g) j
def yW{a:YT}(h:a.names.lookup x=R .cell):∃c,(XU n a.names []).lookup x=R c:=by let q:=Y1 a.names n [] (.inl h);show acY.mp q
def ES{K:Ld}
  (S:XX N ps scope) (hd:A.handled=M) (e0:Env0 J w K mg base A outer s H) (G:U.length=ps.length) (r:Vals U us)
  (x:InCallC s s.heap.objs.size (bindL (envOfC qual scope s.heap.objs.size f cd).kindOf (ps.zip us) λ_=>M) (XU (s.heap.objs.size+1) scope.names []) (bindC (envOfC qual scope s.heap.objs.size f cd).kindOf (ps.zip us) λ_=>M) s1):
  Inv (eB CX J w K mg base N qual scope f cd A outer s H E) [] (start N U) H s1:=by
 let C:ps.length<=N.length:=by let:=eH Zu S.pre;rw[Xg]at this;ext
 let(o,F,rfl,B):=x.done;let j:∀b:Vm,b∉(eB CX J w K mg base N qual scope f cd A outer s H E).ex:=λb z=>a6 (show b∈([]:bg Vm)from z) (by simp);show#[#[e0.mod,S.kind,W,W,Vy _,λy z c o g=>?_,λy l=>?_,λy c _ h=>?_,λ_=>hd,V7.frames_deeper e0.frames,.inr #[W,W],λb z=>a6 z (j b),e0.bs,e0.bsz,λb _ _=>j b,λb z=>a6 z (j b),e0.abh,e0.frf],
  W,e0.bare,Un.kept B,#[_,x.toInCall.ns,λi y v o g I=>?_],λy c h=>#[_,x.cell y c h],e0.WT.fresh (Vy _),λy c h=>?_,λp n=>a6 (show p∈([]:bg (Vm×Obj))from n) (by simp),e0.WT.kept B,?_]
 .show name_of_addr x.apart (Xz o) (Xz g)
 .let l:=l
  rcases l with l|l
  .show yW l
  .show a6 W (S.ah7 _ (Xz l))
 .show Zg (x.above y c (Xz h))
 .let L:i<U.length:=by
   unfold start at g;by_cases L:i<U.length
   .show L
   .rw[V5 (by simpa using L)]at g;rw[Xx]at g;split at g<;>ext g
  let Q:U[i]?=R v:=by
   unfold start at g;rw[VN (by simpa using L),Vx]at g;cases e:U[i]? with
   |none=>rw[e]at g;ext g
   |some a=>rw[e]at g;ext g;rfl
  let(u,t,O):=r.get Q;let n:ps[i]?=R y:=by rw[<-S.pre,List.getElem?_take_of_lt ()];show o
  let m:ps.Nodup:=by rw[<-S.pre];show S.nd.sublist (List.take_sublist _ _)
  show#[u,O,?_];rcases S.par y (VQ n)with k|k
  .show .inl #[k,vq m n t k]
  .let(c,e):=yW k;show .inr #[.inl k,c,e,?_];let q:=x.cell y c e;rw[vv m n t (by show scope.names.lookup y≠_;rw[k];decide)]at q;show q
 .show e0.WT.fresh (Zg (x.above y c (Xz h)))
 .ext start;show _=N.length;rw[Vs,Vj,Wb];ext
def Io{m:uP}{P:VV}{w:Wh}{K:Ld}{l:Str->br B}{base:Heap}{k:Nat}{f:Vm}{name qual:Str}{params:Arguments}{body:G XM}{scope:YT}{dV kV doc pm g ct T:B}{an F:br Vm}
  {z:Array (br B)} {N j:G Str} {sp:Sp} (U:K.lookup f=R #[T,F,.func (W3 name qual params body scope dV kV doc pm an g ct),z]) (D:ZG K g qual=Vi) (S:XX N j scope)
  (len:∀c H Q E,sp c H Q E->c.length=j.length)
  (YN:∀(A:V7) (outer:G Env) (s:Vp) (H:Hp) (c:G V) (Q:VK) (E:XK),XN k (A.deeper (envOfC qual scope s.heap.objs.size f g))->sp c H Q E->
   ∃t,PSs (eB m P w K l base N qual scope f g A outer s H E) body t/\t {nx:=λ_ d=>Q .Xo d,rt:=Q} (start N c) H):
  FnOk P w K l base m (k+1) f (W3 name qual params body scope dV kV doc pm an g ct) j sp:=by
 show#[len,λA outer s H args us c Q E L e0 hb r i=>?_];let hl:=len _ _ _ _ i;let O:K.In s.heap:=e0.mod.kin.keeps λb o e=>(e0.bs b o e).1;let lim:s.heap.NoLimit:=e0.mod.nolimit.keeps λb o e=>(e0.bs b o e).1;let Zq:∀y∈j.zip us,scope.names.lookup y.1=R .local\/(scope.names.lookup y.1=R .cell/\((XU (s.heap.objs.size+1) scope.names []).lookup y.1).isSome=Vi):=λ#[n,v] X=>by
  rcases S.par n (ZE X).1 with q|q
  .show .inl q
  .show .inr #[q,Y1 _ _ _ (.inl q)]
 show codeAny_call_function L.depth (O _ _ U) W S.co S.gen W (PySem.W.codeRec_of O D) (hb _ _ _ _ ?_);show wpAny_newFunctionEnv_cells S.kind Zq λenv he s1 x=>?_;subst he;show#[lim.keeps x.toInCall.keep,codeAny_func ?_];let(t,Y,Z):=YN A outer s H c Q E (L.deeper _) i;let I:Inv (eB m P w K l base N qual scope f g A outer s H E) [] (start N c) H s1:=ES S L.hd e0 hl r x;show wpAny_mono (Y [] s1 (start N c) H _ I Z) (λfl p h=>?_) λe p h=>h
 let fin:∀{a:St} {d:Hp} {v:V} {u:B},Inv (eB m P w K l base N qual scope f g A outer s H E) [] a d p->RelV v u->Q v d->CE outer P w H s Q u p:=
  λ{a d v u} J C q=>#[v,d,J.os,J.bare,J.base,J.WT,C,q]
 cases fl with
 |ret u=>let(v,a,d,J,C,q):=h;show fin J C q
 |next=>let(a,d,J,q):=h;show fin (v:=V.Xo) (u:=Vh.none) J W q
 |brk=>let(_,_,_,q):=h;show False.elim q
 |cont=>let(_,_,_,q):=h;show False.elim q
section
variable{X:Cx}{x:Str}{p Z:Pos}{e:WB}{Y:bg WB}{t:TA}{U T:String}{r:bg V->Hp->VK->Prop}
def Gb(r:G V->Hp->VK->Prop)(t:TA):TE:=λa H Q=>t a H λf b=>r f b Q
def bt(u:YG X (.builtin U) r)(o:Gl X x)(hm:X.mg x=M)(n:WC x=R (.builtin U))(d:PA X (e::Y) t)(c:x≠ "__name__":=by decide)(f:(x==("__debug__":Str))=Vq:=by decide)
  (q:VT (e::Y) X.env=(Vq,eval e X.env)::VT Y X.env:=by rfl) (b:(backTo Z (VT Y X.env)).any (·.1)=Vq:=by rfl):PE X (.Call (.Name x p) (e::Y) [] Z) (Gb r t):=by
 intro a s g H Q I h;show Xw (mn I o hm n ?_ c f);show akF (cR (d Z a s g H _ I h) λi j #[y,w,v,l,m]=>u a j g w y i Q v l m) q b
def di(u:YG X (.type T) r)(o:Gl X x)(hm:X.mg x=M)(n:WC x=R (.type T))(d:PA X (e::Y) t)(c:x≠ "__name__":=by decide)(f:(x==("__debug__":Str))=Vq:=by decide)
  (q:VT (e::Y) X.env=(Vq,eval e X.env)::VT Y X.env:=by rfl) (b:(backTo Z (VT Y X.env)).any (·.1)=Vq:=by rfl):PE X (.Call (.Name x p) (e::Y) [] Z) (Gb r t):=by
 intro a s g H Q I h;show Xw (mn I o hm n ?_ c f);show Xu (cR (d Z a s g H _ I h) λi j #[y,w,v,l,m]=>u a j g w y i Q v l m) q b
end
end L2
namespace HT
open PySem PyProof.Rows
section
open PySem.SeqAt
open PySem.AutoSeq1 (wpAny_loadPart')
open PySem.MeetsSeq PySem.MeetsSeq2 PySem.MeetsSeq3
end
section
variable{Z:VV}{w:Wh}{A:V7}{E:Vh->Vp->Prop}{s:Vp}
def cat_tup{t b:I}{c ws:G Vh}{Q:Vh->Vp->Prop}(v:IsTup s.heap t c.toArray)(y:IsTup s.heap b ws.toArray)(q:c≠[])
  (B:ws=[]->Q (.ref t) s) (z:ws≠[]->Q (.ref s.heap.objs.size) {s with heap:=s.heap.push {cls:=.type "tuple",data:=.seq (c++ws).toArray}})
  (d:c.length+ws.length<=VF):wpAny (model Z w) A (XI .Add (.ref t) (.ref b)) Q E s:=by
 let((cls,dd,data,o),l,u,n,r):=id v;let((C,i,m,f),a,h,p,g):=id y;simp only at u r h g;subst u r h g;let e:c.toArray++ws.toArray=(c++ws).toArray:=by simp
 by_cases j:ws=[]
 .show concat_meets #[_,l,W] #[_,a,W] ajq anM adh acZ (acN _ _)
   (tuple_addW1 t b c.toArray ws.toArray n p dd i o f (by simpa using q) (by simp[j])) #[l,a,B j]
 .show concat_meets #[_,l,W] #[_,a,W] ajq anM adh acZ (acN _ _)
   (tuple_addW2 t b c.toArray ws.toArray n p dd i o f (by simpa using q) (by simpa using j) (by rw[VJ,VJ];show d)) #[l,a,?_]
  rw[e];show z j
def sIx(n d:Nat):br Int->Nat
 |none=>d
 |some v=>if v<0 then(v+(n:Int)).toNat else min v.toNat n
theorem sIx_none(n d:Nat):sIx n d M=d:=W
def sIx_nat(n d k:Nat):sIx n d (R (k:Int))=min k n:=by show(if(k:Int)<0 then((k:Int)+(n:Int)).toNat else min (k:Int).toNat n)=min k n;rw[av (),WM]
def Pd(n d:Nat)(hd:d<=n)(o:br Int):sIx n d o<=n:=by
 cases o with
 |none=>show hd
 |some v=>
  show(if v<0 then(v+(n:Int)).toNat else min v.toNat n)<=n;by_cases a:v<0
  .rw[ag a];ext
  .rw[av a];show acq _ _
def C2(v:Int)(n d:Nat):(if v<0 then max (v+(n:Int)) 0 else min v (n:Int))=((sIx n d (R v):Nat):Int):=by
 show(if v<0 then max (v+(n:Int)) 0 else min v (n:Int))=(((if v<0 then(v+(n:Int)).toNat else min v.toNat n):Nat):Int);by_cases a:v<0
 .simp only[ag a];ext
 .simp only[av a];ext
def BU(lo b:br Int)(n:Nat):Builtin.Slice.sliceAdjust lo b 1 (n:Int)=(((sIx n 0 lo:Nat):Int),((sIx n n b:Nat):Int)):=by
 let a:¬((1:Int)<0):=by ext
 ext Builtin.Slice.sliceAdjust;simp only[a,if_false];show Prod.ext ?_ ?_
 .cases lo with
  |none=>rfl
  |some v=>show C2 v n 0
 .cases b with
  |none=>rfl
  |some v=>show C2 v n n
def AZ(i j:Nat):Builtin.Slice.slicePlaces (i:Int) (j:Int) 1=j - i:=by
 ext Builtin.Slice.slicePlaces;let a:(1:Int)>0:=by ext
 simp only[a,if_true,Int.ediv_one];split<;>ext
def tH(p:adi v o)(h:Q o s):wpAny (model Z w) A (Builtin.Slice.slicePartIndex v) Q E s:=by
 cases p with
 |none=>show slicePart_none h
 |int i t=>show slicePart_int h
def pW{lo c:br Int}{Q:Int×Int×Nat->Vp->Prop}(f:s.heap.IsSliceOf J C o .none)(pl:adi C lo)(e:adi o c)
  (h:Q (((sIx n 0 lo:Nat):Int),1,sIx n n c - sIx n 0 lo) s):wpAny (model Z w) A (Builtin.Slice.sliceApplied (.ref J) (pure (n:Int))) Q E s:=by
 let(i,a,g,b):=id f;unfold Builtin.Slice.sliceApplied Builtin.Slice.sliceFields;show Vf (Vf (Wf a b W (Vf (Wf a b W (Vf (Wf a b W (Vt ?_)))))));show Vf (slicePart_none ?_);rw[av ()];show Vf (tH pl (Vf (tH e (Vf (Vt ?_)))));show wpAny _ _ (match Builtin.Slice.sliceAdjust lo c 1 (n:Int)with|(lo,c)=>pure (lo,(1:Int),Builtin.Slice.slicePlaces lo c 1)) _ _ s;rw[BU lo c n];show wpAny _ _ (pure (((sIx n 0 lo:Nat):Int),(1:Int),Builtin.Slice.slicePlaces ((sIx n 0 lo:Nat):Int) ((sIx n n c:Nat):Int) 1)) _ _ s;rw[AZ];show Vt h
def Iv(xs:Array B)(i k:Nat):((VO k).filterMap λ(m:Nat)=>xs[((i:Int)+(m:Int)*1).toNat]?).toArray=((xs.toList.drop i).take k).toArray:=by
 let e:(λ(m:Nat)=>xs[((i:Int)+(m:Int)*1).toNat]?)=λm=>xs[i+m]? :=by
  funext m;let:((i:Int)+(m:Int)*1).toNat=i+m:=by ext
  rw[this]
 rw[e];let:=pick_run xs i k;rw[List.filterMap_map]at this;let a:((λx=>xs[x]?)∘λx=>i+x)=λm=>xs[i+m]? :=W;rw[a]at this;rw[this]
def getItem_tuple_cut{lo c:br Int}(b:IsTup s.heap t items)(j:s.heap.IsSliceOf C U J .none)(pl:adi U lo)(l:adi J c)
  (n:¬(sIx items.size 0 lo=0/\sIx items.size items.size c=items.size))
  (h:Q (.ref s.heap.objs.size) {s with heap:=s.heap.push {cls:=.type "tuple",data:=.seq ((items.toList.drop (sIx items.size 0 lo)).take (sIx items.size items.size c - sIx items.size 0 lo)).toArray}})
  (d:items.size<=VF):wpAny (model Z w) A (getItem (.ref t) (.ref C)) Q E s:=by
 let a:sizeOk (.seq ((items.toList.drop (sIx items.size 0 lo)).take (sIx items.size items.size c - sIx items.size 0 lo)).toArray):=by show((items.toList.drop (sIx items.size 0 lo)).take (sIx items.size items.size c - sIx items.size 0 lo)).toArray.size<=VF;rw[VJ,Xg,agI,Wz];ext
 let u:sIx items.size items.size c<=items.size:=Pd _ _ (Vy _) c;let(m,e,g,o):=id j;let i:s.TypeIs (.ref C) "slice":=#[m,e,g];ext getItem
 try specialize Xy ?_
 first|show Vf (Vt ?_)|skip
 show Vf (wpAny_sequenceKey b.typeIs () ?_);show Vf (Yk b.typeIs YV
  (Yl YV b.typeIs entry_tuple_getitem ?_ (args_tuple_getitem _ _)))
 show wpAny _ _ (Builtin.Tuple.tupleItemsOf (.ref t)>>=_) _ _ s;show Vf (tupleItemsOf_ b ?_);show Vf (aa6 i ?_);rw[ag ()];show Vf (pW j pl l ?_);let f:¬((((sIx items.size 0 lo:Nat):Int)==0&&(1:Int)==1&&(sIx items.size items.size c - sIx items.size 0 lo)==items.size)=P):=by intro q;rw[VZ,VZ]at q;let r:=eq_of_beq q.1.1;let p:=eq_of_beq q.2;show n #[by ext,by ext]
 show wpAny _ _ (if(((sIx items.size 0 lo:Nat):Int)==0&&(1:Int)==1&&(sIx items.size items.size c - sIx items.size 0 lo)==items.size)=P then _ else _) _ _ s;rw[av f,Iv]
 first
  |show Vf (WN (Vt #[_,W,Vt h]) a)
  |show Vf (WN (Vf (Vt (Vt #[_,W,Vt h]))) a)
  |show Vf (Vf (WN (Vt (Vt #[_,W,Vt h])) a))
  |show Vf (Vf (WN (Vt #[_,W,Vt h]) a))
end
end HT
namespace L2
open PySem PySem.Spec PyProof.Rows
abbrev TO:=St->Hp->(br Int->Hp->Prop)->Prop
def PO(X:Cx)(e:br WB)(t:TO):Prop:=
 ∀(a:G (I×Obj)) (s:Vp) (b:St) (H:Hp) (Q:br Int->Hp->Prop),Inv X a b H s->t b H Q->
  wpAny (model X.prog X.w) X.A (evalPart e X.env) (λu f=>∃o g,Inv X a b g f/\adi u o/\Q o g) X.xe s
def DF:TO:=λ_ H Q=>Q M H
def OO(t:TE):TO:=λa H Q=>t a H λx b=>∃i,x=.int i/\Q (R i) b
def n9:∀{us:G B},Vals (ns.map V.int) us->IntsAre us ns:=by
 induction ns with
 |nil=>intro us r;rw[Zb]at r;ext r;show .nil
 |cons n ns f=>
  intro us r;rw[VP]at r;cases r with
  |cons b a=>let(t,e):=b;subst e;show .cons n t (f a)
section
variable{X:Cx}{e:WB}{U:TE}{Z Y:br WB}{S R:TO}{pos P:Pos}
def C9:PO X M DF:=by intro a s b H Q I h;rw[anN];show Vt #[M,H,I,.none,h]
def DA(h:PE X e U):PO X (lD e) (OO U):=by intro a s b H Q I j;rw[evalPart_some];show cR (h a s b H _ I j) λu n a=>?_;let(x,m,l,f,g):=a;let(i,rfl,q):=g;let(t,rfl):=f;show#[lD i,m,l,.int i t,q]
def Ts(X:Cx)(r:V->br Int->br Int->Hp->VK->Prop):Prop:=
 ∀(a:G (I×Obj)) (s:Vp) (b:St) (H:Hp) (x:V) (v g f:B) (Z Y:br Int) (h:I) (Q:VK),Inv X a b H s->RelV x v->s.heap.IsSliceOf h g f .none->adi g Z->adi f Y->r x Z Y H Q->
  ∃T id,typeLookup (.type T) "__getitem__"=pure (lD (.builtin id))/\s.TypeIs v T/\wpAny (model X.prog X.w) X.A (getItem v (.ref h)) (EP X a b Q) X.xe s
def UU(r:V->br Int->br Int->Hp->VK->Prop)(U:TE)(S R:TO):TE:=λa H Q=>U a H λx g=>S a g λl f=>R a f λu b=>r x l u b Q
def Ap{r:V->br Int->br Int->Hp->VK->Prop}(F:Ts X r)(K:PE X e U)(G:PO X Z S)(C:PO X Y R):PE X (.Subscript e (.Slice Z Y Vg P) pos) (UU r U S R):=by intro a s g H Q I h;show Subscript_ (cR (K a s g H _ I h) λv o a=>?_);let(x,H1,A,p,z):=a;show wpAny_Slice (cR (G a o g H1 _ A z) λj n #[l,H2,O,pl,y]=>cR (C a n g H2 _ O y) λi f a=>?_);let(u,m,N,w,t):=a;rw[anN];show Vt ?_;let M:Inv X a g m {f with heap:=f.heap.push {cls:=.type "slice",data:=.fields #v[j,i,.none]}}:=N.kept (t':=f.toks) λb ob q=>bP _ q;let(T,id,L,E,J):=F a {f with heap:=f.heap.push {cls:=.type "slice",data:=.fields #v[j,i,.none]}} g m x v j i l u f.heap.objs.size Q M p (Heap.IsSliceOf.new ..) pl w t;show wpAny (model X.prog X.w) X.A (subscriptTail e (.Slice Z Y Vg P) v (.ref f.heap.objs.size)) (EP X a g Q) X.xe {f with heap:=f.heap.push {cls:=.type "slice",data:=.fields #v[j,i,.none]}};show tail_any (ops:=[.ref f.heap.objs.size,v]) E L J (by with_unfolding_all rfl)
def F7(xs:G V)(Z Y:br Int):G V:=(xs.drop (HT.sIx xs.length 0 Z)).take (HT.sIx xs.length xs.length Y - HT.sIx xs.length 0 Z)
def qY(xs:G V)(Z Y:br Int):(F7 xs Z Y).length<=xs.length:=by ext F7;rw[Xg,agI];ext
def ST(K:Ld):V->br Int->br Int->Hp->VK->Prop:=λx Z Y H Q=>∃a xs,x=.ref a/\SqT K H a xs/\
 ¬(HT.sIx xs.length 0 Z=0/\HT.sIx xs.length xs.length Y=xs.length)/\∀p,H p=M->Q (.ref p) (bE H p (.tup (F7 xs Z Y)))
def Q4:Ts X (ST X.K):=by
 intro g s u H x v y w Z Y z Q I l p pl m h;let(a,xs,rfl,n,o,q):=h;ext l;let(t,r,j,i):=I.tuple n;let f:t.toArray.size=xs.length:=by rw[VJ];show r.length.symm
 show#["tuple",_,YV.lookup,j.typeIs,?_];show HT.getItem_tuple_cut j p pl m (by rw[f];show o) ?_ (by rw[f];show i);rw[f];show#[.ref s.heap.objs.size,_,I.laid (λb A q=>bP _ q) (Vy _) ?_,W,q _ (I.WT.fresh (Vy _))];show#[Wk (qY xs Z Y) i,_,(r.drop (HT.sIx xs.length 0 Z)).take (HT.sIx xs.length xs.length Y - HT.sIx xs.length 0 Z),acg.new _ _]
def OA(K:Ld):R2:=λx y H Q=>∃a b xs ys,x=.ref a/\y=.ref b/\SqT K H a xs/\SqT K H b ys/\xs≠[]/\xs.length+ys.length<=VF/\
 (ys=[]->Q (.ref a) H)/\(ys≠[]->∀p,H p=M->Q (.ref p) (bE H p (.tup (xs++ys))))
def Vals.ado(r:Vals xs us):us=[]↔xs=[]:=by
 cases r with
 |nil=>simp
 |cons _ _=>simp
def NP:OpR X (XI .Add) (OA X.K):=by intro i s B H x y v u Q I m l h;let(a,b,xs,C,rfl,rfl,J,t,r,j,o,n):=h;ext m;ext l;let(F,g,p,_):=I.tuple J;let(A,f,P,_):=I.tuple t;show HT.cat_tup p P (λz=>r (g.ado.mp z)) (λz=>#[.ref a,H,I,W,o (f.ado.mp z)]) (λz=>?_) (by rw[<-g.length,<-f.length];show j);show#[.ref s.heap.objs.size,_,I.laid (λb E q=>bP _ q) (Vy _) ?_,W,n (λw=>z (f.ado.mpr w)) _ (I.WT.fresh (Vy _))];show#[by rw[Vs];show j,_,g.append f,acg.new _ _]
end
def Od(n:Nat)(i:Int):br Nat:=if 0<=i then(if i<n then R i.toNat else M)else if -(n:Int)<=i then R (i+n).toNat else M
def nj(xs:G α)(i:Int):br α:=(Od xs.length i).bind λj=>xs[j]?
def NN(h:Od n i=R j):seqIndex? i n=R j/\j<n/\ -(n:Int)<=i/\i<n:=by
 unfold Od at h;by_cases b:0<=i
 .rw[ag b]at h
  by_cases a:i<n
  .rw[ag a]at h;let e:=VR h;show#[by rw[seqIndex_of b a,e],by ext,by ext,a]
  .rw[av a]at h;ext h
 .rw[av b]at h
  by_cases a: -(n:Int)<=i
  .rw[ag a]at h;let e:=VR h;show#[by rw[seqIndex_neg () a,e],by ext,a,by ext]
  .rw[av a]at h;ext h
def xl(h:nj xs i=R v):∃j,seqIndex? i xs.length=R j/\xs[j]?=R v/\j<xs.length/\ -(xs.length:Int)<=i/\i<xs.length:=by
 unfold nj at h;cases e:Od xs.length i with
 |none=>rw[e]at h;ext h
 |some j=>rw[e]at h;let(g,f,b,a):=NN e;show#[j,g,h,f,b,a]
def CO{j:Nat}(h:xs[j]?=R v):nj xs (j:Int)=R v:=by
 let a:=(Vk.mp h).1;let e:Od xs.length (j:Int)=R j:=by ext Od;rw[ag (),ag ()];simp
 ext nj;rw[e];show h
def MF(b:WB):Prop:=∀o i,subscripted b Vq o i=operate [o,i] (getItem o i)
def IxR(X:Cx)(r:R2):Prop:=
 ∀(e a:WB) (b:G (I×Obj)) (s:Vp) (f:St) (H:Hp) (x y:V) (v u:B) (Q:VK),Inv X b f H s->RelV x v->RelV y u->r x y H Q->
  subscripted a Vq v u=operate [v,u] (getItem v u)->wpAny (model X.prog X.w) X.A (subscriptTail e a v u) (EP X b f Q) X.xe s
def Sb(X:Cx)(f:String)(r:V->G V->Hp->VK->Prop):Prop:=
 ∀(a:G (I×Obj)) (s:Vp) (b:St) (H:Hp) (x:V) (xs:G V) (v:B) (e:G B) (Q:VK),Inv X a b H s->RelV x v->Vals xs e->r x xs H Q->
  wpAny (model X.prog X.w) X.A (call (.builtin f) (v::e)) (EP X a b Q) X.xe s
section
variable{X:Cx}{a b:WB}{ta tb:TE}{pos:Pos}
def IxR.or(h:IxR X r)(c:IxR X r'):IxR X (λx y H Q=>r x y H Q\/r' x y H Q):=by
 intro e f g s i H x y v u Q I l j q m;rcases q with q|q
 .show h e f g s i H x y v u Q I l j q m
 .show c e f g s i H x y v u Q I l j q m
def cI{r:R2}(m:IxR X r)(c:PE X a ta)(n:PE X b tb)(l:MF b):PE X (.Subscript a b pos) (OZ r ta tb):=by intro e s f H Q I h;show Subscript_ (Qj c n I h λv u g x y p o j i q=>m a b e g f p x y v u Q o j i q (l _ _))
def SX(K:Ld):R2:=λx y H Q=>∃p xs i v,x=.ref p/\y=.int i/\SqL K H p xs/\nj xs i=R v/\Q v H
def Td(K:Ld):R2:=λx y H Q=>∃p xs i v,x=.ref p/\y=.int i/\SqT K H p xs/\nj xs i=R v/\Q v H
def SN:R2:=λx y H Q=>∃z i c,x=.str z/\y=.int i/\z.length<=VF/\nj z.cps.toList i=R c/\Q (.str #[#v[c]]) H
def Mv:IxR X (SX X.K):=by
 intro l m e s E H x y v u Q I G F h A;let(p,xs,i,z,rfl,rfl,J,M,q):=h;ext G;let(t,rfl):=F;let(R,r,pl,S):=I.list J;let(j,g,P,T,O,N):=xl M;let(w,C,n):=r.get P;let L:=r.length;let K:=wC;let f:EP X e E Q w s:=#[z,H,I,n,q];by_cases B:0<=i
 .let o:i.toNat=j:=by
   rw[seqIndex_of B N]at g;show VR g
  show item_listR pl.isList B () (by rw[o];simpa using C) f A
 .let o:(i+(R.toArray.size:Int)).toNat=j:=by
   rw[seqIndex_neg () O]at g;rw[VJ,<-L];show VR g
  show subscriptTail_builtinR pl.isList.typeIs aiN.lookup
   (wpAny_getItem_list_neg pl.isList () (by rw[VJ]<;>ext) () (by rw[o];simpa using C) #[W,f]) A
def Pu:IxR X (Td X.K):=by
 intro f g e s n H x y v u Q I A o h B;let(p,xs,i,z,rfl,rfl,C,F,q):=h;ext A;let(t,rfl):=o;let(R,r,pl,M):=I.tuple C;let(j,J,G,P,O,N):=xl F;let(w,L,l):=r.get G;let E:=r.length;let K:=wC;let m:EP X e n Q w s:=#[z,H,I,l,q];show subscriptTail_builtinR pl.typeIs slot_tuple_getitem.lookup
  (getItem_tuple pl () () (by rw[VJ,<-E];show J) (by simpa using L) #[W,m]) B
def Qd:IxR X SN:=by
 intro e f g s F H x y v u Q I n m h o;let(z,i,c,rfl,rfl,J,r,q):=h;let(t,rfl):=n;let(G,rfl):=m;let(j,l,B,K,A,w):=xl r;let p:z.cps.toList.length=z.length:=by simp[Str.length]
 rw[p]at l A w;let L:=wC;show tail_any (typeIs_str s z t) slot_str_getitem.lookup (getItem_str (by let E:decide (i< -(2^63:Int))=Vq:=aP ();let C:decide (i≥2^63)=Vq:=aP ();rw[E,C,adF]) (by rw[l];simpa using B) #[.str #[#v[c]],H,I.tok _,#[_,W],q]) o
def Tz(K:Ld):R2:=λx y H Q=>SX K x y H Q\/Td K x y H Q\/SN x y H Q
theorem bK:IxR X (Tz X.K):=Mv.or (Pu.or Qd)
def wZ(lo c:br Int)(n:Nat):(sliceBounds lo c M n).1=((HT.sIx n 0 lo:Nat):Int)/\(sliceBounds lo c M n).2.1=((HT.sIx n n c:Nat):Int)/\(sliceBounds lo c M n).2.2=1:=by
 show#[?_,?_,W]
 .cases lo with
  |none=>simp[sliceBounds,HT.sIx]
  |some i=>
   simp only[sliceBounds,HT.sIx,afL,show(1:Int)>0 by decide,if_true];by_cases h:i<0
   .simp only[h,if_true]<;>ext
   .simp only[h,if_false]<;>ext
 .cases c with
  |none=>simp[sliceBounds,HT.sIx]
  |some i=>
   simp only[sliceBounds,HT.sIx,afL,show(1:Int)>0 by decide,if_true];by_cases h:i<0
   .simp only[h,if_true]<;>ext
   .simp only[h,if_false]<;>ext
def vi(e:G B)(lo c:br Int):slicePick e.toArray lo c M=((e.drop (HT.sIx e.length 0 lo)).take (HT.sIx e.length e.length c - HT.sIx e.length 0 lo)).toArray:=by let(h,g,f):=wZ lo c e.toArray.size;ext slicePick;rw[h,g,f];simp only[sliceRange_one,pick_run,VJ]<;>rfl
def Tb(K:Ld):V->br Int->br Int->Hp->VK->Prop:=λx lo e H Q=>∃a xs,x=.ref a/\SqL K H a xs/\∀p,H p=M->Q (.ref p) (bE H p (.lst (F7 xs lo e)))
def MP:Ts X (Tb X.K):=by intro f s o H x v t p lo A u Q I i n pl j h;let(a,xs,rfl,m,q):=h;ext i;let(y,r,g,l):=I.list m;let e:=r.length;show#["list",_,aiN.lookup,g.isList.typeIs,?_];show wpAny_getItem_list_slice g.isList n pl j .none (by simp) ?_ (by rw[VJ]<;>ext);rw[vi,<-e];show#[.ref s.heap.objs.size,_,I.laid (λb w q=>bP _ q) (Vy _) ?_,W,q _ (I.WT.fresh (Vy _))];show#[Wk (qY xs lo A) l,_,0,(r.drop (HT.sIx xs.length 0 lo)).take (HT.sIx xs.length xs.length A - HT.sIx xs.length 0 lo),cx _ W]
def YG.or(h:YG X f r)(c:YG X f r'):YG X f (λxs H Q=>r xs H Q\/r' xs H Q):=by
 intro e s g H xs i Q I j q;rcases q with q|q
 .show h e s g H xs i Q I j q
 .show c e s g H xs i Q I j q
def xi:YG X (.type "list") (λxs H Q=>∃p ys,xs=[.ref p]/\(SqL X.K H p ys\/SqT X.K H p ys)/\∀l,H l=M->Q (.ref l) (bE H l (.lst ys))):=by
 intro m s F H xs J Q I r h;let(p,ys,rfl,y,q):=h;let(u,rfl,G):=kY r;ext G
 let A:∀(g:bg Vh),Vals ys g->ys.length<=VF->∀(f:Heap) (j:Nat),(∀b w,s.heap.get? b=R w->f.get? b=R w)->
   f.get? s.heap.objs.size=R {cls:=.type "list",dict:=M,data:=.seq g.toArray j,slots:= #v[]}->EP X m F Q (.ref s.heap.objs.size) {s with heap:=f}:=λg i v f j t e=>
  #[.ref s.heap.objs.size,_,I.laid t (Vy _) (show ObjOk X.prog X.w _ f _ (.lst ys)from#[v,g,j,i,e]),W,q _ (I.WT.fresh (Vy _))]
 rcases y with y|y
 .let(g,i,pl,v):=I.list y;let z:=i.length;let(o,B,E,n,C):=pl.isList;show anO p (.inl W) B E C (λf j t e=>A g i v f j t e) (by simp only[VJ]<;>ext)
 .let(g,i,pl,v):=I.tuple y;let z:=i.length;let(o,B,E,n,C):=pl;show anO p (.inr W) B E C (λf j t e=>A g i v f j t e) (by simp only[VJ]<;>ext)
def cL:YG X (.type "tuple") (λxs H Q=>∃p ys,xs=[.ref p]/\((SqL X.K H p ys/\∀l,H l=M->Q (.ref l) (bE H l (.tup ys)))\/(SqT X.K H p ys/\Q (.ref p) H))):=by
 intro i s B H xs C Q I r h;let(p,ys,rfl,h):=h;let(u,rfl,v):=kY r;ext v;rcases h with⟨g,q⟩|⟨g,q⟩
 .let(n,f,pl,j):=I.list g
  let m:=f.length;show call_tuple_list pl.isList (λz y=>?_) (by simp only[VJ]<;>ext);let t:=I.kept (t':=s.toks) y
  let A:=
   t.laid (t':=s.toks) (λb o e=>bP _ e) (Vy _) (show ObjOk X.prog X.w _ _ _ (.tup ys)from#[j,n,f,acg.new _ _])
  show#[.ref z.objs.size,_,A,W,q _ (t.WT.fresh (Vy _))]
 .let(n,f,pl,j):=I.tuple g;show call_tuple_same pl #[.ref p,H,I,W,q]
def TZ(K:Ld)(T:String)(x:V)(H:Hp):Prop:=match x with
 |.str _=>T= "str"
 |.int _=>T= "int"
 |.ref p=>(T= "list"/\∃xs,SqL K H p xs)\/(T= "tuple"/\∃o,K.lookup p=R o/\o.cls=.type "tuple"/\o.dict=M)\/
   (T= "dict"/\((∃e,H p=R (.dK e))\/∃e,H p=R (.dT e)))\/(T= "set"/\∃S n,H p=R (.set S n))
 |_=>False
def Hb(I:Inv X pins σ H s)(r:RelV x v)(ty:TZ X.K T x H):
  s.TypeIs v T/\∀a,v=.ref a->∃d,s.heap.get? a=R d/\d.dict=M:=by
 cases x with
 |str z=>let(t,rfl):=r;cases(show T= "str" from ty);show#[typeIs_str s z t,λ_ e=>nomatch e]
 |int i=>let(t,rfl):=r;cases(show T= "int" from ty);show#[acs s i t,λ_ e=>nomatch e]
 |ref p=>
  ext r;rcases ty with⟨rfl,xs,l⟩|⟨rfl,o,f,m,h⟩|⟨rfl,f⟩|⟨rfl,S,n,f⟩
  .let(q,_,pl,_):=I.list l;show#[pl.isList.typeIs,λa e=>?_];ext e;let(o,n,e,c,h,_):=pl;show#[o,e,h]
  .show#[#[o,I.kIn p o f,m],λa e=>?_];ext e;show#[o,I.kIn _ o f,h]
  .let z:∃o,s.heap.get? p=R o/\o.ExactDict:=by
    rcases f with⟨u,f⟩|⟨u,f⟩
    .let(_,_,_,_,o,_,_,e,g,_):=I.WT p _ f;show#[o,e,g]
    .let(_,_,_,_,o,_,_,e,g,_):=I.WT p _ f;show#[o,e,g]
   let(o,e,g):=z;show#[#[o,e,g.1],λa j=>?_];ext j;show#[o,e,g.2.1]
  .let(o,_,_,_,e,g,_):=I.WT p _ f;show#[#[o,e,g.1],λa j=>?_];ext j;show#[o,e,g.2.1]
 |_=>show False.elim ty
def Tf(K:Ld)(T:String)(r:V->G V->Hp->VK->Prop)(to:TE):TE:=λf H Q=>to f H λx e=>TZ K T x e/\r x [] e Q
def SR(K:Ld)(T:String)(r:V->G V->Hp->VK->Prop)(to:TE)(t:TA):TE:=λe H Q=>to e H λx f=>TZ K T x f/\t e f λxs g=>r x xs g Q
variable{o e:WB}{es:bg WB}{to:TE}{t:TA}{S:Str}{Z Y:Pos}{T U:String}{r:V->bg V->Hp->VK->Prop}
def IH(c:PlainAttrs T)(slot:Slot T S U)(g:typeOf (.builtin U)=pure (.type "method_descriptor"))(hm:Sb X U r)(u:PE X o to)
  (j:attributeBase o S X.env (eval o X.env)=eval o X.env:=by rfl) (i:(Z.endLine==Y.line)=P:=by rfl):PE X (.Call (.Attribute o S Z) [] [] Y) (Tf X.K T r to):=by
 intro f s l H Q I h;show wpAny_Call_method0_late j i (cR (u f s l H _ I h) λv p a=>?_);let(x,z,n,m,ty,q):=a;let(y,w):=Hb n m ty;show#[T,U,c,slot,g,y,w,Calls.callWith_builtin W (PySem.evalArgs_none (hm f p l z x [] v [] Q n m .nil q))]
def rp(c:PlainAttrs T)(slot:Slot T S U)(i:typeOf (.builtin U)=pure (.type "method_descriptor"))(hm:Sb X U r)(F:PE X o to)(d:PA X (e::es) t)
  (n:attributeBase o S X.env (eval o X.env)=eval o X.env:=by rfl)
  (j:((backTo Y (VT (e::es) X.env)).all (λx=> !x.1)&&(backToKw Y (keywordEach [] X.env)).all (λx=>x.1.isSome)
   &&decide ((e::es).length+([]:bg aa5).length+(if([]:bg aa5).isEmpty then 0 else 1)<30))=P:=by rfl)
  (l:(Z.endLine==Y.line)=P:=by rfl) (E:VT (e::es) X.env=(Vq,eval e X.env)::VT es X.env:=by rfl) (m:(backTo Y (VT es X.env)).any (·.1)=Vq:=by rfl):
  PE X (.Call (.Attribute o S Z) (e::es) [] Y) (SR X.K T r to t):=by
 intro f s g H Q I h;show wpAny_Call_method_late n j l W (cR (F f s g H _ I h) λv z a=>?_);let(x,N,u,p,ty,C):=a;let(J,G):=Hb u p ty;show#[T,U,c,slot,i,J,G,?_];let q:=d Y f z g N _ u C;rw[E]at q⊢;show Calls.callWith_builtin (by show(Vq||(backTo Y (VT es X.env)).any (·.1))=Vq;rw[m]<;>rfl) (Calls.evalArgs_plain ?_);show cR q λw y #[vs,O,L,A,K]=>hm f y g O x vs v w Q L p A K
end
def UW(X:Cx)(f:String)(r:V->G V->Hp->VK->Prop):Prop:=
 ∀(a:G (I×Obj)) (s:Vp) (b:St) (H:Hp) (x:V) (xs:G V) (v:B) (e:G B) (Q:VK),Inv X a b H s->RelV x v->Vals xs e->r x xs H Q->
  wpAny (model X.prog X.w) X.A (call (.builtin f) (v::e)) (EP X a b Q) X.xe s
theorem Vals.one:∀{x:V} {us:G B},Vals [x] us->∃u,us=[u]/\RelV x u
 |_,_,.cons r .nil=>#[_,W,r]
theorem Vals.eraseIdx:∀{xs:G V} {us:G B} (i:Nat),Vals xs us->Vals (xs.eraseIdx i) (us.eraseIdx i)
 |_,_,_,.nil=>.nil
 |_,_,0,.cons _ t=>t
 |_,_,i+1,.cons r t=>.cons r (Vals.eraseIdx i t)
theorem Vals.rep(h:Vals xs us):∀k:Nat,Vals (Vw k xs).flatten (Vw k us).flatten
 |0=>.nil
 |k+1=>by rw[WK,WK,X5,X5];show Vals.append h (Vals.rep h k)
theorem vT:∀(l:G α) (i:Nat),(l.eraseIdx i).length<=l.length
 |[],_=>Vy _
 |_::_,0=>aa4 _
 |_::r,i+1=>Nat.succ_le_succ (vT r i)
theorem pR(b:G B):∀(k:Nat) (a:G B),
  aau (λd c=>d++c) a.toArray (Vw k b.toArray)=(a++(Vw k b).flatten).toArray
 |0,a=>by simp
 |k+1,a=>by
  let e:a.toArray++b.toArray=(a++b).toArray:=by simp
  let f:(a++b)++(Vw k b).flatten=a++(Vw (k+1) b).flatten:=by rw[WK,X5,Wc]
  rw[<-f,<-pR b k (a++b),<-e,WK,aax]
section
variable{X:Cx}{Z:bg (Vm×Obj)}{Y:St}{H:Hp}{s:Vp}{l b:Vm}{T U S:bg V}
def Inv.ajW{g a:G B}(I:Inv X Z Y H s)(o:H l=R (.lst T))
  (e:s.heap.get? l=R {cls:=.type "list",data:=.seq g.toArray n}) (j:f g.toArray=a.toArray) (h:Vals U a) (c:U.length<=VF):
  Inv X Z Y (bE H l (.lst U)) {s with heap:=s.heap.update l (Obj.mapSeq f),toks:=t'}:=by
 let q:=ao0 e f;rw[j]at q;show I.write (by rw[o];show trivial) (.inl W) (λp u m i=>(da s.heap (Obj.mapSeq f) (ej m)).trans i) #[_,q] ?_;show#[c,a,_,h,q]
theorem Inv.ajQ(I:Inv X Z Y H s)(a:Vals U Wr)(c:U.length<=VF):
  Inv X Z Y (bE H s.heap.objs.size (.lst U)) {s with heap:=s.heap.push {cls:=.type "list",data:=.seq Wr.toArray},toks:=t'}:=
 I.laid (λ_ _ q=>bP _ q) (Vy _) #[c,Wr,0,a,cx _ W]
theorem Inv.fresh(I:Inv X Z Y H s):H s.heap.objs.size=M:=I.WT.fresh (Vy _)
def Inv.aiu(I:Inv X Z Y H s)(f:H l=R (.lst T)):T.length<=VF/\∃(a:G B) (n:Nat),Vals T a/\T.length=a.length/\s.heap.get? l=R {cls:=.type "list",data:=.seq a.toArray n}:=by let(z,a,n,r,e):=I.WT l _ f;show#[z,a,n,r,r.length,e]
def GN(h:n<=VF):Builtin.List.listTooLong n=Vq:=by ext Builtin.List.listTooLong;show aP ()
end
section
variable{X:Cx}
def xQ:V->G V->Hp->VK->Prop:=λx a H Q=>∃l xs y,x=.ref l/\a=[y]/\H l=R (.lst xs)/\xs.length<VF/\Q .Xo (bE H l (.lst (xs++[y])))
def iU:UW X "list.append" xQ:=by intro a s j H x w v m Q I f t h;let(l,xs,y,rfl,rfl,b,o,q):=h;ext f;let(u,rfl,g):=t.one;let(z,i,n,r,p,e):=I.aiu b;show Zi F.slot_list_append #[_,e,W] F.entry_list_append (F.args_list_append_2 _ _) (PySem.list_append l i.toArray n u (by rw[VJ];ext)) #[e,?_];show#[.Xo,_,I.ajW b e (by simp) (r.append (.cons g .nil)) ?_,W,q];rw[Vs,Zp];ext
def JU:V->G V->Hp->VK->Prop:=λx a H Q=>∃l xs i k y,x=.ref l/\a=[.int i]/\H l=R (.lst xs)/\ -(2^63)<=i/\i<2^63/\seqIndex? i xs.length=R k/\xs[k]?=R y/\Q y (bE H l (.lst (xs.eraseIdx k)))
def Ar:UW X "list.pop" JU:=by
 intro f s G H x L v J Q I j K h;let(l,xs,i,k,y,rfl,rfl,g,E,C,B,o,q):=h;ext j;let(u,rfl,m):=K.one;let(t,rfl):=m;let(z,b,n,r,A,e):=I.aiu g;let(w,p,a):=r.get o;show Zi F.slot_list_pop #[_,e,W] F.entry_list_pop (F.args_list_pop_2 _ _)
  (MeetsSeq.list_pop_at l b.toArray n i t k w (alF E C) (by rw[VJ,<-A];show B) (by rw[<-XJ];show p) (by rw[VJ];ext)) #[e,?_]
 show#[y,_,I.ajW g e ?_ (r.eraseIdx k) ?_,a,q]
 .show b.toArray.eraseIdxIfInBounds k=(b.eraseIdx k).toArray;rw[List.eraseIdxIfInBounds_toArray]
 .let:=vT xs k;ext
def Eo(xs:G α)(k:Nat):(Vw k xs).flatten.length=k*xs.length:=by
 induction k with
 |zero=>simp
 |succ k a=>rw[WK,X5,Vs,a,ajr,aca]
end
section
variable{Z:VV}{w:Wh}{A:V7}{E:Vh->Vp->Prop}{s:Vp}
set_option maxRecDepth 100000 in
end
end L2
namespace Att
open PySem PySem.W PySem.Calls PyProof.Rows
def rF:∀(e:G Int) (c:G B),WellAll g h c (e.map WData.int)->IntsAre c e:=by
 intro e
 induction e with
 |nil=>intro c w;rw[Zb]at w;ext w;show .nil
 |cons n e f=>
  intro c w;rw[VP]at w;cases w with
  |cons a b=>ext a;show .cons _ _ (f _ b)
def EL{l:OpenLaw}(k:l.most=R n)
  (e:l.row.toRowW.claim.pre args=Vi) (i:WellAll A h vals args):
  ∃a c ns,vals=[Vh.ref a]/\args=[WData.list (ns.map WData.int)]/\h.get? a=R {cls:=.type "list",data:=.seq c.toArray}/\IntsAre c ns/\ns.length<=n:=by
 let j:=(pre_splitW e).1;let o:l.pre.holds [] {args:=args}=Vi:=(pre_splitW e).2;let(d,r,rfl,z,y):=hasAllW_cons j;obtain rfl:=hasAllW_nil y;let(xs,rfl,w):=hasW_list z;let(ns,rfl):=items_int w;let b:ns.length<=n:=by
  unfold OpenLaw.pre at o;let g:(WTm.not (.lt (.lit (.int (n:Int))) (.len (.arg 0)))).holds [] {args:=[.list (ns.map .int)]}=Vi:=by let g:=(holds_andW o).1;rw[k]at g;show g
  let f:=condW_of g (w_not (w_lt w_lit (w_len_list (w_arg W))));rw[Vj]at f;show Nat.le_of_not_lt λq=>?_;let u:(n:Int)<((ns.length:Nat):Int):=by ext
  first
   |(rw[ax u]at f;show a6 f ())
   |(simp at f;ext)
 cases i with
 |cons t p=>
  ext p;cases t with
  |list v m=>show#[_,_,ns,W,W,v,rF ns _ m,b]
theorem Gj(l:OpenLaw)(args:G WData):l.row.toRowW.claim.post args (.bool P) args=P:=
 postW_of
  (show WShape.has [] (.bool P) .bool=P by first|rfl|decide|simp[WShape.has,WShape.arms,WShape.armsAll])
  (show(WTm.eq .res (.lit (.bool P))).value [] {args:=args,res:=R (.bool P),after:=args}=R (.bool (P==P))from w_eq_bool (w_res W) w_lit) W
def attach_call{l:OpenLaw}{n:Nat}{q:VV}{e:bg Str}{I:(Str->br Vh)->Heap->Prop}{H:Wh->Heap->Prop}{d:DefRec}
  (U:l.most=lD n) (y:d.params.defaults=[])
  (call:∀(w:Wh) (c b:Vp) (D t:Str->br Vh) (s:Vm) (o:Obj) (p m h:Vh) (a:Vm) (k:bg Vh) (j:bg Int),
   Ground q e [] I w c D t b.heap->H w b.heap->
   b.heap.get? s=lD o->o.data=.func (docDef d.name d.params d.body d.scope p m h)->b.heap.CodeRec m d.name->D d.name=lD (.ref s)->
   b.heap.get? a=lD {cls:=.type "list",data:=.seq k.toArray}->IntsAre k j->j.length<=n->b.gens= #v[]->
   codeAny (model l.prog w) callerA (.call (.ref s) #[[.ref a],[]]) (λr x=>r=.ok (.ret (.bool Vi))/\OldK b.heap x.heap/\x.os=b.os/\AllBare x.gens) b):
  WalkO q e I H l.row.toRowW d [] (λf k=>ajs f k):=by
 intro w c b D t G Y s o p m h dV kV L O z E v N F C T B S J u M;obtain rfl:dV=.none:=Dflts.none E y;obtain rfl:kV=.none:=Dflts.noKw E;let(a,k,j,rfl,rfl,A,g,i):=EL U B u;show enter_call (ZY (call w c b D t s o p m h a k j G Y L (fd_plain O) z v A g i N) λr x K=>?_);let(rfl,R,Q,P):=K;show#[.inl #[.bool Vi,.bool Vi,[],W,λ_=>W,.bool Vi,Gj l _,λ_=>#[aay,λ_ hm=>(nomatch hm)]],R,Q,P]
end Att
namespace L2
open PySem PySem.Spec PyProof.Rows
theorem kg:∀{b:G B} {a:G Int},IntsAre b a->Vals (a.map V.int) b
 |_,_,.nil=>.nil
 |_,_,.cons n t h=>.cons #[t,W] (kg h)
def Ta(H:Hp):Prop:=∀b,H b=M\/∃o xs,H b=R (.frz o (.lst xs))
def HH{P:VV}{w:Wh}{K:Ld}{mg G:Str->br Vh}{Z:uP}{k:Nat}{fa a:Vm}{fd:WA}{x:Str}{sp:Sp}{f:Vp}{D:bg Vh}{p:bg Int}
  (Y:K.In f.heap) (t:f.heap.Ns VD mg) (g:f.heap.Ns builtinsNs G) (J:∀x:Str,x≠ "__name__"->G x=WC x) (Q:f.heap.NoLimit) (hg:f.gens= #v[])
  (ha:f.heap.get? a=lD {cls:=.type "list",data:=.seq D.toArray}) (hi:IntsAre D p) (S:p.length<=VF) (hr:XN k callerA)
  (F:∀base:Heap,K.In base->base.Ns VD mg->FnOk P w K mg base Z k fa fd [x] sp) (R:∀(s:Vp) (u:Vh),aat s fd #[[u],[]] [(x,u)])
  (I:∀H:Hp,Ta H->SqL K H a (p.map V.int)->sp [.ref a] H (λv _=>v=.bl Vi) λ_ _ _=>False)
  (L:∀H e c,Z [] H f (λ_ _ _=>False) e c->False):
  codeAny (model P w) callerA (.call (.ref fa) #[[.ref a],[]]) (λr c=>r=.ok (.ret (.bool Vi))/\OldK f.heap c.heap/\c.os=f.os/\AllBare c.gens) f:=by
 let rv:=kg hi;let N:=hi.length
 let j:∀H:Hp,Ta H->SqL K H a (p.map V.int)->HOk P w H f.heap->(∀b,H b≠Vg->b=a)->(H a≠Vg->K.lookup a=Vg)->
   codeAny (model P w) callerA (.call (.ref fa) #[[.ref a],[]]) (λr c=>r=.ok (.ret (.bool Vi))/\OldK f.heap c.heap/\c.os=f.os/\AllBare c.gens) f:=by
  intro H T hS WT U hK;let C:∀{b:Vm} {o:Obj},f.heap.get? b=lD o->H b=Vg->(ym f.heap H).get? b=lD o:=λe n=>JO e n;let E:∀{b:Vm} {o:Obj} {es:Array Zm} {A:Nat},f.heap.get? b=lD o->o.data=.dict es A->H b=Vg:=λ{b o es A} e d=>by
   cases q:H b with
   |none=>rfl
   |some u=>let M:b=a:=U b (by rw[q];simp);subst M;rw[ha]at e;ext e;let d':Data.seq D.toArray _=Data.dict es A:=d;ext d'
  let i:∀{b:Vm} {m:Str->br Vh},f.heap.Ns b m->(ym f.heap H).Ns b m:=λ{b m} #[o,es,A,e,d,r]=>#[o,es,A,C e (E e d),d,r];let y:K.In (ym f.heap H):=λb o e=>C (Y b o e) (by
   cases q:H b with
   |none=>rfl
   |some u=>let M:b=a:=U b (by rw[q];simp);subst M;rw[hK (by rw[q];simp)]at e;ext e)
  let hM:Mod K mg (ym f.heap H):=#[y,i t,#[G,i g,J],let#[mc,h1,h2]:=Q;#[mc,i h1,h2]];let e0:Env0 P w K mg (ym f.heap H) callerA [] f H:=#[W,hM,λb o e=>LK e,ab9 (Fg _ _),trivial,λb g=>a6 (show b∈([]:bg Vm)from g) (by simp),WT,.of_eq hg];show ZY ((F _ y (i t)).run callerA [] f H #[[.ref a],[]] [.ref a] [.ref a] _ _ hr e0 (R f (.ref a)) (.cons W .nil) (I H T hS)) λr c h=>?_;cases r with
  |error e=>show(L H e c h).elim
  |ok fl=>
   cases fl with
   |next=>show False.elim h
   |brk=>show False.elim h
   |cont=>show False.elim h
   |ret u=>
    let(v,H',os,B,un,O,r',q):=h;let q':v=.bl Vi:=q;subst q';obtain rfl:u=Vh.bool Vi:=r';show#[W,OldK.of_keep λb o e=>?_,os,B];cases q:H b with
    |none=>show un.keep b o e q (by intro z;show a6 (show b∈([]:bg Vm)from z) (by simp)) (by simp)
    |some u=>
     rcases T b with z|⟨ob,xs,z⟩
     .rw[q]at z;ext z
     .let z2:=un.abc b ob _ z;let(X,_):=WT b _ z;let(e2,_):=O b _ z2;rw[e]at X;ext X;show e2
 cases hk:K.lookup a with
 |some o=>let e:=Y a o hk;rw[ha]at e;ext e;show j (λ_=>Vg) (λ_=>.inl W) (.inr #[_,D.toArray,_,hk,W,W,W,by rw[VJ,N];show S,by simpa using rv]) (λb u z=>by let l:(Vg:br HO)=lD u:=z;ext l) (λb z=>a6 W z) λz=>a6 W z
 |none=>
  show j (λb=>if b=a then lD (.frz {cls:=.type "list",data:=.seq D.toArray} (.lst (p.map V.int)))else Vg) (λb=>?_) (.inl (.inr #[{cls:=.type "list",data:=.seq D.toArray},ag W])) (λb u z=>?_) (λb z=>?_) λ_=>hk
  .by_cases g:b=a
   .show .inr #[_,_,ag g]
   .show .inl (av g)
  .by_cases g:b=a
   .let l:=(ag g).symm.trans z;ext l;subst g;show#[ha,by rw[Vj];show S,D,_,rv,ha]
   .let l:=(av g).symm.trans z;ext l
  .by_cases g:b=a
   .show g
   .show a6 (av g) z
def bu(s:XM)(j:Nat):XM:=match s with
 |.ClassDef _ _ _ body _ _ _ _ _ _ _=>body.getD j (.Pass #[0,0,0,0])
 |_=>.Pass #[0,0,0,0]
def fK(s:XM):Arguments:=match s with
 |.FunctionDef _ a _ _ _ _ _ _ _ _=>a
 |_=>{posonlyargs:=[],args:=[],vararg:=M,kwonlyargs:=[],kw_defaults:=[],kwarg:=M,defaults:=[]}
def cw(s:XM):G XM:=match s with
 |.FunctionDef _ _ b _ _ _ _ _ _ _=>b
 |_=>[]
def aH(s:XM):YT:=match s with
 |.FunctionDef _ _ _ _ _ _ sc _ _ _=>sc
 |_=>{kind:=.function,names:=[],isGenerator:=Vq,isCoroutine:=Vq}
abbrev dX:uP:=λ_ _ _ _ _ _=>False
abbrev E0:XK:=λ_ _ _=>False
theorem CP:eR dX X E0:=λ_ _ _ _ _ _ _ h=>h.elim
structure YZ(K:Ld)(x qual:Str)(st:XM)(f:I)(fd:WA):Prop where
 ex:∃(oc:B) (od:br I) (kV doc pm:B) (an:br I) (W6 ct:B) (osl:Array (br B)),
  fd=W3 x qual (fK st) (cw st) (aH st) .none kV doc pm an W6 ct/\K.lookup f=R #[oc,od,.func fd,osl]/\ZG K W6 qual=P
 kp:W7 K (.ref f)=P
section
variable{P:VV}{w:Wh}{K:Ld}{Z:Str->br Vh}{base:Heap}
def YZ.ok{x a:Str}{b:XM}{f:I}{fd:WA}{N d:G Str}{k:Nat}{sp:Sp}(F:YZ K x a b f fd)(S:XX N d (aH b))(len:∀c H Q E,sp c H Q E->c.length=d.length)
  (o:∀(e:B) (A:V7) (outer:G Env) (s:Vp) (H:Hp) (c:G V) (Q:VK) (E:XK),XN k (A.deeper (envOfC a (aH b) s.heap.objs.size f e))->sp c H Q E->
   ∃t,PSs (eB dX P w K Z base N a (aH b) f e A outer s H E).nox (cw b) t/\t {nx:=λ_ y=>Q .Xo y,rt:=Q} (start N c) H):FnOk P w K Z base dX (k+1) f fd d sp:=by
 let(u,r,kV,n,p,v,e,ct,j,rfl,l,i):=F.ex;show Io l i S len λA outer s H c Q E m g=>?_;let(t,h,q):=o e A outer s H c Q E m g;show#[t,h.nox,q]
def YZ.binds{x a:Str}{e:XM}{f:I}{fd:WA}{ps:G Str}(F:YZ K x a e f fd)
  (h:∀(kV b g:B) (i:br I) (j ct:B) (us:G B),us.length=ps.length->bindArgs (W3 x a (fK e) (cw e) (aH e) .none kV b g i j ct) #[us,[]]=pure (ps.zip us)):Binds K fd ps []:=by
 let(o,n,kV,b,g,i,j,ct,l,rfl,p,m):=F.ex;show .all (h kV b g i j ct)
theorem Gy{a:XM}{kV b g e ct:B}(l:K.lookup f=R #[J,C,.func (W3 x qual (fK a) (cw a) (aH a) .none kV b g an e ct),o])
  (c:ZG K e qual=Vi) (k:W7 K (.ref f)=Vi):YZ K x qual a f (W3 x qual (fK a) (cw a) (aH a) .none kV b g an e ct):=#[#[J,C,kV,b,g,an,e,ct,o,W,l,c],k]
end
theorem DJ(a:XN k A):A.units+1<cLine:=abT (Nat.add_le_add_left (by decide:1<=64) _) a.units
section
variable{X:Cx}
theorem pv(i:Nat)(e:X.N[i]?=R x:=by rfl)(b:TJ X.env.scope x:=by first|show a7 W|show bb (a7 W)|show bb (bb W))(hd:(x==("__debug__":Str))=Vq:=by decide)
  (a:(x==("__classdict__":Str))=Vq:=by decide):PE X (.Name x pos) (qG i):=Rr e b hd a
end
def Xl(H a:Hp):Prop:=∀b o,H b=R o->a b=R o
theorem Xl.refl(H:Hp):Xl H H:=λ_ _ h=>h
theorem Xl.trans(a:Xl H H1)(b:Xl H1 H2):Xl H H2:=λc o h=>b c o (a c o h)
def Xl.free(e:Xl H H')(h:H' l=M):H l=M:=by
 cases q:H l with
 |none=>rfl
 |some o=>rw[e l o q]at h;ext h
end L2
set_option maxHeartbeats 4000000
namespace L2
open PySem PySem.Spec PyProof.Rows
section
variable{X:Cx}{Z:bg (Vm×Obj)}{U:St}{H:Hp}{s:Vp}{Y:Heap}
def Inv.aeX{ch:G Vm}(I:Inv X Z U H s)(i:∀b∈ch,pH X Z H b)
  (k:∀b u,b∉ch->s.heap.get? b=R u->Y.get? b=R u) (l:s.heap.objs.size<=p)
  (new:ObjOk X.prog X.w (bE H p o) Y p o):Inv X Z U (bE H p o) {s with heap:=Y,toks:=t'}:=by
 let w:=I.WT.fresh l;let f:∀b u,H b=R u->b∉ch:=λb u e z=>by rw[(i b z).1]at e;ext e
 let h:∀b u,s.heap.get? b=R u->b≠p:=λb u e=>VW (VS (cv e) l);show I.step (λb g=>?_) (λb u _ _ a e _=>k b u a e) (λb u _ _ a e _=>#[u.slots,k b u a e])
  (λb u _ e n=>by rw[aG (h b u e)];show n) (λb u a e=>#[u,k b u a e]) (λb xs e=>by rw[aG (cG e w)];show e)
  (λb u xs e=>by rw[aG (cG e w)];show e) (λb K e=>#[#v[],by rw[aG (cG e w),e];simp]) (λm hm=>?_) (λb u e=>?_) I.bare
 .let(_,C,_,B,A,y):=i b g;show#[B,C,A,y]
 .let(j,J,E,t,r):=hm;show#[j,J,E,k _ j (λz=>(i _ z).2.1 W) t,r]
 .by_cases g:b=p
  .subst g;rw[aJ]at e;ext e;show new
  .rw[aG g]at e
   show(I.WT b u e).ZL (λc v a q=>k c v ?_ q) (λc q=>by rw[aG (cG q w)];show q) λc xs q=>by rw[aG (cG q w)];show q
   rcases a with z|z
   .rw[z];show f b u e
   .show f c _ z
end
mutual
inductive DV(K:Ld)(H:Hp):V->Vo->Prop
 |Xo:DV K H .Xo .none
 |bl (b:Bool):DV K H (.bl b) (.bool b)
 |int (i:Int):DV K H (.int i) (.int i)
 |str (x:Str):DV K H (.str x) (.str x)
 |tup {a:Vm} {xs:bg V} {ds:bg Vo}:SqT K H a xs->Xn K H xs ds->DV K H (.ref a) (.tuple ds)
 |lst {a:Vm} {xs:bg V} {ds:bg Vo}:SqL K H a xs->Xn K H xs ds->DV K H (.ref a) (.list ds)
inductive Xn(K:Ld)(H:Hp):bg V->bg Vo->Prop
 |nil:Xn K H [] []
 |cons {v:V} {vs:bg V} {d:Vo} {ds:bg Vo}:DV K H v d->Xn K H vs ds->Xn K H (v::vs) (d::ds)
end
section
variable{X:Cx}{Z:bg (Vm×Obj)}{σ:St}{H:Hp}{s:Vp}
mutual
theorem DV.reads(I:Inv X Z σ H s):∀{v:V} {d:Vo} {u:Vh},DV X.K H v d->RelV v u->∃as,agU s.heap u d as
 |_,_,_,.Xo,r=>by cases r;exact⟨_,.none⟩
 |_,_,_,.bl b,r=>by cases r;exact⟨_,.bool b⟩
 |_,_,_,.int i,r=>by obtain⟨t,rfl⟩:=r;exact⟨_,.int i t⟩
 |_,_,_,.str x,r=>by obtain⟨t,rfl⟩:=r;exact⟨_,.str x t⟩
 |_,_,_,.tup h hs,r=>by cases r;obtain⟨a,rv,⟨o,e,c,n,d⟩,_⟩:=I.tuple h;obtain⟨as,q⟩:=Xn.reads I hs rv;exact⟨_,.tuple e c d (by simpa using q)⟩
 |_,_,_,.lst h hs,r=>by cases r;obtain⟨a,rv,⟨o,n,e,c,_,d⟩,_⟩:=I.list h;obtain⟨as,q⟩:=Xn.reads I hs rv;exact⟨_,.list e c d (by simpa using q)⟩
theorem Xn.reads(I:Inv X Z σ H s):∀{vs:bg V} {ds:bg Vo} {us:bg Vh},Xn X.K H vs ds->Vals vs us->∃as,aer s.heap us ds as
 |_,_,_,.nil,r=>by cases r;exact⟨_,.nil⟩
 |_,_,_,.cons h hs,r=>by
  cases r with
  |cons b a=>obtain⟨as,q⟩:=DV.reads I h b;obtain⟨bs,e⟩:=Xn.reads I hs a;exact⟨_,.cons q e⟩
end
end
def KQ(K:Ld)(neg:Bool):R2:=λx y H Q=>∃a b,DV K H x a/\DV K H y b/\a.canLay0=P/\b.canLay0=P/\a.depth<=64/\Q (.bl (if neg then !Vo.eqv a b else Vo.eqv a b)) H
section
variable{X:Cx}
def jG(o:X.A.units+64<cLine):OpR X (XA .Eq) (KQ X.K Vq):=by intro a s n H x y v u Q I e b h;let(w,r,m,l,j,i,p,q):=h;let(t,g):=m.reads I e;let(bs,f):=l.reads I b;show alG g f j i () #[.bl _,H,I,W,q]
def Bq(o:X.A.units+64<cLine):OpR X (XA .NotEq) (KQ X.K P):=by intro a s n H x y v u Q I e b h;let(w,r,m,l,j,i,p,q):=h;let(t,g):=m.reads I e;let(bs,f):=l.reads I b;show alH g f j i () #[.bl _,H,I,W,q]
theorem Ij:OpR X (XI .FloorDiv) (rI (λ_ j=>0<j/\j.natAbs.log2<9000) λi j=>.int (i/j)):=RP λi j _ _ _ _ _ a q=>by let b:(0:Int)<j:=a.1;show floordiv_int () (by rw[adg i ()];show q) (.inl (PyProof.noPylong_of_log2 a.2))
end
def jm(env:Env):G (Str×V8)->G (Str×I)->G (Str×I)
 |[],acc=>acc
 |(n,k)::r,acc=>if(k==V8.free)=P then(match env.cells.lookup n with|some c=>jm env r ((n,c)::acc)|none=>jm env r acc)else jm env r acc
theorem oi{f:Str×V8->G (Str×I)->Sem (ForInStep (G (Str×I)))}
  (i:∀n k a,(k==V8.free)=Vq->f (n,k) a=pure (.yield a)) (g:∀n c a,env.cells.lookup n=R c->f (n,.free) a=pure (.yield ((n,c)::a))):
  ∀(names:G (Str×V8)) (a:G (Str×I)),(∀y∈names,y.2=.free->∃c,env.cells.lookup y.1=R c)->forIn names a f=pure (jm env names a)
 |[],a,_=>rfl
 |(n,k)::r,a,h=>by
  let j:=λy m=>h y (Vr _ m);rw[aaz];cases o:(k==V8.free)with
  |false=>rw[i n k a o,pure_bind];show forIn r a f=_;rw[oi i g r a j];simp only[jm,o,Yj,if_false]
  |true=>
   let e:k=.free:=by simpa using o
   subst e;let(c,l):=h _ Vn W;rw[g n c a l,pure_bind];show forIn r ((n,c)::a) f=_;rw[oi i g r _ j];let b:=l;simp only[jm,o,if_true,b]
def oa(h:∀y∈scope.names,y.2=.free->∃c,env.cells.lookup y.1=R c):closureFor scope env=pure (jm env scope.names []):=by simp only[closureFor];rw[oi (λn k a b=>by simp only[b,Yj,if_false]) (λn c a e=>by simp only[eW,if_true,cellOf,e,pure_bind]) scope.names [] h,pure_bind]
theorem lu:∀(names:G (Str×V8)) (a:G (Str×I)),(∀x c,a.lookup x=R c->env.cells.lookup x=R c)->∀x c,(jm env names a).lookup x=R c->env.cells.lookup x=R c
 |[],_,h,x,c,e=>h x c e
 |(n,k)::r,a,h,x,c,e=>by
  unfold jm at e;split at e
  .split at e
   .rename_i g b
    show lu r _ (λy d q=>?_) x c e;rw[VU]at q;split at q
    .rename_i f;ext q;rw[eq_of_beq f];show b
    .show h y d q
   .show lu r a h x c e
  .show lu r a h x c e
theorem mH:∀(names:G (Str×V8)) (a:G (Str×I)) (x:Str),(a.lookup x).isSome=P->((jm env names a).lookup x).isSome=P
 |[],_,_,h=>h
 |(n,k)::r,a,x,h=>by
  ext jm;split
  .split
   .show mH r _ x ?_
    rw[VU];split
    .rfl
    .show h
   .show mH r a x h
  .show mH r a x h
theorem oS:∀(names:G (Str×V8)) (a:G (Str×I)) (x:Str) (c:I),(x,V8.free)∈names->env.cells.lookup x=R c->((jm env names a).lookup x).isSome=P
 |[],_,_,_,h,_=>by ext h
 |(n,k)::r,a,x,c,h,b=>by
  rcases VG.mp h with z|h
  .ext z;simp only[jm,eW,if_true,b];show mH r _ _ (by simp[VU])
  .ext jm
   split
   .split
    .show oS r _ x c h b
    .show oS r a x c h b
   .show oS r a x c h b
def yK(h:(x,V8.free)∈names)(a:env.cells.lookup x=R c):(jm env names []).lookup x=R c:=by
 let q:=oS names [] x c h a;cases e:(jm env names []).lookup x with
 |none=>rw[e]at q;ext q
 |some d=>let z:=lu names [] (λy d q=>by ext q) x d e;rw[a]at z;show z.symm
def zA{env:Env}{a:YT}{x:Str}{k:V8}(h:(relabel a env).names.lookup x=R k):∃c,(x,c)∈a.names/\(k=c\/(c=.free/\k=.cell)):=by
 let((n,c),hm,e):=VX.mp (Xz h);simp only at e;split at e
 .rename_i b
  ext e;let f:(c==V8.free)=P:=by rw[VZ,VZ]at b;show b.1.1
  show#[c,hm,.inr #[by simpa using f,W]]
 .ext e;show#[_,hm,.inl W]
theorem kR{env:Env}:∀{names:G (Str×V8)} {x:Str},names.lookup x=R .free->
  (names.map λ(n,k)=>if(k==V8.free&&env.scope.kind==.function&&env.kindOf n==R .cell)then(n,V8.cell)else(n,k)).lookup x=R .cell\/
  (names.map λ(n,k)=>if(k==V8.free&&env.scope.kind==.function&&env.kindOf n==R .cell)then(n,V8.cell)else(n,k)).lookup x=R .free
 |[],_,h=>by ext h
 |(n,k)::r,x,h=>by
  rw[VU]at h;rw[VP];dsimp only;by_cases a:(k==V8.free&&env.scope.kind==.function&&env.kindOf n==R .cell)=P
  .rw[ag a,VU]
   cases b:x==n with
   |true=>show .inl W
   |false=>rw[b]at h;show kR h
  .rw[av a,VU]
   cases b:x==n with
   |true=>rw[b]at h;show .inr h
   |false=>rw[b]at h;show kR h
def fM(own:G Str)(a:G (Str×Nat)):G Str:=own++a.map (·.1)
def jO(own:G Str)(b:G (Str×Nat))(a:St):St:=own.map (λ_=>M)++b.map λp=>(a[p.2]?).join
def ad9(X:Cx)(a:YT):G (Str×Nat)->Prop
 |[]=>True
 |p::r=>(X.N[p.2]?=R p.1/\a.names.lookup p.1=R .free/\(X.env.scope.names.lookup p.1=R .cell\/X.env.scope.names.lookup p.1=R .free))/\ad9 X a r
theorem ad9.mem:∀{a:G (Str×Nat)},ad9 X scope a->∀p∈a,X.N[p.2]?=R p.1/\scope.names.lookup p.1=R .free/\(X.env.scope.names.lookup p.1=R .cell\/X.env.scope.names.lookup p.1=R .free)
 |[],_,p,b=>by ext b
 |q::r,h,p,b=>by
  rcases VG.mp b with z|b
  .rw[z];show h.1
  .show h.2.mem p b
def yn(X:Cx)(a:YT)(C:I):G (Str×I):=XU (C+1) a.names (jm X.env a.names [])
theorem uz:∀(names:G (Str×V8)) (n:Nat) (b:G (Str×I)) (x:Str) (c:I),(XU n names b).lookup x=R c->(n<=c/\(x,V8.cell)∈names)\/b.lookup x=R c
 |[],_,_,_,_,h=>.inr h
 |(y,k)::r,n,b,x,c,h=>by
  unfold XU at h;by_cases f:(k==V8.cell)=P
  .rw[ag f]at h
   let e:k=.cell:=by simpa using f
   rcases uz r _ _ x c h with⟨a,g⟩|a
   .show .inl #[aad a,Vr _ g]
   .rw[VU]at a
    split at a
    .rename_i i;ext a;show .inl #[Vy _,by rw[eq_of_beq i,e];show Vn]
    .show .inr a
  .rw[av f]at h
   rcases uz r _ _ x c h with⟨a,g⟩|a
   .show .inl #[a,Vr _ g]
   .show .inr a
theorem Jo:∀(names:G (Str×V8)) (n:Nat) (a:G (Str×I)) (x:Str),(x,V8.cell)∉names->(XU n names a).lookup x=a.lookup x
 |[],_,_,_,_=>rfl
 |(y,k)::r,n,a,x,h=>by
  let f:=λz=>h (Vr _ z);ext XU;by_cases b:(k==V8.cell)=P
  .let e:k=.cell:=by simpa using b
   rw[ag b,Jo r _ _ x f,VU];let g:(x==y)=Vq:=by show beq_eq_false_iff_ne.mpr λz=>h ?_;rw[z,e];show Vn
   rw[g]
  .rw[av b];show Jo r _ _ x f
theorem sX:∀(names:G (Str×V8)) (h:Heap) (b:G (Str×I)) (x:Str) (c:I),(XU h.objs.size names b).lookup x=R c->(h.objs.size<=c/\(pushCells h names).IsCell c M)\/b.lookup x=R c
 |[],_,_,_,_,e=>.inr e
 |(y,k)::r,h,b,x,c,e=>by
  unfold XU at e;ext pushCells;by_cases f:(k==V8.cell)=P
  .rw[ag f]at e⊢
   rw[<-dN h {cls:=.type "cell",data:=.cell M}]at e;rcases sX r _ _ x c e with⟨a,g⟩|a
   .rw[dN]at a;show .inl #[aad a,g]
   .rw[VU]at a
    split at a
    .ext a;show .inl #[Vy _,_,adR _ _ _ _ (cx _ W),W]
    .show .inr a
  .rw[av f]at e⊢;show sX r _ _ x c e
theorem BS:∀(names:G (Str×V8)) (n:Nat) (e:G (Str×I)),(∀x c,e.lookup x=R c->c<n)->(∀x y c,e.lookup x=R c->e.lookup y=R c->x=y)->∀x y c,(XU n names e).lookup x=R c->(XU n names e).lookup y=R c->x=y
 |[],_,_,_,m,x,y,c,l,j=>m x y c l j
 |(z,k)::r,n,e,h1,m,x,y,c,l,j=>by
  unfold XU at l j;by_cases h:(k==V8.cell)=P
  .rw[ag h]at l j
   show BS r (n+1) ((z,n)::e) (λa d q=>?_) (λa b d g f=>?_) x y c l j
   .rw[VU]at q
    split at q
    .ext q;show YK _
    .show aae (h1 a d q)
   .rw[VU]at g f
    split at g
    .rename_i o
     split at f
     .rename_i i;rw[eq_of_beq o,eq_of_beq i]
     .ext g;show a6 (h1 b _ f) (WW _)
    .split at f
     .ext f;show a6 (h1 a _ g) (WW _)
     .show m a b d g f
  .rw[av h]at l j;show BS r n e h1 m x y c l j
theorem Bi:∀{names:G (Str×V8)} {x:Str} {k a:V8},(names.map (·.1)).Nodup->names.lookup x=R k->(x,a)∈names->k=a
 |[],_,_,_,_,h,_=>by ext h
 |(y,j)::r,x,k,a,f,h,hm=>by
  rw[VP,Wj]at f;rw[VU]at h;rcases VG.mp hm with e|b
  .ext e;rw[eW]at h;show(VR h).symm
  .cases g:x==y with
   |true=>rw[eq_of_beq g]at b;show a6 (VX.mpr #[_,b,W]) f.1
   |false=>rw[g]at h;show Bi f.2 h b
def cX(X:Cx)(s:Vp)(H:Hp)(a:YT)(C:I)(N:G Str)(b:G I):Cx:=
 {X with N:=N,s₀:=s,H₀:=H,env:=compEnvC a (yn X a C) C X.env,outer:=X.stack,stack:=X.stack,ex:=b,fn:=λx=>((jm X.env a.names []).lookup x).isNone,pn:=[],xe:=λ_ _=>False}
section
variable{X:Cx}{Z:bg (Vm×Obj)}{Y:St}{H:Hp}{s:Vp}
def vG{a:YT}(I:Inv X Z Y H s)(e:(jm X.env a.names []).lookup x=R c):X.env.cells.lookup x=R c/\c<s.heap.objs.size:=by let h:=lu _ _ (λ_ _ q=>by ext q) x c e;let(v,o,z,_):=I.cell x c h;show#[h,cv z]
theorem D8(I:Inv X Z Y H s)(M:scope.kind=.function)(n:(scope.names.map (·.1)).Nodup)
  (v:∀y∈scope.names,y.2=.free->∃c,X.env.cells.lookup y.1=R c) (g:s.heap.objs.size<=C) (j:∀b∈U,pH X Z H b) (f:∀b∈U,b<s.heap.objs.size):(cX X s H scope C N U).Ok where
 mod:=I.ok.mod
 kind:=M
 glob:=I.ok.glob
 blt:=I.ok.blt
 above:=g
 inj:=BS _ _ _ (λx c e=>aae (VS (vG I e).2 g)) λx y c B A=>I.ok.inj x y c (vG I B).1 (vG I A).1
 has:=λx G=>by
  let m:∃k,(relabel scope X.env).names.lookup x=R k/\(k=.cell\/k=.free):=by
   rcases G with z|z
   .show#[_,z,.inl W]
   .show#[_,z,.inr W]
  let(k,K,t):=m;let(E,hm,u):=zA K;let e:E=.free\/E=.cell:=by
   rcases u with z|⟨z,_⟩
   .subst z
    rcases t with z|z
    .show .inr z
    .show .inl z
   .show .inl z
  let q:((yn X scope C).lookup x).isSome=P:=by
   rcases e with e|e
   .subst e;let(c,L):=v _ hm W;show Y1 _ _ _ (.inr (by rw[yK hm L];rfl))
   .subst e
    show Y1 _ _ _ (.inl ?_);cases z:scope.names.lookup x with
    |none=>show a6 hm (λhm=>by
      let:∀{l:bg (Str×V8)},l.lookup x=Vg->(x,V8.cell)∉l:=λ{l}=>by
       induction l with
       |nil=>show λ_=>by simp
       |cons p r F=>
        intro h q;rw[VU]at h;rcases VG.mp q with q|q
        .rw[<-q,eW]at h;ext h
        .split at h
         .ext h
         .show F h q
      show this z hm)
    |some O=>rw[Bi n z hm]
  show acY.mp q
 cab:=λx c B A=>by
  let i:((jm X.env scope.names []).lookup x).isNone=P:=B;let w:=A;rcases uz _ _ _ x c w with⟨z,_⟩|z
  .show Wk g (aad z)
  .rw[z]at i;ext i
 hd:=I.ok.hd
 frames:=I.ok.frames
 stk:=.inl W
 exf:=λb a=>#[VW (VS (f b a) g),λx c e=>by
  rcases uz _ _ _ x c e with⟨z,_⟩|z
  .show WL (VS (VS (f b a) g) (aad z))
  .show(j b a).2.2.2.2.1 x c (vG I z).1]
 bs:=I.bs
 bsz:=Wk I.ok.bsz I.sz
 adX:=λb o e a=>by
  rcases(j b a).2.2.2.1 with z|z
  .show I.ok.adX b o e z
  .show a6 (VS (cv e) (Wk I.ok.bsz z)) (WW _)
 aef:=λb a J=>by
  rcases VG.mp (I.abj b J)with z|z
  .show(j b a).2.1 z
  .show(j b a).2.2.1 z
 abh:=I.stack
 frf:=I.abH
def Iq(I:Inv X Z Y H s)(Zq:scope.kind=.function)(d:(scope.names.map (·.1)).Nodup)
  (O:∀y∈scope.names,y.2=.free->∃c,X.env.cells.lookup y.1=R c) (N:ad9 X scope J) (E:s.heap.objs.size<=D) (j:D<C) (T:s.heap.objs.size<=C) (hf:∀b∈fp,pH X Z H b) (Q:∀b∈fp,b<s.heap.objs.size)
  (L:h1.Ns C m) (F:∀x c,(yn X scope C).lookup x=R c->C<c->∃v,h1.IsCell c v) (w:∀b o,s.heap.get? b=R o->h1.get? b=R o) (hd:∃n,h1.get? D=R {cls:=.type "list",data:=.seq #v[] n}):
  Inv (cX X s H scope C (fM own J) fp) [] (jO own J Y) (bE H D (.lst [])) {s with heap:=h1,toks:=t1}:=by
 let hn:=I.WT.fresh E;let(n,hd):=hd;let S:=WL j;let h:∀x c,(yn X scope C).lookup x=R c->C<c\/(X.env.cells.lookup x=R c/\c<s.heap.objs.size):=λx c e=>by
  rcases uz _ _ _ x c e with⟨z,_⟩|z
  .show .inl z
  .show .inr (vG I z)
 show#[D8 I Zq d O T hf Q,W,I.bare,Un.laid w E hn,#[m,L,λi x v e1 e2 e3=>?_],λx c e=>?_,?_,λx c e=>?_,λp hp=>a6 (show p∈([]:G (Vm×Obj))from hp) (by simp),?_,?_]
 .
  let f:(own++J.map (·.1))[i]?=R x:=e1;let a:(own.map (λ_=>(M:br V))++J.map λp=>(Y[p.2]?).join)[i]?=R (R v):=e2;let A:own.length<=i:=by
   by_cases A:i<own.length
   .rw[VN (by simpa using A),Vx]at a
    cases q:own[i]? with
    |none=>rw[q]at a;ext a
    |some _=>rw[q]at a;ext a
   .omega
  rw[V5 A,Vx]at f;rw[V5 (by simpa using A),Vx,Vj]at a;cases q:J[i - own.length]? with
  |none=>rw[q]at f;ext f
  |some p=>
   rw[q]at f a;let ex:=VR f;subst ex;let ev:(Y[p.2]?).join=R v:=VR a;let(g1,g2,g3):=N.mem p (VQ q);let U:Y[p.2]?=R (R v):=by
    cases z:Y[p.2]? with
    |none=>rw[z]at ev;ext ev
    |some y=>rw[z]at ev;show eH R ev
   let(m0,_,hl):=I.loc;let(u,r,l):=hl p.2 p.1 v g1 U (.inr g3);show#[u,r,?_];let l2:∃c,X.env.cells.lookup p.1=R c/\s.heap.IsCell c (R u):=by
    rcases l with⟨k,_⟩|⟨_,c,e,z⟩
    .let t:X.env.scope.names.lookup p.1=R .local:=k
     rcases g3 with z|z
     .rw[z]at t;ext t
     .rw[z]at t;ext t
    .show#[c,e,z]
   let(c,e,o,K,g):=l2;show .inr #[?_,c,?_,o,w c o K,g]
   .show kR g2
   .show(yn X scope C).lookup p.1=R c;ext yn;rw[Jo _ _ _ _ λz=>by cases Bi d g2 z];show yK (Xz g2) e
 .rcases h x c e with z|⟨z,_⟩
  .show F x c e z
  .let(v,o,K,g):=I.cell x c z;show#[v,o,w c o K,g]
 .show bE H D (.lst []) C=M;rw[aG S];show I.WT.fresh T
 .show bE H D (.lst []) c=M
  rcases h x c e with z|⟨z1,z2⟩
  .rw[aG (WL (Zj j z))];show I.WT.fresh (Wk T (Zg z))
  .rw[aG (VW (VS z2 E))];show I.Y4 x c z1
 .show I.WT.laid w E #[by show 0<=VF;show Wo _,[],n,.nil,hd]
 .show(own.map (λ_=>(M:br V))++J.map λp=>(Y[p.2]?).join).length=(own++J.map (·.1)).length;simp
end
def FY(X:Cx)(e:G WB)(t:TT):Prop:=
 ∀(a:G (I×Obj)) (s:Vp) (b:St) (H:Hp) (Q:Bool->Hp->Prop),Inv X a b H s->t b H Q->
  wpAny (model X.prog X.w) X.A (forIn e P λc r=>if r=P then do let ok<-isTrue c X.env (eval c X.env);pure (ForInStep.yield ok)else pure (ForInStep.yield r)) (TP X a b Q) X.xe s
def GC:TT:=λ_ H Q=>Q P H
theorem cW:FY X [] GC:=λ_ _ _ H _ I h=>wpAny_tests_nil #[H,I,h]
theorem sU(h:PT X c o):FY X [c] o:=λa s b H Q I e=>wpAny_tests_one (h a s b H Q I e)
def Hk(J:It)(D:I)(e:St)(g:TG)(l:TT)(j:TE)(o:Hp)(Fin:Hp->Prop):Prop:=
 ∃W:Nat->Nat->St->Hp->Prop,(∃m,W 0 m e (bE o D (.lst [])))/\∀i m σ H,W i m σ H->
  (J.stop i H/\Fin H)\/(J.go i H/\∃N:St->Hp->Prop,(∀p q,N p q->∃r,r<m/\W (i+1) r p q)/\
   ∀x q,J.yld i H x q->g x σ q λa n=>l a n λb h=>if b=P then j a h λy f=>∃ys,f D=R (.lst ys)/\ys.length<VF/\N a (bE f D (.lst (ys++[y])))else N a h)
section
variable{Y:VV}{w:Wh}{A:V7}{s:Vp}
def Gi{i p f:WB}{g:bg WB}{b:YT}{l:Pos}{it j:Vh}{env:Env}{R:abQ->Vp->Prop}{XE:Vh->Vp->Prop}(C:∀x s1,XE x s1->notedBy (model Y w) A env (λe s2=>R (.error e) s2) x s1)(I:Nat->Vp->Prop)
  (turn:∀n s,I n s->wpAny (model Y w) A (pyNext it) (λr s1=>match r with
   |none=>R (.ok .next) s1
   |some v=>wpAny (model Y w) A (letOwnedTupleGo p it v) (λ_ s2=>wpAny (model Y w) A (assign p env v) (λ_ s3=>
     wpAny (model Y w) A (forIn g P λc r=>if r=P then do let ok<-isTrue c env (eval c env);pure (ForInStep.yield ok)else pure (ForInStep.yield r)) (λok s4=>
      if ok=P then wpAny (model Y w) A (eval i env) (λx s5=>
       wpAny (model Y w) A (call (.builtin "list.append") [j,x]) (λ_ d=>∃m,m<n/\I m d) (λ_ _=>False) s5) XE s4
      else∃m,m<n/\I m s4) (λ_ _=>False) s3) (λ_ _=>False) s2) (λ_ _=>False) s1) (λ_ _=>False) s)
  (n:Nat) (h:I n s):codeAny (model Y w) A (.compLoop (.ListComp i [#[p,f,g,0]] b l) 0 it j env) R s:=by
 show codeAny_loop W I (λn s F=>?_) n h;show wpAny _ A (Sem.onRaise (compTurn (.ListComp i [#[p,f,g,0]] b l) 0 it j env) (λx=>do noteFrame x env;theTreesLotGoes x)) _ _ s;show wpAny_noted ?_;rw[compTurn_list]
 let o:∀{α:Type} {t:Sem α} {Q B:α->Vp->Prop} {E:Vh->Vp->Prop} {s:Vp},wpAny (model Y w) A t Q (λ_ _=>False) s->(∀a K,Q a K->B a K)->wpAny (model Y w) A t B E s:=
  λq u=>wpAny_mono q u λ_ _ z=>False.elim z
 show Vf (XQ (Vf (o (turn n s F) λr s1 q=>?_)));cases r with
 |none=>show Vt q
 |some v=>
  show Vf (o q λ_ s2 u=>Vf (o u λ_ s3 J=>Vf (o J λok s4 y=>?_)));cases ok with
  |false=>show Vt #[W,y]
  |true=>show Vf (Vf (wpAny_mono y (λx s5 H=>Vf (o H λ_ d G=>Vt (Vt #[W,G]))) C))
end
section
variable{X:Cx}{Z:bg (Vm×Obj)}{Y:St}{H:Hp}{s:Vp}
def xc
  (h:Q (newEnv scope s.heap.objs.size globals (XU (s.heap.objs.size+1) scope.names closure) qual Vg .none (R env) builtinsNs) {s with heap:=pushCells (s.heap.push {cls:=.type "dict",data:=.dict #v[]}) scope.names}):
  wpAny f A (newFunctionEnv scope globals closure [] qual Vg .none (R env)) Q E s:=by
 simp only[newFunctionEnv,ae4,if_true];show Vf (wpAny_alloc ?_);show Vf (wpAny_layCells _ (λe a b=>by cases g:a==V8.cell<;>simp[g]) _ _ _ _ ?_);rw[show({s with heap:=s.heap.push {cls:=.type "dict",data:=.dict #v[]}}:Vp).heap.objs.size=s.heap.objs.size+1 from dN ..];rw[ac0];show Vf (Vt (Vt h))
def nG{P tg q:WB}{F:bg WB}{scope:YT}{pos:Pos}{own:bg Str}{h:bg (Str×Nat)}{g:TG}{tc:TT}{te:TE}{E:Vh->Vp->Prop}{it:Vm}{k:bg Vm}{tn:Nat->Heap->Prop}{J:It}{Fin:Vm->Hp->Prop}
  {RR:Vh->Vm->abQ->Vp->Prop} (I:Inv X Z Y H s) (hc:X.calm=Vi) (Zq:scope.kind=.function) (hnd:(scope.names.map (·.1)).Nodup) (hfr:∀y∈scope.names,y.2=.free->∃c,X.env.cells.lookup y.1=lD c) (hfv:ad9 X scope h)
  (T:Turn X.prog X.w X.K tg J k it tn) (st:tn 0 s.heap) (L:∀b∈k,pH X Z H b)
  (hg:∀C,PG (cX X s H scope C (fM own h) k) tg g) (ht:∀C,FY (cX X s H scope C (fM own h) k) F tc) {W:Vm->Vh->Vp->Prop} (he:∀C,PE ((cX X s H scope C (fM own h) k).aan (W C)) P te) (hEE:∀D C x s1,s.heap.objs.size<=C->W C x s1->notedBy (model X.prog X.w) X.A (compEnvC scope (yn X scope C) C X.env) (λe s2=>RR (.ref D) C (.error e) s2) x s1)
  (hR:∀D,H D=Vg->Hk J D (jO own h Y) g tc te H (Fin D))
  (hRR:∀D C V s',Inv X Z Y V s'->Fin D V->(∃m,s'.heap.Ns C m)->s.heap.objs.size<=C->V C=Vg->RR (.ref D) C (.ok .next) s'):
  wpAny (model X.prog X.w) X.A (newList []) (λacc s3=>wpAny (model X.prog X.w) X.A (newFunctionEnv scope X.env.globals (jm X.env scope.names []) [] X.env.qual Vg .none (lD X.env)) (λaeL s4=>
   codeAny (model X.prog X.w) X.A (.compStart (.ListComp P [#[tg,q,F,0]] scope pos) 0 (.ref it) acc {aeL with scope:=relabel scope X.env}) (RR acc aeL.locals) s4) E s3) E s:=by
 show WN ?_;generalize hH2:s.heap.push {cls:=.type "list",dict:=Vg,data:=.seq ([]:bg Vh).toArray}=K;let hz:K.objs.size=s.heap.objs.size+1:=by rw[<-hH2,dN]
 show xc (s:={s with heap:=K}) ?_;let M:s.heap.objs.size<K.objs.size:=by rw[hz];show YK _
 let hC:s.heap.objs.size<=K.objs.size:=Zg M;generalize hH1:pushCells (K.push {cls:=.type "dict",data:=.dict #v[]}) scope.names=h1;let kp2:∀b o,K.get? b=lD o->h1.get? b=lD o:=λb o e=>by rw[<-hH1];show adR _ _ b o (bP _ e)
 let kp:∀b o,s.heap.get? b=lD o->h1.get? b=lD o:=λb o e=>kp2 b o (by rw[<-hH2];show bP _ e);let hns:h1.Ns K.objs.size (λ_=>Vg):=by rw[<-hH1];show(Heap.Ns.new K (.type "dict")).keeps (adR _ _)
 let hoc:∀x c,(yn X scope K.objs.size).lookup x=lD c->K.objs.size<c->∃v,h1.IsCell c v:=λx c e ZO=>by
  let e':(XU (K.push {cls:=.type "dict",data:=.dict #v[]}).objs.size scope.names (jm X.env scope.names [])).lookup x=lD c:=by rw[dN];show e
  rcases sX _ _ _ x c e' with⟨_,z⟩|z
  .show#[Vg,by rw[<-hH1];show z]
  .show a6 (Zj (vG I z).2 (Zj M ZO)) (WW _)
 let hd:∃n,h1.get? s.heap.objs.size=lD {cls:=.type "list",data:=.seq #v[] n}:=#[0,kp2 _ _ (by rw[<-hH2];show cx _ rfl)];let G:∀b∈k,b<s.heap.objs.size:=λb f=>by let(o,e,_):=T.obj 0 _ st b f;show cv e
 let hn:H s.heap.objs.size=Vg:=I.WT.fresh (Vy _);let(W,(m0,w0),turn):=hR s.heap.objs.size hn;let O:∀{pl:bg (Vm×Obj)} {V:Hp},(∀b∈k,V b=Vg)->(∀p∈pl,p.1∉k)->∀b∈k,pH (cX X s H scope K.objs.size (fM own h) k) pl V b:=λ{pl V} hn' hpl b f=>by let ok:=D8 (C:=K.objs.size) (N:=fM own h) I Zq hnd hfr hC L G;show#[hn' b f,(ok.exf b f).1,ok.aef b f,.inl f,(ok.exf b f).2,λp hp=>by let hp':p∈([]:bg (Vm×Obj))++pl:=hp;intro z;show hpl p (by simpa using hp') (by rw[z];show f)]
 let l:∀s4:Vp,s4={s with heap:=h1}->
   codeAny (model X.prog X.w) X.A (.compLoop (.ListComp P [#[tg,q,F,0]] scope pos) 0 (.ref it) (.ref s.heap.objs.size) (compEnvC scope (yn X scope K.objs.size) K.objs.size X.env)) (RR (.ref s.heap.objs.size) K.objs.size) s4:=by
  rintro s4 rfl
  let I0:Inv (cX X s H scope K.objs.size (fM own h) k) [] (jO own h Y) (bE H s.heap.objs.size (.lst [])) {s with heap:=h1}:=
   Iq I Zq hnd hfr hfv (Vy _) M hC L G hns hoc kp hd
  let st0:tn 0 h1:=T.keep 0 _ _ st λb _ o e=>kp b o e;let fr0:∀b∈k,(bE H s.heap.objs.size (.lst [])) b=Vg:=λb f=>by rw[aG (VW (G b f))];show(L b f).1
  show Gi (λx s1 z=>hEE _ _ x s1 hC z) (λn s'=>∃i σ' V,Inv (cX X s H scope K.objs.size (fM own h) k) [] σ' V s'/\tn i s'.heap/\(∀b∈k,V b=Vg)/\W i n σ' V) ?_ m0 #[0,_,_,I0,st0,fr0,w0];rintro n s5 ⟨i,j,H5,I5,st5,fr5,w5⟩;rcases turn i n j H5 w5 with⟨stop,fin⟩|⟨go,N,hN,step⟩
  .show cR (T.done (cX X s H scope K.objs.size (fM own h) k) rfl rfl rfl hc i [] s5 j H5 (λ_ _=>False) I5 (O fr5 (by simp)) st5 stop) λr s6 #[hr,S]=>?_;subst hr;let(mm,hm,_):=S.loc;show hRR _ _ H5 s6 ?_ fin #[mm,hm] hC S.free;show I.ad8 (ch:=k) S.os S.base S.WT S.bare λb f=>#[(L b f).2.2.2.1,(L b f).2.1,(L b f).2.2.2.2.1,(L b f).2.2.2.2.2]
  .show cR (T.item (cX X s H scope K.objs.size (fM own h) k) rfl rfl rfl hc i [] s5 j H5 (λ_ _=>False) I5 (O fr5 (by simp)) st5 go) λr s6 #[u,hr,h6]=>?_
   subst hr;show cR h6 λ_ s7 a=>?_;let(x,H7,I7,r7,y7,w,fr7):=a;let I7':=I7.pinned (fp:=k) (O fr7 (by simp)) (T.obj _ _ w);let t:∀{a:St} {Q:Hp} {A:Vp},Inv (cX X s H scope K.objs.size (fM own h) k) ([]++tF k s7.heap) a Q A->N a Q->∃m,m<n/\∃i σ' V,Inv (cX X s H scope K.objs.size (fM own h) k) [] σ' V A/\tn i A.heap/\(∀b∈k,V b=Vg)/\W i m σ' V:=λ{a Q A} I8 n8=>by let(m',hm,w8):=hN a Q n8;show#[m',hm,i+1,a,Q,I8.abK,T.keep _ _ _ w λb f o e=>(I8.pin (b,o) (Wy _ (Wy _ (kM f e)))).1,λb f=>?_,w8];let(o,e,d):=T.obj _ _ w b f;show(I8.pin (b,o) (Wy _ (Wy _ (kM f e)))).2.1
   show cR (hg _ _ s7 j H7 x u _ I7' r7 (step x H7 y7)) λ_ A a=>?_;let(a,Q,I8,q8):=a;show cR (ht _ _ A a Q _ I8 q8) λok s9 a=>?_;let(H9,I9,q9):=a;cases ok with
   |false=>rw[av Vu]at q9⊢;show t I9 q9
   |true=>rw[ag rfl]at q9⊢;show cR (he _ _ s9 a H9 _ (I9.aan _) q9) λy s10 a=>?_;let(U,H10,anm,r10,ys,hy,hl,q10):=a;let I10:=anm.Zl;show cR (iU _ s10 a H10 (.ref s.heap.objs.size) [U] (.ref s.heap.objs.size) [y] (λ_ H11=>N a H11) I10 rfl (.cons r10 .nil) #[_,ys,U,rfl,rfl,hy,hl,q10]) λ_ s11 a=>?_;let(v11,H11,I11,_,q11):=a;show t I11 q11
 show codeAny_compStart_list (l _ rfl) (T.self _ 0 _ _ _ (T.keep 0 _ _ st λb _ o e=>kp b o e) (l _ rfl))
def tE(own:G Str)(h:G (Str×Nat))(b:TI)(g:TG)(f:TT)(e:TE):TE:=λY H Q=>b Y H λJ a=>∀D,a D=M->Hk J D (jO own h Y) g f e a λi=>Q (.ref D) i
theorem mO{a:YT}(ok:X.Ok)(h:∀y∈a.names,y.2=.free->(X.env.scope.names.lookup y.1=R .cell\/X.env.scope.names.lookup y.1=R .free)):∀y∈a.names,y.2=.free->∃c,X.env.cells.lookup y.1=R c:=
 λy b e=>ok.has y.1 (h y b e)
theorem J9{a b:YT}(h:(a.names.all λy=> !(y.2==V8.free)||(b.names.lookup y.1==R V8.cell)||(b.names.lookup y.1==R V8.free))=P):
  ∀y∈a.names,y.2=.free->(b.names.lookup y.1=R .cell\/b.names.lookup y.1=R .free):=λy f e=>by
 let q:=Xq.mp h y f;rw[e]at q
 simpa using q
def fC{elt d iter:WB}{ifs:G WB}{scope:YT}{pos:Pos}(own:G Str)(c:G (Str×Nat)){t:TI}{g:TG}{v:TT}{u:TE}(U:X.calm=P)(O:PI X d iter t)
  (S:∀s H C a,PG (cX X s H scope C (fM own c) a) d g) (F:∀s H C a,FY (cX X s H scope C (fM own c) a) ifs v) (he:∀s H C a,PE (cX X s H scope C (fM own c) a) elt u) (l:ad9 X scope c)
  (n:(scope.names.all λy=> !(y.2==V8.free)||(X.env.scope.names.lookup y.1==lD V8.cell)||(X.env.scope.names.lookup y.1==lD V8.free))=P)
  (w:scope.kind=.function:=by rfl) (k:(scope.names.map (·.1)).Nodup:=by left)
  (p:∀y∈scope.names,y.2=.local->scope.names.lookup y.1=lD .local:=by left) (L:∀x,foldedSetIterable iter X.env x=pure x:=by intro _;rfl):
  PE X (.ListComp elt [#[d,iter,ifs,0]] scope pos) (tE own c t g v u):=by
 intro Z s Y H Q I h;let f:=J9 n;rw[anP];show aaA (use:=M) rfl L (oa (mO I.ok f)) w p (cR (O Z s Y H _ I h) λxv s1 h1=>cR h1 λK s2 h2=>?_);let(it,a,tn,J,H2,e,A,T,i,f2,R):=h2;subst e;show nG A U w k (mO I.ok f) l T i f2 (λC=>S _ _ C _) (λC=>F _ _ C _) (W:=λ_ _ _=>False) (λC=>he _ _ C _) (λ_ _ _ _ _ z=>z.elim) (Fin:=λD r=>Q (.ref D) r) R ?_;intro D C r E I' fin hm hC N;let(m,hm):=hm;show#[m,hm,λh' j=>#[.ref D,r,?_,rfl,fin]];let(f0,f1,_,f3,f4,f5):=A.acD hC N;show I'.turned (t':=E.toks) (λb o hb q=>(j.2 b hb).trans q) f0 f1 f3 f4 f5
def pA{elt d iter:WB}{ifs:G WB}{scope:YT}{pos k py:Pos}{i:Nat}{x:Str}(own:G Str)(j:G (Str×Nat)){S:TI}{g:TG}{V:TT}{U:TE}(hN:X.N.Nodup)(w:X.N[i]?=lD x)(hx:X.env.scope.names.lookup x=lD .local)
  (hc:X.calm=P) (hi:PI X d iter S)
  (hg:∀s H C c,PG (cX X s H scope C (fM own j) c) d g) (ht:∀s H C c,FY (cX X s H scope C (fM own j) c) ifs V) (he:∀s H C c,PE (cX X s H scope C (fM own j) c) elt U) (A:ad9 X scope j)
  (F:(scope.names.all λy=> !(y.2==V8.free)||(X.env.scope.names.lookup y.1==lD V8.cell)||(X.env.scope.names.lookup y.1==lD V8.free))=P)
  (r:Xm (.ListComp elt [#[d,iter,ifs,0]] scope pos) (lD (.Name x py)) k.line X.env=pure P:=by rfl)
  (Zq:scope.kind=.function:=by rfl) (u:(scope.names.map (·.1)).Nodup:=by left)
  (K:∀y∈scope.names,y.2=.local->scope.names.lookup y.1=lD .local:=by left) (hs:∀x,foldedSetIterable iter X.env x=pure x:=by intro _;rfl):
  PS X (.Assign [.Name x py] (.ListComp elt [#[d,iter,ifs,0]] scope pos) k) (F0 (tE own j S g V U) (vp i)):=by
 intro Z s Y H D I h;let f:=J9 F;rw[exec_Assign_Name_used _ _ _ _ r];show Vf (XQ (Vf ?_));show wpAny _ _ (do let _<-comprehension (.ListComp elt [#[d,iter,ifs,0]] scope pos) scope X.env _ (newList []) Vq (eval iter X.env) (lD (assign (.Name x py) X.env))) _ _ s;show Vf (cR (aaA (use:=lD (assign (.Name x py) X.env)) (Q:=λ_ l=>SP X Z D .next l) rfl hs (oa (mO I.ok f)) Zq K
  (cR (hi Z s Y H _ I h) λxv s1 h1=>cR h1 λitv s2 h2=>?_)) λ_ l q=>Vt (Vt q))
 let(it,c,tn,J,H2,e,I2,T,n,f2,R):=h2;subst e;show nG I2 hc Zq u (mO I.ok f) A T n f2 (λC=>hg _ _ C _) (λC=>ht _ _ C _) (W:=λ_ _ _=>False) (λC=>he _ _ C _) (λ_ _ _ _ _ z=>z.elim) (Fin:=λL O=>D.nx (Y.set i (lD (.ref L))) O) R ?_;intro L C O l I' fin hm hC hn;let(m,hm):=hm;let(f0,f1,f2',f3,f4,f5):=I2.acD hC hn;show wpAny _ _ (assign (.Name x py) X.env (.ref L)) _ _ l;show aiM (vI I' hN w (.inl hx) (v:=.ref L) rfl (λp N #[a,sb,ha]=>?_) (.inr hx));let E:C≠a:=by
  rcases ha with z|z
  .rw[z];show f1
  .show λq=>f4 x a z q.symm
 show#[m,hm.sameBut sb E,λh' t=>#[_,O,?_,fin]];show N.turned (t':=p.toks) (λb o hb q=>(t.2 b hb).trans q) f0 f1 f3 f4 f5
end
def oM(P:VV)(w:Wh)(K:Ld)(c:Str->br B)(base:Heap)(k:Nat)(x:Str)(b:G Str)(sp:Sp):Prop:=
 ∃(f:I) (a:WA),FnOk P w K c base dX k f a b sp/\Binds K a b []/\W7 K (.ref f)=Vi/\c x=R (.ref f)
def eA(C:oM X.prog X.w X.K X.mg X.base k x U sp)(l:XN j X.A)(c:PA X (e::J) t)(g:k<=j:=by decide)(n:Gl X x:=by rfl)
  (h:(x==("__debug__":Str))=Vq:=by decide) (o:VT (e::J) X.env=(Vq,eval e X.env)::VT J X.env:=by rfl) (a:(backTo pos (VT J X.env)).any (·.1)=Vq:=by rfl):
  PE X (.Call (.Name x p) (e::J) [] pos) (jt sp [] E0 t):=by
 let(f,q,F,b,i,m):=C;show Dx F (l.mono g) n m i b .nil CP c h o a
section
variable{Z:St}{H:Hp}{Q:VK}{D:Ends}
theorem P0(h:t {D with nx:=u D} Z H):Nw t u D Z H:=h
theorem Rc(h:o Z H λx H1=>g x Z H1 D.nx):F0 o g D Z H:=h
theorem MD{Q:St->Hp->Prop}(h:Q (Z.set i (R v)) H):vp i v Z H Q:=h
theorem Uc(h:Q v H):tC v Z H Q:=h
theorem SG(h:C Z H λx H1=>o Z H1 λy a=>r x y a Q):OZ r C o Z H Q:=h
theorem Tj(c:wR x y=P)(h:Q (.bl (decide (x=y))) H):UG x y H Q:=#[c,h]
theorem SS(c:wR x y=P)(h:Q (.bl (!decide (x=y))) H):US x y H Q:=#[c,h]
theorem RD(h:o Z H D.rt):KO o D Z H:=h
theorem LN(h:o Z H λ_ H1=>D.nx Z H1):Dl o D Z H:=h
theorem Po(h:c Z H λb H1=>if b=P then t D Z H1 else u D Z H1):Lm c t u D Z H:=h
theorem MY(h:D.nx Z H):Es D Z H:=h
theorem Md{Q:Bool->Hp->Prop}(h:t Z H λx a=>∃k,x=.bl k/\Q k a):CH t Z H Q:=h
theorem Ua{Q:Bool->Hp->Prop}(h:t Z H λx a=>∃k,x=.bl k/\Q k a):tB t Z H Q:=h
theorem S7{Q:Bool->Prop}(h:Q b):∃k,V.bl b=.bl k/\Q k:=#[b,W,h]
theorem RZ{Q:Bool->Hp->Prop}(h:t Z H λc H1=>if c=P then Q P H1 else u Z H1 Q):TF t u Z H Q:=h
theorem PH{Q:Bool->Hp->Prop}(h:t Z H λc H1=>Q (!c) H1):Px t Z H Q:=h
theorem LV(h:C Z H λx H1=>∃c,x=.bl c/\if c=P then o Z H1 Q else Q (.bl Vq) H1):Da C o Z H Q:=h
theorem Rt{Q:G V->Hp->Prop}(h:Q [] H):kQ Z H Q:=h
theorem NK{Q:G V->Hp->Prop}(h:o Z H λx H1=>tr Z H1 λxs a=>Q (x::xs) a):fU o tr Z H Q:=h
theorem Se(h:t Z H λa H1=>r a H1 Q):Gb r t Z H Q:=h
theorem Np(h:t Z H λa H1=>sp (a++[]) H1 Q E):jt sp [] E t Z H Q:=h
theorem QT(h:t Z H λxs H1=>xs.length<=VF/\∀p,H1 p=M->Q (.ref p) (bE H1 p (.tup xs))):NV t Z H Q:=h
theorem Ph(h:t Z H λxs H1=>xs.length<=VF/\∀p,H1 p=M->Q (.ref p) (bE H1 p (.lst xs))):Ra t Z H Q:=h
theorem S1{K:Ld}(h:to Z H λx H1=>TZ K T x H1/\t Z H1 λxs a=>r x xs a Q):SR K T r to t Z H Q:=h
end
def Q7{α:Type}{xs:G α}{i:Int}{v:α}(a:0<=i)(h:xs[i.toNat]?=R v):nj xs i=R v:=by let q:=CO h;rwa [abu a]at q
def Xl.tup{K:Ld}(e:Xl H H')(h:SqT K H a xs):SqT K H' a xs:=by
 rcases h with(h|⟨o,h⟩)|h
 .show .inl (.inl (e _ _ h))
 .show .inl (.inr #[o,e _ _ h])
 .show .inr h
theorem bq(h:H p=M)(o:HO):Xl H (bE H p o):=λb u q=>by rw[aG (cG q h)];show q
def OQ:WC "max"=R (.builtin "max"):=by left
def bX:WC "isinstance"=R (.builtin "isinstance"):=by left
def iX:WC "len"=R (.builtin "len"):=by left
def yB:WC "sorted"=R (.builtin "sorted"):=by left
def Ex:WC "all"=R (.builtin "all"):=by left
def ww:WC "list"=R (.type "list"):=by left
def iA:WC "tuple"=R (.type "tuple"):=by left
section
variable{X:Cx}
def Am:YG X (.builtin "sorted") (λxs H Q=>∃(p:Vm) (g:bg Int),xs=[.ref p]/\SqL X.K H p (g.map V.int)/\g.length<64/\∀(l:Vm) (a:bg Int),H l=M->a.Perm g->a.Pairwise (·<=·)->Q (.ref l) (bE H l (.lst (a.map V.int)))):=by
 intro j s E H xs F Q I r h;let(p,g,rfl,v,A,q):=h;let(u,rfl,n):=kY r;ext n;let(C,K,pl,J):=I.list v;let w:=K.length;rw[Vj]at w;show sorted_ints pl.isList (n9 K) () λf a L m t=>?_;let(e,y):=sortedAll_at s.heap C f;let i:a.length=g.length:=m.length_eq;let B:f.toList.length=a.length:=L.length;show#[.ref (s.heap.objs.size+1),_,I.laid (t':=s.toks) (o:=.lst (a.map V.int)) (λb G z=>sortedAll_old z) (aa4 _) ?_,W,q _ a (I.WT.fresh (aa4 _)) m t];show#[?_,f.toList,e,kg L,y];rw[Vj,i];let:(64:Nat)<=VF:=by decide
 ext
end
end L2
namespace L3
open PySem L2
abbrev D:=Vo
inductive PV where
 |fz (d:D)
 |ow (ds:G D)
 |pl (i:Nat)
abbrev bx:=G (br PV)
structure Xc where
 cls:Str
 fs:G (Str×D)
inductive Res(α:Type) where
 |ok (a:α)
 |er (x:Xc)
 |bad
namespace Res
def bind(r:Res α)(f:α->Res β):Res β:=match r with
 |.ok a=>f a
 |.er x=>.er x
 |.bad=>.bad
def WE:br α->Res α
 |some a=>.ok a
 |none=>.bad
theorem bind_ok(a:α)(f:α->Res β):(Res.ok a).bind f=f a:=W
end Res
abbrev e8:=@Res.bind_ok
abbrev cJ:=I->Prop
def dz(O:cJ)(p:I):cJ:=λb=>O b\/b=p
def HV(O:cJ)(p:I):cJ:=λb=>O b/\b≠p
def noO:cJ:=λ_=>False
def Ev(O:cJ)(H:Hp)(a:cJ)(c:Hp):Prop:=∀b o,H b=R o->¬O b->c b=R o/\¬a b
theorem Ev.refl:Ev O H O H:=λ_ _ h n=>#[h,n]
theorem Ev.trans(a:Ev O H O1 H1)(b:Ev O1 H1 O2 H2):Ev O H O2 H2:=λp o h n=>let#[h1,e]:=a p o h n;b p o h1 e
theorem Ev.grow(s:Xl H H'):Ev O H O H':=λb o h n=>#[s b o h,n]
theorem Ev.add(s:Xl H H')(a:H p=M):Ev O H (dz O p) H':=λb o h n=>#[s b o h,λz=>z.elim n λe=>by subst e;rw[h]at a;ext a]
theorem Ev.sub(h:∀b,O' b->O b):Ev O H O' H:=λb o e n=>#[e,λz=>n (h b z)]
theorem Ev.mut(a:O p)(u:HO):Ev O H O (bE H p u):=λb o h n=>#[by rw[aG (λe=>n (by rw[e];show a))];show h,n]
def ZN(K:Ld)(H:Hp)(a:I)(xs:G V):Prop:=Rd H a (.lst xs)\/∃(b:G B) (n:Nat),K.lookup a=R {cls:=.type "list",data:=.seq b.toArray n}/\xs.length<=VF/\Vals xs b
def ZN.sq(h:ZN K H a xs):SqL K H a xs:=by
 rcases h with h|⟨f,n,h1,e,b⟩
 .show .inl h
 .show .inr #[_,f.toArray,n,h1,W,W,W,by rw[VJ,<-b.length];show e,by simpa using b]
theorem ZN.of(h:H a=R (.lst xs)):ZN K H a xs:=.inl (.inl h)
def ZN.same(e:Xl H H')(h:ZN K H a xs):ZN K H' a xs:=by
 rcases h with(h|⟨o,h⟩)|h
 .show .inl (.inl (e _ _ h))
 .show .inl (.inr #[o,e _ _ h])
 .show .inr h
theorem mx(H:Hp):Xl (λ_=>M) H:=λ_ _ h=>by ext h
def ach(O:cJ)(K:Ld)(H:Hp)(a:I)(xs:G V):Prop:=ZN K H a xs/\(O a->ZN K (λ_=>M) a xs)
def aaG(O:cJ)(K:Ld)(H:Hp)(a:I)(xs:G V):Prop:=SqT K H a xs/\(O a->SqT K (λ_=>M) a xs)
section
variable{O Z:cJ}{K:Ld}{H Y:Hp}{a:Vm}{X:bg V}
def ach.ev(h:ach O K H a X)(e:Ev O H Z Y):ach Z K Y a X:=by
 let(h,k):=h;by_cases z:O a
 .show#[ZN.same (mx Y) (k z),λ_=>k z]
 .rcases h with(h|⟨o,h⟩)|h
  .let(f,b):=e a _ h z;show#[.inl (.inl f),λy=>a6 y b]
  .let(f,b):=e a _ h z;show#[.inl (.inr #[o,f]),λy=>a6 y b]
  .show#[.inr h,λ_=>.inr h]
def aaG.ev(h:aaG O K H a X)(e:Ev O H Z Y):aaG Z K Y a X:=by
 let(h,k):=h;by_cases z:O a
 .show#[(mx Y).tup (k z),λ_=>k z]
 .rcases h with(h|⟨o,h⟩)|h
  .let(f,b):=e a _ h z;show#[.inl (.inl f),λy=>a6 y b]
  .let(f,b):=e a _ h z;show#[.inl (.inr #[o,f]),λy=>a6 y b]
  .show#[.inr h,λ_=>.inr h]
end
mutual
inductive DV(O:cJ)(K:Ld)(H:Hp):V->D->Prop
 |Xo:DV O K H .Xo .none
 |bl (b:Bool):DV O K H (.bl b) (.bool b)
 |int (i:Int):DV O K H (.int i) (.int i)
 |str (x:Str):DV O K H (.str x) (.str x)
 |tup {a:Vm} {xs:bg V} {ds:bg D}:aaG O K H a xs->Xn O K H xs ds->DV O K H (.ref a) (.tuple ds)
 |lst {a:Vm} {xs:bg V} {ds:bg D}:ach O K H a xs->Xn O K H xs ds->DV O K H (.ref a) (.list ds)
inductive Xn(O:cJ)(K:Ld)(H:Hp):bg V->bg D->Prop
 |nil:Xn O K H [] []
 |cons {v:V} {vs:bg V} {d:D} {ds:bg D}:DV O K H v d->Xn O K H vs ds->Xn O K H (v::vs) (d::ds)
end
section
variable{O Z:cJ}{K:Ld}{H H':Hp}
mutual
theorem DV.ev(e:Ev O H Z H'):∀{v:V} {d:D},DV O K H v d->DV Z K H' v d
 |_,_,.Xo=>.Xo
 |_,_,.bl b=>.bl b
 |_,_,.int i=>.int i
 |_,_,.str x=>.str x
 |_,_,.tup h hs=>.tup (h.ev e) (Xn.ev e hs)
 |_,_,.lst h hs=>.lst (h.ev e) (Xn.ev e hs)
theorem Xn.ev(e:Ev O H Z H'):∀{vs:bg V} {ds:bg D},Xn O K H vs ds->Xn Z K H' vs ds
 |_,_,.nil=>.nil
 |_,_,.cons h hs=>.cons (DV.ev e h) (Xn.ev e hs)
end
theorem Xn.length:∀{a:G V} {ds:G D},Xn O K H a ds->a.length=ds.length
 |_,_,.nil=>rfl
 |_,_,.cons _ t=>by rw[VI,VI,t.length]
theorem Xn.get:∀{c:G V} {ds:G D} {i:Nat} {d:D},Xn O K H c ds->ds[i]?=R d->∃v,c[i]?=R v/\DV O K H v d
 |_,_,_,_,.nil,e=>by simp at e
 |_,_,0,_,.cons h _,e=>by simp at e;subst e;show#[_,W,h]
 |_,_,i+1,d,.cons _ t,e=>by let(v,b,a):=Xn.get t (by simpa using e);show#[v,by simpa using b,a]
theorem Xn.aiy:∀{c:G V} {ds:G D} {i:Nat} {v:V},Xn O K H c ds->c[i]?=R v->∃d,ds[i]?=R d/\DV O K H v d
 |_,_,_,_,.nil,e=>by simp at e
 |_,_,0,_,.cons h _,e=>by simp at e;subst e;show#[_,W,h]
 |_,_,i+1,v,.cons _ t,e=>by let(d,b,a):=Xn.aiy t (by simpa using e);show#[d,by simpa using b,a]
theorem Xn.append:∀{a ws:G V} {ds b:G D},Xn O K H a ds->Xn O K H ws b->Xn O K H (a++ws) (ds++b)
 |_,_,_,_,.nil,h=>h
 |_,_,_,_,.cons h t,g=>.cons h (Xn.append t g)
theorem Xn.take:∀{a:G V} {ds:G D} (n:Nat),Xn O K H a ds->Xn O K H (a.take n) (ds.take n)
 |_,_,0,_=>.nil
 |_,_,_+1,.nil=>.nil
 |_,_,n+1,.cons h t=>.cons h (Xn.take n t)
theorem Xn.drop:∀{a:G V} {ds:G D} (n:Nat),Xn O K H a ds->Xn O K H (a.drop n) (ds.drop n)
 |_,_,0,h=>h
 |_,_,_+1,.nil=>.nil
 |_,_,n+1,.cons _ t=>Xn.drop n t
theorem Xn.erase:∀{a:G V} {ds:G D} (n:Nat),Xn O K H a ds->Xn O K H (a.eraseIdx n) (ds.eraseIdx n)
 |_,_,_,.nil=>.nil
 |_,_,0,.cons _ t=>t
 |_,_,n+1,.cons g t=>.cons g (Xn.erase n t)
theorem Xn.flat(h:Xn O K H vs ds):∀n:Nat,Xn O K H (Vw n vs).flatten (Vw n ds).flatten
 |0=>.nil
 |n+1=>by rw[WK,WK,X5,X5];show h.append (Xn.flat h n)
mutual
theorem DV.plain:∀{v:V} {d:D},DV O K H v d->L2.DV K H v d
 |_,_,.Xo=>.Xo
 |_,_,.bl b=>.bl b
 |_,_,.int i=>.int i
 |_,_,.str x=>.str x
 |_,_,.tup h hs=>.tup h.1 (Xn.plain hs)
 |_,_,.lst h hs=>.lst h.1.sq (Xn.plain hs)
theorem Xn.plain:∀{vs:bg V} {ds:bg D},Xn O K H vs ds->L2.Xn K H vs ds
 |_,_,.nil=>.nil
 |_,_,.cons h hs=>.cons (DV.plain h) (Xn.plain hs)
end
end
def DX(O:cJ)(K:Ld)(H:Hp)(v:V):D->Prop
 |.list ds=>∃a xs,v=.ref a/\ZN K H a xs/\Xn O K H xs ds
 |d=>DV O K H v d
def DV.x(h:DV O K H v d):DX O K H v d:=by
 cases h with
 |lst h a=>show#[_,_,W,h.1,a]
 |Xo=>show .Xo
 |bl b=>show .bl b
 |int i=>show .int i
 |str x=>show .str x
 |tup h a=>show .tup h a
def DX.plain(h:DX O K H v d):L2.DV K H v d:=by
 cases d with
 |list ds=>let(a,xs,rfl,f,e):=h;show .lst f.sq e.plain
 |none=>show DV.plain h
 |bool b=>show DV.plain h
 |int i=>show DV.plain h
 |str x=>show DV.plain h
 |tuple ds=>show DV.plain h
 |dict g=>show DV.plain h
def adn(K:Ld)(b:Hp)(O:cJ)(H:Hp)(v:V):PV->Prop
 |.fz d=>DV O K H v d
 |.ow ds=>∃a e,v=.ref a/\O a/\b a=M/\H a=R (.lst e)/\Xn O K H e ds
 |.pl _=>False
structure Rl(K:Ld)(B:cJ)(H0:Hp)(O:cJ)(σ:St)(H:Hp)(ρ:bx):Prop where
 same:Xl H0 H
 bo:∀a,B a->O a
 bd:∀a,B a->H0 a≠M
 od:∀a,H a=M->¬O a
 len:σ.length=ρ.length
 slot:∀(i:Nat) (x:PV),ρ[i]?=R (R x)->∃v,σ[i]?=R (R v)/\adn K H0 O H v x
 one:∀(i j:Nat) (ds es:G D) (v:V),ρ[i]?=R (R (.ow ds))->ρ[j]?=R (R (.ow es))->σ[i]?=R (R v)->σ[j]?=R (R v)->i=j
def aaJ(K:Ld)(e:Hp)(O:cJ)(b:St)(H:Hp)(c:bx)(v:V):PV->Prop
 |.fz d=>DV O K H v d
 |.ow ds=>∃a f,v=.ref a/\O a/\e a=M/\H a=R (.lst f)/\Xn O K H f ds/\∀(i:Nat) (g:G D),c[i]?=R (R (.ow g))->b[i]?≠R (R (.ref a))
 |.pl i=>b[i]?=R (R v)
def mI:PV->Prop
 |.ow _=>False
 |_=>True
def dH:PV->PV
 |.ow ds=>.fz (.list ds)
 |p=>p
section
variable{K:Ld}{B O X:cJ}{Z H H':Hp}{Y:St}{ρ ρ':bx}{v:V}
def adn.grow(s:Xl H H')(h:adn K Z O H v x):adn K Z O H' v x:=by
 cases x with
 |fz d=>show DV.ev (Ev.grow s) h
 |ow ds=>let(a,l,e,j,g,f,b):=h;show#[a,l,e,j,g,s _ _ f,b.ev (Ev.grow s)]
 |pl i=>show h
theorem Rl.grow(R:Rl K B Z O Y H ρ)(s:Xl H H'):Rl K B Z O Y H' ρ:=
 #[R.same.trans s,R.bo,R.bd,λa h=>R.od a (s.free h),R.len,λi x h=>let#[v,h1,b]:=R.slot i x h;#[v,h1,b.grow s],R.one]
theorem Rl.ahL(R:Rl K B Z O Y H ρ)(h:H p=M):Z p=M:=R.same.free h
def Rl.add(R:Rl K B Z O Y H ρ)(s:Xl H H')(f:H p=M)(g:H' p≠M):Rl K B Z (dz O p) Y H' ρ:=by
 show#[R.same.trans s,λa h=>.inl (R.bo a h),R.bd,λa h z=>z.elim (R.od a (s.free h)) λe=>g (by rw[<-e];show h),R.len,λi x h=>?_,R.one];let(v,j,b):=R.slot i x h;show#[v,j,?_];cases x with
 |fz d=>show DV.ev (Ev.add s f) b
 |ow ds=>let(a,q,e,o,n,m,l):=b;show#[a,q,e,.inl o,n,s _ _ m,l.ev (Ev.add s f)]
 |pl i=>show b
theorem Rl.ahg(R:Rl K B Z O Y H ρ)(h:Z a=M):¬B a:=λz=>R.bd a z h
def Rl.sub(R:Rl K B Z O Y H ρ){a:I}(m:Z a=M)(h:∀(i:Nat) (c:G D),ρ[i]?=lD (lD (.ow c))->Y[i]?≠lD (lD (.ref a))):Rl K B Z (HV O a) Y H ρ:=by
 show#[R.same,λb f=>#[R.bo b f,λe=>R.ahg m (e▸f)],R.bd,λb f z=>R.od b f z.1,R.len,λi x j=>?_,R.one];let(v,l,g):=R.slot i x j;show#[v,l,?_];cases x with
 |fz d=>show DV.ev (Ev.sub λb z=>z.1) g
 |ow ds=>let(b,r,e,q,p,o,n):=g;subst e;show#[b,r,W,#[q,λe=>h i ds j (by rw[l,e])],p,o,n.ev (Ev.sub λb z=>z.1)]
 |pl i=>show g
theorem xJ(h:H a=R (.lst o))(n:¬O a)(hd:Xn O K H o ds):DV O K H (.ref a) (.list ds):=.lst #[ZN.of h,λz=>a6 z n] hd
def kj{pv:PV}(R:Rl K B Z O Y H ρ)(h:aaJ K Z O Y H ρ v pv):∃X,Ev O H X H/\Rl K B Z X Y H ρ/\aaJ K Z X Y H ρ v (dH pv):=by
 cases pv with
 |fz d=>show#[O,.refl,R,h]
 |pl i=>show#[O,.refl,R,h]
 |ow ds=>let(a,m,rfl,l,j,g,f,e):=h;show#[HV O a,Ev.sub λb z=>z.1,R.sub j e,xJ g (λz=>z.2 W) (f.ev (Ev.sub λb z=>z.1))]
def rT(pv:PV):mI (dH pv):=by ext pv<;>trivial
def aaJ.keep{pv:PV}(a:mI pv)(e:Ev O H X H')(h:aaJ K Z O Y H ρ v pv):aaJ K Z X Y H' ρ' v pv:=by
 cases pv with
 |fz d=>show DV.ev e h
 |pl i=>show h
 |ow ds=>show a.elim
def UP:br (br PV)->br D
 |some (R (.fz d))=>R d
 |some (R (.ow ds))=>R (.list ds)
 |_=>M
def AD(ρ:bx):PV->br D
 |.fz d=>R d
 |.ow ds=>R (.list ds)
 |.pl i=>UP ρ[i]?
def qX{pv:PV}(R:Rl K B Z O Y H ρ)(h:aaJ K Z O Y H ρ v pv)(e:AD ρ pv=lD d):DX O K H v d:=by
 cases pv with
 |fz t=>ext e;show DV.x h
 |ow ds=>ext e;let(a,E,rfl,C,A,p,n,z):=h;show#[a,E,W,ZN.of p,n]
 |pl i=>
  let b:UP ρ[i]?=lD d:=e;let r:=h;cases q:ρ[i]? with
  |none=>rw[q]at b;ext b
  |some o=>
   cases o with
   |none=>rw[q]at b;ext b
   |some x=>
    let(u,g,f):=R.slot i x q;rw[r]at g;ext g;rw[q]at b;cases x with
    |fz t=>ext b;show DV.x f
    |ow ds=>ext b;let(a,E,rfl,y,w,m,l):=f;show#[a,E,W,ZN.of m,l]
    |pl j=>show f.elim
def toS(ρ:bx)(i:Nat):br (br PV)->br (D×bx)
 |some (R (.fz d))=>R (d,ρ)
 |some (R (.ow ds))=>R (.list ds,ρ.set i (R (.fz (.list ds))))
 |_=>M
def zO(ρ:bx):PV->br (D×bx)
 |.fz d=>R (d,ρ)
 |.ow ds=>R (.list ds,ρ)
 |.pl i=>toS ρ i ρ[i]?
def cS{l:G α}(h:(l.set i x)[j]?=R y):(j=i/\y=x)\/(j≠i/\l[j]?=R y):=by
 rw[WY]at h;by_cases e:i=j
 .rw[ag e]at h
  split at h
  .ext h;show .inl #[e.symm,W]
  .ext h
 .rw[av e]at h;show .inr #[λz=>e z.symm,h]
def vF{pv:PV}(R:Rl K B Z O Y H ρ)(h:aaJ K Z O Y H ρ v pv)(e:zO ρ pv=lD (d,ρ')):∃X,Ev O H X H/\Rl K B Z X Y H ρ'/\DV X K H v d:=by
 cases pv with
 |fz d'=>ext e;show#[O,.refl,R,h]
 |ow ds=>ext e;let(a,vs,rfl,h1,h2,h3,U,T):=h;show#[HV O a,Ev.sub λb z=>z.1,R.sub h2 T,xJ h3 (λz=>z.2 W) (U.ev (Ev.sub λb z=>z.1))]
 |pl i=>
  let f:toS ρ i ρ[i]?=lD (d,ρ'):=e;let y:=h;cases q:ρ[i]? with
  |none=>rw[q]at f;ext f
  |some o=>
   cases o with
   |none=>rw[q]at f;ext f
   |some x=>
    let(u,E,A):=R.slot i x q;rw[y]at E;ext E;rw[q]at f;cases x with
    |fz d'=>ext f;show#[O,.refl,R,A]
    |pl j=>show A.elim
    |ow ds=>
     ext f;let(a,vs,rfl,k1,S,Q,P):=A;let es:Ev O H (HV O a) H:=Ev.sub λb z=>z.1;let F:=xJ Q (λz=>z.2 W) (P.ev es);show#[HV O a,es,#[R.same,λb m=>#[R.bo b m,λe=>R.ahg S (e▸m)],R.bd,λb m z=>R.od b m z.1,by rw[WU];show R.len,λj x l=>?_,λj k xs G w t r=>?_],F]
     .rcases cS l with⟨rfl,g⟩|⟨p,l⟩
      .ext g;show#[_,y,F]
      .let(u,C,n):=R.slot j x l
       show#[u,C,?_];cases x with
       |fz d=>show DV.ev es n
       |pl i=>show n
       |ow xs=>let(b,I,rfl,N,M,L,J):=n;show#[b,I,W,#[N,λz=>p (R.one j i xs ds (.ref a) l q (by rw[C,z]) y)],M,L,J.ev es]
     .rcases cS t with⟨rfl,g⟩|⟨_,t⟩
      .ext g
      .rcases cS r with⟨rfl,g⟩|⟨_,r⟩
       .ext g
       .show R.one j k xs G w t r
end
def XOk(K:Ld)(B:cJ)(H:Hp)(c:Vh)(b:br I)(x:Xc):Prop:=
 (∃a,c=.ref a/\VH K VD x.cls=R (R (.ref a)))/\∃fs,(∀p,b=R p->H p=R (.xd fs))/\∀f d,x.fs.lookup f=R d->b≠M/\∃v,fs.lookup f=R v/\DV B K H v d
def XE(K:Ld)(B:cJ)(a:Hp)(E:XK)(x:Xc):Prop:=∀c b H',Xl a H'->XOk K B H' c b x->E c b H'
def WR(K:Ld)(E:XK)(B:cJ)(b:Hp)(P:α->Prop):Res α->Prop
 |.ok a=>P a
 |.er x=>XE K B b E x
 |.bad=>False
section
variable{K:Ld}{E:XK}{B:cJ}{Z:Hp}
def WR.bind(h:WR K E B Z b (r.bind k)):WR K E B Z (λa=>WR K E B Z b (k a)) r:=by ext r<;>show h
def WR.WE(h:WR K E B Z b ((Res.WE o).bind k)):∃a,o=R a/\WR K E B Z b (k a):=by
 cases o with
 |none=>show h.elim
 |some a=>show#[a,W,h]
def WR.imp(h:WR K E B Z b r)(g:∀a,b a->P' a):WR K E B Z P' r:=by
 cases r with
 |ok a=>show g a h
 |er x=>show h
 |bad=>show h
end
abbrev FE:=bx->Res (PV×bx)
abbrev FT:=bx->Res (Bool×bx)
abbrev FA:=bx->Res (G PV×bx)
def EO(K:Ld)(E:XK)(t:TE)(f:FE):Prop:=
 ∀(B:cJ) (b:Hp) (O:cJ) (a:St) (H:Hp) (g:bx) (Q:VK),Rl K B b O a H g->WR K E B b (λr=>∀e v H',Ev O H e H'->Rl K B b e a H' r.2->aaJ K b e a H' r.2 v r.1->Q v H') (f g)->t a H Q
def TTO(K:Ld)(E:XK)(t:TT)(f:FT):Prop:=
 ∀(B:cJ) (b:Hp) (O:cJ) (a:St) (H:Hp) (e:bx) (Q:Bool->Hp->Prop),Rl K B b O a H e->WR K E B b (λr=>∀g H',Ev O H g H'->Rl K B b g a H' r.2->Q r.1 H') (f e)->t a H Q
def AO(K:Ld)(E:XK)(t:TA)(f:FA):Prop:=
 ∀(B:cJ) (b:Hp) (O:cJ) (a:St) (H:Hp) (g:bx) (Q:G V->Hp->Prop),Rl K B b O a H g->WR K E B b (λr=>∀e h H',Ev O H e H'->Rl K B b e a H' r.2->Paired (λv pv=>aaJ K b e a H' r.2 v pv/\mI pv) h r.1->Q h H') (f g)->t a H Q
inductive RV where
 |fz (d:D)
 |ow (ds:G D)
def RV.pv:RV->PV
 |.fz d=>.fz d
 |.ow ds=>.ow ds
def Fin(O:cJ)(K:Ld)(H:Hp)(Q:VK):RV->Prop
 |.fz d=>∀v H',Xl H H'->DV O K H' v d->Q v H'
 |.ow ds=>∀p a H',Xl H H'->H p=M->H' p=R (.lst a)->Xn (dz O p) K H' a ds->Q (.ref p) H'
def ra(O:cJ)(H:Hp):Prop:=∀a,H a=M->¬O a
section
variable{K:Ld}{E:XK}{B O X:cJ}{Y H H':Hp}{Z:St}{ρ ρ':bx}{v:V}
def pS(R:Rl K B Y O Z H ρ)(h:∀X v H',Ev O H X H'->Rl K B Y X Z H' ρ->aaJ K Y X Z H' ρ v C.pv->Q v H'):Fin O K H Q C:=by
 cases C with
 |fz d=>show λv H' s f=>h O v H' (Ev.grow s) (R.grow s) f
 |ow ds=>intro p r H' s b e f;show h (dz O p) (.ref p) H' (Ev.add s b) (R.add s b (by rw[e];simp)) #[p,r,W,.inr W,R.ahL b,e,f,λi w t z=>?_];let(u,g,a,m,l,q,o,j,n):=R.slot i _ t;rw[z]at g;ext g;ext l;rw[b]at j;ext j
theorem Fin.new(hd:Xn O K H vs ds)(h:Fin O K H Q (.ow ds)):∀p,H p=M->Q (.ref p) (bE H p (.lst vs)):=λp a=>
 h p vs _ (bq a _) a aJ (hd.ev (Ev.add (bq a _) a))
theorem Fin.agi(hd:Xn O K H vs ds)(b:ra O H)(h:Fin O K H Q (.fz (.tuple ds))):∀p,H p=M->Q (.ref p) (bE H p (.tup vs)):=λp a=>
 h (.ref p) _ (bq a _) (.tup #[SqT.of aJ,λz=>a6 z (b p a)] (hd.ev (Ev.grow (bq a _))))
theorem Fin.at(h:Fin O K H Q (.fz d))(a:DV O K H v d):Q v H:=h v H (Xl.refl H) a
def CY(ρ:bx)(i:Nat):br (br PV)->Res (PV×bx)
 |some (R (.fz d))=>.ok (.fz d,ρ)
 |some (R (.ow _))=>.ok (.pl i,ρ)
 |_=>.bad
def af(i:Nat):FE:=λρ=>CY ρ i ρ[i]?
def ay:EO K E (qG i) (af i):=by
 intro B Y O Z H ρ Q R w;unfold af at w;cases q:ρ[i]? with
 |none=>rw[q]at w;show w.elim
 |some o=>
  cases o with
  |none=>rw[q]at w;show w.elim
  |some x=>
   rw[q]at w;let(v,a,b):=R.slot i x q;cases x with
   |fz d=>show#[v,a,w O v H .refl R b]
   |ow ds=>show#[v,a,w O v H .refl R a]
   |pl j=>show w.elim
def pC(d:D):FE:=λρ=>.ok (.fz d,ρ)
theorem xL(h:∀O H,DV O K H v d):EO K E (tC v) (pC d):=λB Y O Z H ρ Q R w=>w O v H .refl R (h O H)
theorem aU:EO K E (tC (.int i)) (pC (.int i)):=xL λ_ _=>.int i
theorem SM:EO K E (tC (.bl b)) (pC (.bool b)):=xL λ_ _=>.bl b
theorem gF:EO K E (tC (.str x)) (pC (.str x)):=xL λ_ _=>.str x
theorem uB:EO K E (tC .Xo) (pC .none):=xL λ_ _=>.Xo
def oA(K:Ld)(r:R2)(f:D->D->br RV):Prop:=∀(O:cJ) (H:Hp) (x y:V) (e a:D) (b:RV) (Q:VK),ra O H->DX O K H x e->DX O K H y a->f e a=R b->Fin O K H Q b->r x y H Q
def aO(f:D->D->br RV)(c fb:FE):FE:=λρ=>(c ρ).bind λa=>(fb a.2).bind λb=>(Res.WE (AD b.2 (dH a.1))).bind λh=>(Res.WE (AD b.2 b.1)).bind λe=>(Res.WE (f h e)).bind λg=>.ok (g.pv,b.2)
def bA(u:oA K r f)(c:EO K E ta fa)(z:EO K E tb fb):EO K E (OZ r ta tb) (aO f fa fb):=by intro B Y O Z H ρ Q R w;show c B Y O Z H ρ _ R (w.bind.imp λa j U x T F J t=>?_);let(N,C,R2,q):=kj J t;show z B Y N Z T a.2 _ R2 (j.bind.imp λb e M y S i g p=>?_);let h:=q.keep (rT a.1) i (ρ':=b.2);let(dx,m,e):=e.WE;let(G,l,e):=e.WE;let(rv,n,e):=e.WE;show u M S x y dx G rv Q g.od (qX g h m) (qX g p l) n (pS g λL v P A I o=>?_);show e L v P (F.trans (C.trans (i.trans A))) I o
def Ub:D->br Bool
 |.bool b=>R b
 |_=>M
def Qt(h:DX O K H x d)(e:Ub d=R b):x=.bl b:=by ext d<;>ext e;ext h;rfl
def aW(c:FE):bx->Res (Bool×bx):=λρ=>(c ρ).bind λa=>(Res.WE (AD a.2 a.1)).bind λd=>(Res.WE (Ub d)).bind λb=>.ok (b,a.2)
def fV(c:EO K E o C):TTO K E (CH o) (aW C):=by intro B Y O Z H ρ Q R w;show c B Y O Z H ρ _ R (w.bind.imp λa e l x m j f i=>?_);let(d,g,e):=e.WE;let(b,h,e):=e.WE;show#[b,Qt (qX f i g) h,e l m j f]
theorem Ol(a:EO K E o C):TTO K E (tB o) (aW C):=fV a
def AY(b fb:FT):FT:=λρ=>(b ρ).bind λa=>if a.1=P then fb a.2 else .ok (Vq,a.2)
def Qm(b fb:FT):FT:=λρ=>(b ρ).bind λa=>if a.1=P then .ok (P,a.2)else fb a.2
theorem TTO.next(h:TTO K E t f)(R:Rl K B Y O1 Z H1 ρ)(a:Ev O H O1 H1)(w:WR K E B Y (λr=>∀X H',Ev O H X H'->Rl K B Y X Z H' r.2->Q r.1 H') (f ρ)):t Z H1 Q:=
 h B Y O1 Z H1 ρ Q R (w.imp λr q X H' b e=>q X H' (a.trans b) e)
theorem EO.next(h:EO K E t f)(R:Rl K B Y O1 Z H1 ρ)(b:Ev O H O1 H1)(w:WR K E B Y (λr=>∀X v H',Ev O H X H'->Rl K B Y X Z H' r.2->aaJ K Y X Z H' r.2 v r.1->Q v H') (f ρ)):t Z H1 Q:=
 h B Y O1 Z H1 ρ Q R (w.imp λr q X v H' e g a=>q X v H' (b.trans e) g a)
def Lg(m:TTO K E t f)(l:TTO K E u g):TTO K E (QD t u) (AY f g):=by
 intro B Y O Z H ρ Q R w;show m B Y O Z H ρ _ R (w.bind.imp λa e n o h i=>?_);let(b,j):=a;cases b with
 |true=>show l.next i h e
 |false=>show e n o h i
def Q3(m:TTO K E t f)(l:TTO K E u g):TTO K E (TF t u) (Qm f g):=by
 intro B Y O Z H ρ Q R w;show m B Y O Z H ρ _ R (w.bind.imp λa e n o h i=>?_);let(b,j):=a;cases b with
 |true=>show e n o h i
 |false=>show l.next i h e
def eD:FT:=λρ=>.ok (P,ρ)
theorem fy:TTO K E GC eD:=λB Y O Z H ρ Q R w=>w O H .refl R
def HM(b fb:FE):FE:=λρ=>(aW b ρ).bind λa=>if a.1=P then fb a.2 else .ok (.fz (.bool Vq),a.2)
def Kz(d:EO K E C J)(j:EO K E o fb):EO K E (Da C o) (HM J fb):=by
 intro B Y O Z H ρ Q R w;show fV d B Y O Z H ρ (λc e=>if c=P then o Z e Q else Q (.bl Vq) e) R (w.bind.imp λa f l e g h=>?_);let(b,i):=a;cases b with
 |true=>show j.next h g f
 |false=>show f l _ e g h (.bl Vq)
def aB:FA:=λρ=>.ok ([],ρ)
def ae(c:FE)(e:FA):FA:=λρ=>(c ρ).bind λa=>(e a.2).bind λb=>.ok (dH a.1::b.1,b.2)
theorem a9:AO K E kQ aB:=λB Y O Z H ρ Q R w=>w O [] H .refl R .nil
def aA(c:EO K E C J)(m:AO K E tr fr):AO K E (fU C tr) (ae J fr):=by intro B Y O Z H ρ Q R w;show c B Y O Z H ρ _ R (w.bind.imp λa h z x y o q l=>?_);let(t,n,R2,j):=kj q l;show m B Y t Z y a.2 _ R2 (h.bind.imp λb g r f u e p i=>?_);show g r (x::f) u (o.trans (n.trans e)) p (.cons #[j.keep (rT a.1) e,rT a.1] i)
def Ak(ρ:bx):G PV->br (G D)
 |[]=>R []
 |p::r=>match AD ρ p with
  |some d=>(match Ak ρ r with
   |some ds=>R (d::ds)
   |none=>M)
  |none=>M
theorem BL(R:Rl K B Y O Z H ρ):∀{g:G V} {c:G PV} {ds:G D},Paired (λv pv=>aaJ K Y O Z H ρ v pv/\mI pv) g c->Ak ρ c=lD ds->Paired (DX O K H) g ds
 |_,_,_,.nil,e=>by ext e;show .nil
 |_,_,_,.cons (l₂:=c) (b:=p) h t,e=>by
  unfold Ak at e;cases q:AD ρ p with
  |none=>rw[q]at e;ext e
  |some d=>
   rw[q]at e;dsimp only at e;cases f:Ak ρ c with
   |none=>rw[f]at e;ext e
   |some a=>rw[f]at e;ext e;show .cons (qX R h.1 q) (BL R t f)
def rJ(ρ:bx):G PV->br (G D×bx)
 |[]=>R ([],ρ)
 |p::r=>match zO ρ p with
  |some (d,b)=>(match rJ b r with
   |some (ds,a)=>R (d::ds,a)
   |none=>M)
  |none=>M
theorem tX:∀{k:G V} {c:G PV} {ds:G D} {O:cJ} {ρ ρ':bx},Rl K B Y O Z H ρ->Paired (λv pv=>aaJ K Y O Z H ρ v pv/\mI pv) k c->rJ ρ c=lD (ds,ρ')->∃X,Ev O H X H/\Rl K B Y X Z H ρ'/\Xn X K H k ds
 |_,_,_,O,_,_,C,.nil,e=>by ext e;show#[O,.refl,C,.nil]
 |_,_,_,O,ρ,ρ',C,.cons (l₁:=k) (l₂:=c) (b:=p) h t,e=>by
  unfold rJ at e;cases q:zO ρ p with
  |none=>rw[q]at e;ext e
  |some r=>
   let(d,a):=r;rw[q]at e;dsimp only at e;cases J:rJ a c with
   |none=>rw[J]at e;ext e
   |some m=>let(o,j):=m;rw[J]at e;ext e;let(A,i,y,w):=vF C h.1 q;let l:Paired (λv pv=>aaJ K Y A Z H a v pv/\mI pv) k c:=Paired.ZW t λv pv #[n,f]=>#[n.keep f i,f];let(z,g,R2,u):=tX y l J;show#[z,i.trans g,R2,.cons (w.ev g) u]
abbrev FN:=G D->Res RV
def rC(K:Ld)(n:Nat)(F:FN):Sp:=λb H Q E=>b.length=n/\∃(B:cJ) (ds:G D),(∀a,B a->H a≠M)/\Xn B K H b ds/\WR K E B H (Fin B K H Q) (F ds)
def ci(c:FA):FE:=λρ=>(c ρ).bind λa=>(Res.WE (rJ a.2 a.1)).bind λb=>if b.1.length<=1000 then .ok (.fz (.tuple b.1),b.2)else .bad
def dL(c:FA):FE:=λρ=>(c ρ).bind λa=>(Res.WE (rJ a.2 a.1)).bind λb=>if b.1.length<=1000 then .ok (.ow b.1,b.2)else .bad
theorem wI(h:n<=1000):n<=VF:=Wk h ()
def i9(c:AO K E C J):EO K E (NV C) (ci J):=by
 intro B Y O Z H ρ Q R w;show c B Y O Z H ρ _ R (w.bind.imp λa g u A y m o i=>?_);let((ds,f),q,b):=g.WE;let(t,l,R2,e):=tX o i q;dsimp only at b;by_cases hn:ds.length<=1000
 .rw[ag hn]at b;show#[by rw[e.length];show wI hn,Fin.agi e R2.od (pS R2 λp v r j n h=>b p v r (m.trans (l.trans j)) n h)]
 .rw[av hn]at b;show b.elim
def kK(c:AO K E C J):EO K E (Ra C) (dL J):=by
 intro B Y O Z H ρ Q R w;show c B Y O Z H ρ _ R (w.bind.imp λa g u A y m o i=>?_);let((ds,f),q,b):=g.WE;let(t,l,R2,e):=tX o i q;dsimp only at b;by_cases hn:ds.length<=1000
 .rw[ag hn]at b;show#[by rw[e.length];show wI hn,Fin.new e (pS R2 λp v r j n h=>b p v r (m.trans (l.trans j)) n h)]
 .rw[av hn]at b;show b.elim
def JL(K:Ld)(r:G V->Hp->VK->Prop)(f:G D->br RV):Prop:=∀(O:cJ) (H:Hp) (xs:G V) (ds:G D) (a:RV) (Q:VK),ra O H->Paired (DX O K H) xs ds->f ds=R a->Fin O K H Q a->r xs H Q
def gq(f:G D->br RV)(c:FA):FE:=λρ=>(c ρ).bind λa=>(Res.WE (Ak a.2 a.1)).bind λds=>(Res.WE (f ds)).bind λb=>.ok (b.pv,a.2)
def gZ(l:JL K r f)(c:AO K E C U):EO K E (Gb r C) (gq f U):=by intro B Y O Z H ρ Q R w;show c B Y O Z H ρ _ R (w.bind.imp λa g t A y n e j=>?_);let(ds,q,b):=g.WE;let(J,h,b):=b.WE;show l t y A ds J Q e.od (BL e j q) h (pS e λp v u m o i=>b p v u (n.trans m) o i)
def Tx:D->br Int
 |.int i=>R i
 |_=>M
def Kq(h:DX O K H x d)(e:Tx d=R i):x=.int i:=by ext d<;>ext e;ext h;rfl
abbrev FO:=bx->Res (br Int×bx)
def TB(K:Ld)(E:XK)(t:TO)(f:FO):Prop:=
 ∀(B:cJ) (Y:Hp) (O:cJ) (Z:St) (H:Hp) (ρ:bx) (Q:br Int->Hp->Prop),Rl K B Y O Z H ρ->WR K E B Y (λr=>∀X H',Ev O H X H'->Rl K B Y X Z H' r.2->Q r.1 H') (f ρ)->t Z H Q
def Ey:FO:=λρ=>.ok (M,ρ)
def zx(b:FE):FO:=λρ=>(b ρ).bind λa=>(Res.WE (AD a.2 a.1)).bind λd=>(Res.WE (Tx d)).bind λi=>.ok (R i,a.2)
theorem zB:TB K E DF Ey:=λB Y O Z H ρ Q R w=>w O H .refl R
def yZ(c:EO K E o C):TB K E (OO o) (zx C):=by intro B Y O Z H ρ Q R w;show c B Y O Z H ρ _ R (w.bind.imp λa f l x m j e h=>?_);let(d,q,b):=f.WE;let(i,g,b):=b.WE;show#[i,Kq (qX e h q) g,b l m j e]
def UJ(K:Ld)(r:V->br Int->br Int->Hp->VK->Prop)(f:D->br Int->br Int->br RV):Prop:=∀(O:cJ) (H:Hp) (x:V) (lo b:br Int) (e:D) (a:RV) (Q:VK),ra O H->DX O K H x e->f e lo b=R a->Fin O K H Q a->r x lo b H Q
def Tg(f:D->br Int->br Int->br RV)(c:FE)(b e:FO):FE:=λρ=>(c ρ).bind λa=>(b a.2).bind λl=>(e l.2).bind λh=>(Res.WE (AD h.2 (dH a.1))).bind λi=>(Res.WE (f i l.1 h.1)).bind λg=>.ok (g.pv,h.2)
def Om(u:UJ K r f)(c:EO K E ta fa)(y:TB K E tl fl)(z:TB K E th fh):EO K E (UU r ta tl th) (Tg f fa fl fh):=by intro B Y O Z H ρ Q R w;show c B Y O Z H ρ _ R (w.bind.imp λa m O1 x U F J t=>?_);let(P,C,R2,q):=kj J t;show y B Y P Z U a.2 _ R2 (m.bind.imp λl j N T i I=>?_);show z B Y N Z T l.2 _ I (j.bind.imp λh b M S g e=>?_);let(dx,n,b):=b.WE;let(rv,o,b):=b.WE;show u M S x l.1 h.1 dx rv Q e.od (qX e (q.keep (rT a.1) (i.trans g)) n) o (pS e λL v H5 A G p=>b L v H5 (F.trans (C.trans (i.trans (g.trans A)))) G p)
end
def xD{l:G α}(h:(l.set i x)[i]?=R y):i<l.length:=by
 rw[WY]at h;rw[ag W]at h;split at h
 .assumption
 .ext h
section
variable{K:Ld}{E:XK}{B O U:cJ}{Z H H':Hp}{Y:St}{ρ ρ':bx}{v:V}
def Rl.mut{i:Nat}{ds g:bg D}{a:Vm}{f:bg V}(R:Rl K B Z O Y H ρ)(c:ρ[i]?=lD (lD (.ow ds)))(J:Y[i]?=lD (lD (.ref a)))(L:O a)(M:Z a=Vg)(hd:Xn O K H f g):
  Rl K B Z O Y (bE H a (.lst f)) (ρ.set i (lD (.ow g))):=by
 let ev:Ev O H O (bE H a (.lst f)):=Ev.mut L _;show#[λb o e=>by rw[aG (cG e M)];show R.same b o e,R.bo,R.bd,λb m=>?_,by rw[WU];show R.len,λj x l=>?_,λj k xs G w hj X A t=>?_]
 .by_cases e:b=a
  .rw[e,aJ]at m;ext m
  .rw[aG e]at m;show R.od b m
 .rcases cS l with⟨rfl,ee⟩|⟨r,l⟩
  .ext ee;show#[_,J,a,f,W,L,M,aJ,hd.ev ev]
  .let(u,I,q):=R.slot j x l
   show#[u,I,?_];cases x with
   |fz d=>show DV.ev ev q
   |pl i=>show q
   |ow xs=>let(b,N,rfl,T,S,Q,P):=q;let F:b≠a:=λz=>r (R.one j i xs ds (.ref a) l c (by rw[I,z]) J);show#[b,N,W,T,S,by rw[aG F];show Q,P.ev ev]
 .let own:∀{j:Nat} {xs:bg D},(ρ.set i (lD (.ow g)))[j]?=lD (lD (.ow xs))->∃G,ρ[j]?=lD (lD (.ow G)):=λ{j xs} h=>by
   rcases cS h with⟨rfl,_⟩|⟨_,h⟩
   .show#[_,c]
   .show#[_,h]
  let(p,C):=own hj;let(n,y):=own X;show R.one j k p n w C y A t
theorem vS(h:n<1000000):n<VF:=VS h ()
def A9:br (br PV)->br (G D)
 |some (R (.ow ds))=>R ds
 |_=>M
def rV(h:A9 o=R ds):o=R (R (.ow ds)):=by
 unfold A9 at h;split at h
 .ext h;rfl
 .ext h
def FW(i:Nat)(c:FE):FE:=λρ=>(Res.WE (A9 ρ[i]?)).bind λ_=>(c ρ).bind λa=>(Res.WE (zO a.2 a.1)).bind λb=>(Res.WE (A9 b.2[i]?)).bind λds=>
 if ds.length<1000000 then .ok (.fz .none,b.2.set i (R (.ow (ds++[b.1]))))else .bad
def Kj(z:EO K E te fe):EO K E (SR K "list" xQ (qG i) (fU te kQ)) (FW i fe):=by
 intro B Z O Y H ρ Q R w;let(J,q,w):=w.WE;let(v,j,a,vs,rfl,T,S,A,P):=R.slot i _ (rV q);show#[_,j,.inl #[W,_,SqL.of A],?_];show z B Z O Y H ρ _ R (w.bind.imp λb e O1 y H1 F L r=>?_);let((d,o),p,e):=e.WE;let(M,C,R2,I):=vF L r p;let(ds,f,e):=e.WE;let f:=rV f;let(N,n,X,g,G,m,u,t,l):=R2.slot i _ f;subst G;rw[j]at n;ext n;dsimp only at e;by_cases h:ds.length<1000000
 .rw[ag h]at e;show#[a,g,y,W,W,t,vS (by rw[l.length];show h),?_];show e M .Xo _ (F.trans (C.trans (Ev.mut m _))) (R2.mut f j m u (l.append (.cons I .nil))) .Xo
 .rw[av h]at e;show e.elim
def Cd(i:Nat)(b:FE):FE:=λρ=>(Res.WE (A9 ρ[i]?)).bind λ_=>(b ρ).bind λa=>(Res.WE (AD a.2 a.1)).bind λd=>(Res.WE (Tx d)).bind λn=>(Res.WE (A9 a.2[i]?)).bind λds=>
 if -(2^63)<=n/\n<2^63 then(Res.WE (seqIndex? n ds.length)).bind λk=>(Res.WE ds[k]?).bind λx=>.ok (.fz x,a.2.set i (R (.ow (ds.eraseIdx k))))else .bad
def HX(I:EO K E te fe):EO K E (SR K "list" JU (qG i) (fU te kQ)) (Cd i fe):=by
 intro B Z O Y H ρ Q R w;let(S,z,w):=w.WE;let(v,l,a,vs,rfl,g2,g3,J,g5):=R.slot i _ (rV z);show#[_,l,.inl #[W,_,SqL.of J],?_];show I B Z O Y H ρ _ R (w.bind.imp λb e T y H1 M m A=>?_);let(d,t,e):=e.WE;let(n,q,e):=e.WE;let(ds,f,e):=e.WE;let f:=rV f;let L:=Kq (qX m A t) q;subst L;let(X,o,a',g,N,j,F,C,h):=m.slot i _ f;subst N;rw[l]at o;ext o;by_cases hn: -(2^63)<=n/\n<2^63
 .rw[ag hn]at e;let(k,r,e):=e.WE;let(x,p,e):=e.WE;let(u,G,P):=h.get p;show#[a,g,n,k,u,W,W,C,hn.1,hn.2,by rw[h.length];show r,G,?_];show e T u _ (M.trans (Ev.mut j _)) (m.mut f l j F (h.erase k)) (P.ev (Ev.mut j _))
 .rw[av hn]at e;show e.elim
abbrev FG:=PV->bx->Res bx
abbrev Sk:=G D->bx->Res bx
def GO(K:Ld)(E:XK)(g:TG)(f:FG):Prop:=
 ∀(B:cJ) (Z:Hp) (O:cJ) (Y:St) (H:Hp) (ρ:bx) (v:V) (pv:PV) (Q:St->Hp->Prop),Rl K B Z O Y H ρ->aaJ K Z O Y H ρ v pv->WR K E B Z (λρ'=>∀U a H',Ev O H U H'->Rl K B Z U a H' ρ'->Q a H') (f pv ρ)->g v Y H Q
def TC(K:Ld)(E:XK)(g:Qn)(f:Sk):Prop:=
 ∀(B:cJ) (Z:Hp) (O:cJ) (Y:St) (H:Hp) (ρ:bx) (b:G V) (ds:G D) (Q:St->Hp->Prop),Rl K B Z O Y H ρ->Xn O K H b ds->WR K E B Z (λρ'=>∀U a H',Ev O H U H'->Rl K B Z U a H' ρ'->Q a H') (f ds ρ)->g b Y H Q
def Rl.ajZ(R:Rl K B Z O Y H ρ)(h:DV O K H v d):Rl K B Z O (Y.set i (lD v)) H (ρ.set i (lD (.fz d))):=by
 show#[R.same,R.bo,R.bd,R.od,by rw[WU,WU];show R.len,λj x f=>?_,λj k xs o w m l b a=>?_]
 .rcases cS f with⟨rfl,e⟩|⟨g,f⟩
  .ext e;let:=xD f;show#[v,by rw[WY,ag W,ag (by rw[R.len];show this)],h]
  .let(u,t,r):=R.slot j x f;show#[u,by rw[WY,av (λz=>g z.symm)];show t,r]
 .rcases cS m with⟨rfl,n⟩|⟨q,m⟩
  .ext n
  .rcases cS l with⟨rfl,n⟩|⟨p,l⟩
   .ext n
   .rw[WY,av (λz=>q z.symm)]at b;rw[WY,av (λz=>p z.symm)]at a;show R.one j k xs o w m l b a
def Rl.amq(R:Rl K B Z O Y H ρ)(h:aaJ K Z O Y H ρ v (.ow ds)):Rl K B Z O (Y.set i (lD v)) H (ρ.set i (lD (.ow ds))):=by
 let(a,N,rfl,J,I,G,F,q):=h;show#[R.same,R.bo,R.bd,R.od,by rw[WU,WU];show R.len,λj x m=>?_,λj k xs p w C l f b=>?_]
 .rcases cS m with⟨rfl,e⟩|⟨o,m⟩
  .ext e;let:=xD m;show#[.ref a,by rw[WY,ag W,ag (by rw[R.len];show this)],a,N,W,J,I,G,F]
  .let(u,y,t):=R.slot j x m;show#[u,by rw[WY,av (λz=>o z.symm)];show y,t]
 .rcases cS C with⟨rfl,M⟩|⟨r,g⟩
  .rcases cS l with⟨rfl,L⟩|⟨n,l⟩
   .rfl
   .rw[WY,av (λz=>n z.symm)]at b
    rcases cS f with⟨_,e⟩|⟨z,_⟩
    .ext e;show a6 b (q k p l)
    .show a6 W z
  .let A:=g
   rw[WY,av (λz=>r z.symm)]at f;rcases cS l with⟨rfl,M⟩|⟨n,l⟩
   .rcases cS b with⟨_,e⟩|⟨z,_⟩
    .ext e;show a6 f (q j xs g)
    .show a6 W z
   .rw[WY,av (λz=>n z.symm)]at b;show R.one j k xs p w g l f b
def gN(i:Nat):FG:=λpv ρ=>match pv with
 |.ow ds=>.ok (ρ.set i (R (.ow ds)))
 |.fz d=>.ok (ρ.set i (R (.fz d)))
 |.pl j=>(Res.WE (zO ρ (.pl j))).bind λb=>.ok (b.2.set i (R (.fz b.1)))
def bS:GO K E (vp i) (gN i):=by
 intro B Z O Y H ρ v pv Q R p w;cases pv with
 |ow ds=>show w O _ H .refl (R.amq p)
 |fz d=>show w O _ H .refl (R.ajZ p)
 |pl j=>let((d,a),q,w):=WR.WE (show WR K E B Z _ ((Res.WE (zO ρ (.pl j))).bind λb=>.ok (b.2.set i (lD (.fz b.1))))from w);let(g,e,R2,f):=vF R p q;show w g _ H e (R2.ajZ f)
def TU:Sk:=λds ρ=>match ds with
 |[]=>.ok ρ
 |_=>.bad
def RO(f:FG)(g:Sk):Sk:=λds ρ=>match ds with
 |[]=>.bad
 |d::r=>(f (.fz d) ρ).bind λa=>g r a
def HK:TC K E Qo TU:=by
 intro B Z O Y H ρ b ds Q R a w;cases a with
 |nil=>show#[W,w O Y H .refl R]
 |cons _ _=>show w.elim
def wj(o:GO K E t f)(n:TC K E u g):TC K E (Hi t u) (RO f g):=by
 intro B Z O Y H ρ J ds Q R r w;cases r with
 |nil=>show w.elim
 |cons m l=>rename_i v J d ds;show#[_,_,W,o B Z O Y H ρ _ (.fz d) _ R m (WR.imp (WR.bind w) λe j A b F h y=>?_)];show n B Z A b F e _ _ Q y (l.ev h) (j.imp λi q z a C p R2=>q z a C (h.trans p) R2)
def UF:D->br (G D)
 |.tuple ds=>R ds
 |_=>M
def HJ(h:DX O K H x d)(e:UF d=R ds):∃a xs,x=.ref a/\aaG O K H a xs/\Xn O K H xs ds:=by
 ext d<;>ext e;cases h with
 |tup h b=>show#[_,_,W,h,b]
def gT(n:Nat)(f:Sk):FG:=λpv ρ=>(Res.WE (AD ρ pv)).bind λd=>(Res.WE (UF d)).bind λds=>if ds.length=n then f ds ρ else .bad
def Jm(h:TC K E t f):GO K E (P9 K n t) (gT n f):=by
 intro B Z O Y H ρ v pv Q R p w;let(d,g,w):=w.WE;let(ds,e,w):=w.WE;let(a,xs,rfl,i,b):=HJ (qX R p g) e;by_cases hn:ds.length=n
 .rw[ag hn]at w;show#[a,xs,W,i.1,b.length.trans hn,h B Z O Y H ρ xs ds Q R b w]
 .rw[av hn]at w;show w.elim
inductive Fl where
 |nx (ρ:bx)
 |rt (rv:RV)
 |bk (ρ:bx)
 |ct (ρ:bx)
abbrev FS:=bx->Res Fl
def aec(K:Ld)(B:cJ)(Z:Hp)(O:cJ)(H:Hp)(D:Ends):Fl->Prop
 |.nx ρ'=>∀U a H',Ev O H U H'->Rl K B Z U a H' ρ'->D.nx a H'
 |.bk ρ'=>∀U a H',Ev O H U H'->Rl K B Z U a H' ρ'->D.bk a H'
 |.ct ρ'=>∀U a H',Ev O H U H'->Rl K B Z U a H' ρ'->D.ct a H'
 |.rt b=>Fin B K Z D.rt b
def SO(K:Ld)(E:XK)(t:TS)(g:FS):Prop:=
 ∀(B:cJ) (Z:Hp) (O:cJ) (Y:St) (H:Hp) (ρ:bx) (D:Ends),Rl K B Z O Y H ρ->WR K E B Z (aec K B Z O H D) (g ρ)->t D Y H
def aec.ev{D:Ends}(e:Ev O H O1 H1)(h:aec K B Z O H D fl):aec K B Z O1 H1 D fl:=by
 cases fl with
 |nx ρ'=>show λU a H' b f=>h U a H' (e.trans b) f
 |bk ρ'=>show λU a H' b f=>h U a H' (e.trans b) f
 |ct ρ'=>show λU a H' b f=>h U a H' (e.trans b) f
 |rt g=>show h
def gm:FS:=λρ=>.ok (.nx ρ)
def cr(f g:FS):FS:=λρ=>(f ρ).bind λa=>match a with
 |.nx b=>g b
 |a=>.ok a
def nr(f:FE):FS:=λρ=>(f ρ).bind λa=>.ok (.nx a.2)
def gH(f:FE)(g:FG):FS:=λρ=>(f ρ).bind λa=>(g a.1 a.2).bind λb=>.ok (.nx b)
def oE(c:FT)(f g:FS):FS:=λρ=>(c ρ).bind λa=>if a.1=P then f a.2 else g a.2
def Fp(ρ:bx):PV->br RV
 |.fz d=>R (.fz d)
 |.ow ds=>R (.ow ds)
 |.pl i=>match ρ[i]? with
  |some (R (.fz d))=>R (.fz d)
  |some (R (.ow ds))=>R (.ow ds)
  |_=>M
def fO(f:FE):FS:=λρ=>(f ρ).bind λa=>(Res.WE (Fp a.2 a.1)).bind λb=>.ok (.rt b)
theorem Ly:SO K E Es gm:=λB Z O Y H ρ D R w=>w O Y H .refl R
def cY(j:SO K E t f)(i:SO K E u g):SO K E (Nw t u) (cr f g):=by
 intro B Z O Y H ρ D R w;show j B Z O Y H ρ {D with nx:=u D} R (WR.imp (WR.bind w) λh b=>?_);cases h with
 |nx a=>show λn e o l m=>i B Z n e o a D m (WR.imp b λh q=>q.ev l)
 |rt p=>show b
 |bk a=>show b
 |ct a=>show b
def wx(h:EO K E t f):SO K E (Dl t) (nr f):=by intro B Z O Y H ρ D R w;show h B Z O Y H ρ _ R (w.bind.imp λa b i x j e g l=>b i Y j e g)
def ic(h:EO K E t f)(m:GO K E g C):SO K E (F0 t g) (gH f C):=by intro B Z O Y H ρ D R w;show h B Z O Y H ρ _ R (w.bind.imp λa j r x y o p l=>?_);show m B Z r Y y a.2 x a.1 _ p l (j.bind.imp λe i q b u n R2=>i q b u (o.trans n) R2)
def Tl(n:TTO K E c C)(p:SO K E t f)(o:SO K E u g):SO K E (Lm c t u) (oE C f g):=by
 intro B Z O Y H ρ D R w;show n B Z O Y H ρ _ R (w.bind.imp λa h l m i j=>?_);let(b,e):=a;cases b with
 |true=>show p B Z l Y m e D j (WR.imp h λr q=>q.ev i)
 |false=>show o B Z l Y m e D j (WR.imp h λr q=>q.ev i)
def PD{pv:PV}(R:Rl K B Z O Y H ρ)(p:aaJ K Z O Y H ρ v pv)(e:Fp ρ pv=lD C)(w:Fin B K Z Q C):Q v H:=by
 let ow:∀{a:I} {A:G V} {ds:G D},O a->Z a=M->H a=lD (.lst A)->Xn O K H A ds->Fin B K Z Q (.ow ds)->Q (.ref a) H:=λ{a A ds} m l g f w=>
  w a A H R.same l g (f.ev (Ev.sub λb z=>z.elim (R.bo b) λe=>by rw[e];show m))
 let fz:∀{d:D},DV O K H v d->Fin B K Z Q (.fz d)->Q v H:=λ{d} h w=>w v H R.same (h.ev (Ev.sub R.bo));cases pv with
 |fz d=>ext e;show fz p w
 |ow ds=>ext e;let(a,A,rfl,m,l,g,f,y):=p;show ow m l g f w
 |pl i=>
  let t:=p;unfold Fp at e;dsimp only at e;cases q:ρ[i]? with
  |none=>rw[q]at e;ext e
  |some o=>
   cases o with
   |none=>rw[q]at e;ext e
   |some x=>
    let(u,r,n):=R.slot i x q;rw[t]at r;ext r;rw[q]at e;cases x with
    |fz d=>ext e;show fz n w
    |ow ds=>ext e;let(a,A,rfl,m,l,g,f):=n;show ow m l g f w
    |pl j=>show n.elim
def kJ(h:EO K E t f):SO K E (KO t) (fO f):=by intro B Z O Y H ρ D R w;show h B Z O Y H ρ _ R (w.bind.imp λa b j x l i g e=>?_);let(m,q,b):=b.WE;show PD g e q b
def BR(K:Ld)(J:It)(O:cJ)(H:Hp)(ds:G D):Prop:=∀U H',Ev O H U H'->ra U H'->
 (∀i,i<ds.length->J.go i H'/\∀x a,J.yld i H' x a->Xl H' a/\∃d,ds[i]?=R d/\DV U K a x d)/\J.stop ds.length H'
abbrev FI:=bx->Res (G D×bx)
def IO(K:Ld)(E:XK)(b:TI)(e:FI):Prop:=
 ∀(B:cJ) (Z:Hp) (O:cJ) (Y:St) (H:Hp) (ρ:bx) (a:It->Hp->Prop),Rl K B Z O Y H ρ->WR K E B Z (λr=>∀U J H',Ev O H U H'->Rl K B Z U Y H' r.2->BR K J U H' r.1->a J H') (e ρ)->b Y H a
def rG(gt:FG)(b:FS):G D->FS
 |[],ρ=>.ok (.nx ρ)
 |d::r,ρ=>(gt (.fz d) ρ).bind λa=>(b a).bind λe=>match e with
  |.nx f=>rG gt b r f
  |.ct f=>rG gt b r f
  |.bk f=>.ok (.nx f)
  |.rt g=>.ok (.rt g)
def uX(e:FI)(gt:FG)(b:FS):FS:=λρ=>(e ρ).bind λa=>rG gt b a.1 a.2
def BQ(c:IO K E wi fi)(k:GO K E g gt)(s:SO K E tb b):SO K E (QI wi g tb) (uX fi gt b):=by
 intro B Z O Y H ρ D R w;show c B Z O Y H ρ _ R (w.bind.imp λa M G J T Q S P=>?_);let(ds,F):=a;dsimp only at M P S;show#[λi m f H'=>m=ds.length - i/\i<=ds.length/\∃O2 ρ2,Ev G T O2 H'/\Rl K B Z O2 f H' ρ2/\WR K E B Z (aec K B Z O H D) (rG gt b (ds.drop i) ρ2),#[_,W,Wo _,G,F,.refl,S,M],?_];rintro i m n L ⟨rfl,c,O2,ρ2,e2,R2,w2⟩;let(go,o):=P O2 L e2 R2.od;by_cases z:i<ds.length
 .let(g1,g2):=go i z
  show .inr #[g1,λf H'=>i+1<=ds.length/\∃O2 ρ2,Ev G T O2 H'/\Rl K B Z O2 f H' ρ2/\WR K E B Z (aec K B Z O H D) (rG gt b (ds.drop (i+1)) ρ2),λf H' #[h1,h2]=>#[ds.length - (i+1),by ext,W,h1,h2],λx I y=>?_];let(N,d,hd,dv):=g2 x I y;let ed:ds.drop i=d::ds.drop (i+1):=by let(_,q):=Vk.mp hd;rw[YL z,q]
  rw[ed]at w2;let e3:Ev O2 L O2 I:=Ev.grow N;show k B Z O2 n I ρ2 x (.fz d) _ (R2.grow N) dv (WR.imp (WR.bind w2) λC X O4 A H4 e4 R4=>?_);let l:=e2.trans (e3.trans e4);show s B Z O4 A H4 C _ R4 (WR.imp (WR.bind X) λfl u=>?_);cases fl with
  |nx h=>show λt j H5 p r=>#[z,t,h,l.trans p,r,u]
  |ct h=>show λt j H5 p r=>#[z,t,h,l.trans p,r,u]
  |bk h=>show λt j H5 p r=>u t j H5 (Q.trans (l.trans p)) r
  |rt rv=>show u
 .let e:i=ds.length:=by ext
  subst e;rw[Zc (Vy _)]at w2;show .inl #[o,w2 O2 n L (Q.trans e2) R2]
def kq(c:FT)(b:FS):Nat->FS
 |0,_=>.bad
 |n+1,ρ=>(c ρ).bind λa=>if a.1=P then(b a.2).bind λe=>match e with
  |.nx f=>kq c b n f
  |.ct f=>kq c b n f
  |.bk f=>.ok (.nx f)
  |.rt g=>.ok (.rt g)else .ok (.nx a.2)
def GH(c:FT)(b:FS):FS:=kq c b 1000000
def Az(I:TTO K E c fc)(J:SO K E tb b):SO K E (Bm c tb) (GH fc b):=by
 intro B Z O Y H ρ D R w;show#[λm f H'=>∃l e,Ev O H l H'/\Rl K B Z l f H' e/\WR K E B Z (aec K B Z O H D) (kq fc b m e),#[_,O,ρ,.refl,R,w],?_];rintro m i M ⟨l,e,A,R2,y⟩;cases m with
 |zero=>show y.elim
 |succ m=>
  show I B Z l i M e _ R2 (WR.imp (WR.bind y) λa t F G z C=>?_);let(k,u):=a;cases k with
  |true=>
   rw[ag W]at t⊢;show#[λf H'=>∃l e,Ev O H l H'/\Rl K B Z l f H' e/\WR K E B Z (aec K B Z O H D) (kq fc b m e),λf H' q=>#[m,YK m,q],?_];show J B Z F i G u _ C (WR.imp (WR.bind t) λL r=>?_);let j:=A.trans z;cases L with
   |nx g=>show λp h H5 n o=>#[p,g,j.trans n,o,r]
   |ct g=>show λp h H5 n o=>#[p,g,j.trans n,o,r]
   |bk g=>show λp h H5 n o=>r p h H5 (j.trans n) o
   |rt N=>show r
  |false=>rw[av Vu]at t⊢;show t F i G (A.trans z) C
def gl:D->br (G D)
 |.tuple ds=>R ds
 |.list ds=>R ds
 |_=>M
def G9(K:Ld)(e:TE):TI:=λY H R=>e Y H λx b=>∃a,x=.ref a/\(((∃xs,SqL K b a xs)/\R (T7 K a) b)\/((∃xs,SqT K b a xs)/\R (Ud K a) b))
def gj(y:PE X l C):PI X J l (G9 X.K C):=by
 intro i s Y H R I h;show cR (y i s Y H _ I h) λv g a=>?_;let(x,r,f,t,u):=a;let(a,e,q):=u;subst e;ext t;rcases q with⟨⟨xs,j⟩,q⟩|⟨⟨xs,j⟩,q⟩
 .let(n,A,p,w):=f.list j
  show ZX p.isList ?_;show#[g.heap.objs.size,[g.heap.objs.size],_,_,r,W,f.kept λb o e=>bP _ e,E1 a _,#[_,cx _ W,W,W],λb m=>?_,q];let e:b=g.heap.objs.size:=by simpa using m
  subst e;show f.acD (Vy _) (f.WT.fresh (Vy _))
 .let(n,A,p,w):=f.tuple j
  show abv (show g.heap.IsTuple a n.toArray from p) ?_;show#[g.heap.objs.size,[g.heap.objs.size],_,_,r,W,f.kept λb o e=>bP _ e,Bz a _,#[_,cx _ W,W,W],λb m=>?_,q];let e:b=g.heap.objs.size:=by simpa using m
  subst e;show f.acD (Vy _) (f.WT.fresh (Vy _))
def Cz(h:ach O K H a xs)(hd:Xn O K H xs ds):BR K (T7 K a) O H ds:=by intro U H' e n;let f:=h.ev e;let b:=hd.ev e;show#[λi p=>?_,#[xs,f.1.sq,by rw[hd.length];show Vy _]];let(x,l,_):=b.get (Vv p);show#[#[xs,x,f.1.sq,l],?_];rintro y m ⟨rfl,o⟩;let(d,j,g):=b.aiy (o xs f.1.sq);show#[Xl.refl _,d,j,g]
def Jp(h:aaG O K H a xs)(hd:Xn O K H xs ds):BR K (Ud K a) O H ds:=by intro U H' e n;let f:=h.ev e;let b:=hd.ev e;show#[λi p=>?_,#[xs,f.1,by rw[hd.length];show Vy _]];let(x,l,_):=b.get (Vv p);show#[#[xs,x,f.1,l],?_];rintro y m ⟨rfl,o⟩;let(d,j,g):=b.aiy (o xs f.1);show#[Xl.refl _,d,j,g]
def jo(c:FE):FI:=λρ=>(c ρ).bind λa=>(Res.WE (zO a.2 a.1)).bind λb=>(Res.WE (gl b.1)).bind λds=>.ok (ds,b.2)
def jg(h:EO K E C J):IO K E (G9 K C) (jo J):=by
 intro B Z O Y H ρ r R w;show h B Z O Y H ρ _ R (w.bind.imp λa b t x l i p n=>?_);let((d,m),q,b):=b.WE;let(j,g,R2,o):=vF p n q;let(ds,e,b):=b.WE;dsimp only at e;cases o with
 |tup h f=>ext e;show#[_,W,.inr #[#[_,h.1],b j _ l (i.trans g) R2 (Jp h f)]]
 |lst h f=>ext e;show#[_,W,.inl #[#[_,h.1.sq],b j _ l (i.trans g) R2 (Cz h f)]]
 |_=>ext e
def hV(lo:Int)(n:Nat):G D:=(VO n).map λ(k:Nat)=>.int (lo+(k:Int))
def Gz:BR K (TR lo n) O H (hV lo n):=by
 intro U H' e f;let a:(hV lo n).length=n:=by ext hV;rw[Vj,Wg]
 show#[λi g=>?_,by show n<=_;rw[a];show Vy _];rw[a]at g;show#[g,?_];rintro x b ⟨rfl,rfl⟩;show#[Xl.refl _,.int (lo+i),by ext hV;rw[Vx,YQ g];rfl,.int _]
def mq(i:Int):Prop:= -(2^62)<=i/\i<2^62
noncomputable instance(i:Int):Decidable (mq i):=by ext mq;infer_instance
def k6:G D->br (G D)
 |[.int j]=>if mq j then R (hV 0 j.toNat)else M
 |_=>M
def rN(f:G D->br (G D))(b:FA):FI:=λρ=>(b ρ).bind λa=>(Res.WE (Ak a.2 a.1)).bind λds=>(Res.WE (f ds)).bind λxs=>.ok (xs,a.2)
def jF(h:AO K E C J):IO K E (OB C) (rN k6 J):=by
 intro B Z O Y H ρ t R w;show h B Z O Y H ρ _ R (w.bind.imp λa e p u r o g l=>?_);let(ds,q,e):=e.WE;let(xs,b,e):=e.WE;let i:=BL g l q;unfold k6 at b;split at b
 .rename_i j
  split at b
  .rename_i f
   ext b;cases i with
   |cons n m=>ext m;ext n;show#[j,W,f.1,f.2,e p _ r o g Gz]
  .ext b
 .ext b
end
section
variable{K:Ld}{E:XK}{B O Y:cJ}{X H H':Hp}{Z:St}{ρ ρ':bx}{v:V}
def HY:br PV->br PV
 |some (.fz d)=>R (.fz d)
 |_=>M
def dR(ρ:bx):bx:=ρ.map HY
def B1{i:Nat}(h:(dR ρ)[i]?=R (R x)):∃d,x=.fz d/\ρ[i]?=R (R (.fz d)):=by
 unfold dR at h;rw[Vx]at h;cases q:ρ[i]? with
 |none=>rw[q]at h;ext h
 |some o=>
  rw[q]at h;let a:=VR h;unfold HY at a;split at a
  .ext a;show#[_,W,W]
  .ext a
def vX(ρ:bx):G Nat->br (G D×bx)
 |[]=>R ([],ρ)
 |j::r=>match zO ρ (.pl j)with
  |some (d,b)=>(match vX b r with
   |some (c,a)=>R (d::c,a)
   |none=>M)
  |none=>M
def Fj(R:Rl K B X O Z H ρ)(h:zO ρ (.pl i)=lD (d,ρ')):∃v,Z[i]?=lD (lD v):=by
 let a:toS ρ i ρ[i]?=lD (d,ρ'):=h;cases q:ρ[i]? with
 |none=>rw[q]at a;ext a
 |some o=>
  cases o with
  |none=>rw[q]at a;ext a
  |some x=>let(v,b,_):=R.slot i x q;show#[v,b]
theorem z8:∀{f:G Nat} {ds:G D} {O:cJ} {ρ ρ':bx},Rl K B X O Z H ρ->vX ρ f=lD (ds,ρ')->∃Y k,Ev O H Y H/\Rl K B X Y Z H ρ'/\Xn Y K H k ds/\f.map (λj=>(Z[j]?).join)=k.map lD
 |[],_,O,_,_,y,e=>by ext e;show#[O,[],.refl,y,.nil,W]
 |j::r,_,O,ρ,ρ',y,e=>by
  unfold vX at e;cases q:zO ρ (.pl j)with
  |none=>rw[q]at e;ext e
  |some p=>
   let(d,a):=p;rw[q]at e;dsimp only at e;cases A:vX a r with
   |none=>rw[A]at e;ext e
   |some i=>let(c,h):=i;rw[A]at e;ext e;let(v,b):=Fj y q;let(w,m,t,o):=vF (pv:=.pl j) y b q;let(u,k,g,R2,n,l):=z8 t A;show#[u,v::k,m.trans g,R2,.cons (o.ev g) n,by rw[VP,VP,l,b];rfl]
def d4(gt:FG)(c:FT)(f:FE):G D->bx->G D->Res (G D)
 |[],_,acc=>.ok acc
 |d::r,ρ,acc=>(gt (.fz d) ρ).bind λe=>(c e).bind λb=>if b.1=P then(f b.2).bind λa=>(Res.WE (zO a.2 a.1)).bind λx=>
   if acc.length<1000000 then d4 gt c f r (dR x.2) (acc++[x.1])else .bad
  else d4 gt c f r (dR b.2) acc
def k8:Res α->Res α
 |.er _=>.bad
 |r=>r
def fW(n:Nat)(b:G Nat)(e:FI)(gt:FG)(f:FT)(g:FE):FE:=λρ=>(e ρ).bind λa=>(Res.WE (vX a.2 b)).bind λc=>
 (k8 (d4 gt f g a.1 (Vw n M++c.1.map λd=>R (.fz d)) [])).bind λxs=>.ok (.ow xs,c.2)
def Dt{own:G Str}(h:own.length=n):own.map (λ_=>(M:br V))=Vw n M:=by
 subst h
 induction own with
 |nil=>rfl
 |cons x r a=>rw[VP,a,VI,WK]
def D2(h:WR K E B X b (k8 r)):∃a,r=.ok a/\b a:=by
 cases r with
 |ok a=>show#[a,W,h]
 |er x=>show h.elim
 |bad=>show h.elim
def SQ(K:Ld)(J:It)(O:cJ)(H:Hp)(ds:G D):Prop:=∀Y H',Ev O H Y H'->Xl H H'->ra Y H'->
 (∀i,i<ds.length->J.go i H'/\∀x a,J.yld i H' x a->Xl H' a/\∃d,ds[i]?=R d/\DV Y K a x d)/\J.stop ds.length H'
def UI(K:Ld)(E:XK)(b:TI)(e:FI):Prop:=
 ∀(B:cJ) (X:Hp) (O:cJ) (Z:St) (H:Hp) (ρ:bx) (a:It->Hp->Prop),Rl K B X O Z H ρ->WR K E B X (λr=>∀Y J H',Ev O H Y H'->Rl K B X Y Z H' r.2->SQ K J Y H' r.1->a J H') (e ρ)->b Z H a
theorem IO.s(h:IO K E wi fi):UI K E wi fi:=λB X O Z H ρ f R w=>h B X O Z H ρ f R (w.imp λr q Y J H' e R a=>q Y J H' e R λg i b _ n=>a g i b n)
def GP(c:own.length=n)(hf:fv.map (·.2)=fj)
  (hi:UI K E wi fi) (hg:GO K E0 g gt) (ht:TTO K E0 tc ft) (he:EO K E0 te fe):EO K E (tE own fv wi g tc te) (fW n fj fi gt ft fe):=by
 intro B X O Z H ρ Q R w;show hi B X O Z H ρ _ R (w.bind.imp λa w1 O1 J H1 e1 R1 it=>?_);let(ds,ρ1):=a;let((cs,ρ2),qc,w1):=w1.WE;dsimp only at qc it;let(I,vs,e2,R2,dvs,hvs):=z8 R1 qc;let(xs,qx,w1):=D2 (WR.bind w1);intro l F;let hB:∀{H':Hp},Xl H1 H'->H' l≠Vg->∀a,dz I l a->H' a≠Vg:=λ{H'} s nd a h z=>h.elim (λq=>R2.od a (s.free z) q) λe=>nd (by rw[<-e];show z);show#[λi m L H'=>m=ds.length - i/\i<=ds.length/\∃(A:bg D) (G:bg V) (t:bx),Xl H1 H'/\H' l=lD (.lst G)/\Xn (dz I l) K H' G A/\L.length=t.length/\(∀(j:Nat) (x:PV),t[j]?=lD (lD x)->∃d u,x=PV.fz d/\L[j]?=lD (lD u)/\DV (dz I l) K H' u d)/\d4 gt ft fe (ds.drop i) t A=.ok xs,
  #[_,W,Wo _,[],[],_,bq F _,aJ,.nil,?_,λj x M=>?_,qx],?_]
 .ext jO;rw[Vs,Vs,Vj,Vj,Wb,Vj,c,<-dvs.length];let:=eH Zu hvs;rw[Vj,Vj,<-hf,Vj]at this;ext
 .let hm:fv.map (λp=>(Z[p.2]?).join)=vs.map lD:=by rw[<-hvs,<-hf,Wt];rfl
  ext jO;rw[Dt c,hm];by_cases hj:j<n
  .rw[VN (by rw[Wb];show hj),Xx,ag hj]at M;ext M
  .rw[V5 (by rw[Wb];ext),Wb,Vx]at M⊢
   cases qd:cs[j - n]? with
   |none=>rw[qd]at M;ext M
   |some d=>rw[qd]at M;ext M;let(u,hu,du):=dvs.get qd;show#[d,u,W,by rw[hu];rfl,du.ev (Ev.add (bq F _) F)]
 .rintro i m L H' ⟨rfl,hi,A,G,t,s,hD,dys,hl,hsl,f⟩
  let nD:H' l≠Vg:=by rw[hD];simp
  let no':=λa z h=>hB s nD a h z;let ev1:=e2.trans (Ev.add s F);let(go,stop):=it (dz I l) H' ev1 s no';by_cases ZO:i<ds.length
  .let(g1,g2):=go i ZO
   show .inr #[g1,λC H5=>i+1<=ds.length/\∃(A:bg D) (G:bg V) (t:bx),Xl H1 H5/\H5 l=lD (.lst G)/\Xn (dz I l) K H5 G A/\C.length=t.length/\(∀(j:Nat) (x:PV),t[j]?=lD (lD x)->∃d u,x=PV.fz d/\C[j]?=lD (lD u)/\DV (dz I l) K H5 u d)/\d4 gt ft fe (ds.drop (i+1)) t A=.ok xs,
    λC H5 #[T,h2]=>#[ds.length - (i+1),by ext,W,T,h2],λx H3 y=>?_]
   let(s3,d,hd,dv):=g2 x H3 y;let ed:ds.drop i=d::ds.drop (i+1):=by let(_,q):=Vk.mp hd;rw[YL ZO,q]
   rw[ed]at f;let hD3:=s3 _ _ hD;let nD3:H3 l≠Vg:=by rw[hD3];simp
   let sv:=s.trans s3;let RC:Rl K (dz I l) H3 (dz I l) L H3 t:=#[Xl.refl _,λ_ h=>h,hB sv nD3,λa z h=>hB sv nD3 a h z,hl,λj x M=>by let(d,u,rfl,T,h2):=hsl j x M;show#[u,T,h2.ev (Ev.grow s3)],λj k xs G w hj=>by let(d,u,e,_):=hsl j _ hj;ext e];unfold d4 at f;let U:∀{O5:cJ} {C:St} {H5:Hp} {N:bx} {H6:Hp},Rl K (dz I l) H3 O5 C H5 N->(∀b o,b≠l->H5 b=lD o->H6 b=lD o)->C.length=(dR N).length/\∀(j:Nat) (x:PV),(dR N)[j]?=lD (lD x)->∃d u,x=PV.fz d/\C[j]?=lD (lD u)/\DV (dz I l) K H6 u d:=λ{O5 C H5 N H6} S k=>by show#[by ext dR;rw[Vj];show S.len,λj x M=>?_];let(d,rfl,hxx):=B1 M;let(u,T,h2):=S.slot j _ hxx;show#[d,u,W,T,DV.ev (λb o h n=>#[k b o (λe=>n (.inr e)) h,n]) (DV.ev (Ev.sub S.bo) h2)]
   show hg _ _ _ L H3 t x (.fz d) _ RC dv ?_;cases qg:gt (.fz d) t with
   |er z=>rw[qg]at f;ext f
   |bad=>rw[qg]at f;ext f
   |ok ρ3=>
    rw[qg,e8]at f;intro O4 σ4 H4 e4 R4;show ht _ _ _ σ4 H4 ρ3 _ R4 ?_;cases qt:ft ρ3 with
    |er z=>rw[qt]at f;ext f
    |bad=>rw[qt]at f;ext f
    |ok b=>
     let(b,ρ4):=b;rw[qt,e8]at f;intro O5 H5 e5 S;cases b with
     |false=>rw[av Vu]at f⊢;let(l5,k5):=U S λb o _ h=>h;show#[ZO,A,G,dR ρ4,sv.trans S.same,S.same _ _ hD3,?_,l5,k5,f];show dys.ev (Ev.grow (s3.trans S.same))
     |true=>
      rw[ag W]at f⊢;show he _ _ _ σ4 H5 ρ4 _ S ?_;cases qe:fe ρ4 with
      |er z=>rw[qe]at f;ext f
      |bad=>rw[qe]at f;ext f
      |ok r=>
       rw[qe,e8]at f;intro O6 yv H6 e6 R6 p6;cases q7:zO r.2 r.1 with
       |none=>rw[q7]at f;ext f
       |some xr=>
        let(xd,ρ7):=xr;rw[q7]at f;let(O7,e7,R7,dv7):=vF R6 p6 q7;let hD7:=R7.same _ _ hD3;let P:(if A.length<1000000 then d4 gt ft fe (ds.drop (i+1)) (dR ρ7) (A++[xd])else .bad)=.ok xs:=f;by_cases hl6:A.length<1000000
        .rw[ag hl6]at P
         let up:∀b o,b≠l->H6 b=lD o->bE H6 l (.lst (G++[yv])) b=lD o:=λb o hb h=>by rw[aG hb];show h
         let eY:Ev (dz I l) H6 (dz I l) (bE H6 l (.lst (G++[yv]))):=λb o h n=>#[up b o (λe=>n (.inr e)) h,n];let ame:=dys.ev (Ev.grow (s3.trans R7.same));let(l5,k5):=U R7 up;show#[G,hD7,vS (by rw[dys.length];show hl6),ZO,A++[xd],G++[yv],dR ρ7,λb o h=>?_,aJ,?_,l5,k5,P]
         .rw[aG (cG h F)];show R7.same _ _ (sv _ _ h)
         .show(ame.append (.cons (DV.ev (Ev.sub R7.bo) dv7) .nil)).ev eY
        .rw[av hl6]at P;ext P
  .let e:i=ds.length:=by ext
   subst e;rw[Zc (Vy _)]at f;let f:=f;ext f;show .inl #[stop,?_];show w1 (dz I l) (.ref l) H' (e1.trans ev1) (R2.add s F nD) #[l,G,W,.inr W,R2.ahL F,hD,dys,λk es hk z=>?_];let(u,T,b,us,e2,g1,g2,g3,g4):=R2.slot k _ hk;rw[z]at T;ext T;ext e2;rw[F]at g3;ext g3
theorem fE(c:own.length=n)(e:U.map (·.2)=fj)
  (d:IO K E o fi) (b:GO K E0 g gt) (a:TTO K E0 J ft) (f:EO K E0 C fe):EO K E (tE own U o g J C) (fW n fj fi gt ft fe):=GP c e d.s b a f
def cZ(F:FN)(n:Nat)(c:FA):FE:=λρ=>(c ρ).bind λa=>(Res.WE (rJ a.2 a.1)).bind λb=>if b.1.length=n then(k8 (F b.1)).bind λe=>.ok (e.pv,b.2)else .bad
def gK(c:AO K E J U):EO K E (jt (rC K n F) [] E0 J) (cZ F n U):=by
 intro B X O Z H ρ Q R w;show c B X O Z H ρ _ R (w.bind.imp λa g C L G p t j=>?_);let((ds,f),q,b):=g.WE;let(y,o,R2,e):=tX t j q;dsimp only at b;by_cases hn:ds.length=n
 .rw[ag hn]at b;let(N,h,b):=D2 (WR.bind b);rw[V2];show#[e.length.trans hn,y,ds,λa z l=>R2.od a l z,e,?_];rw[h];show pS R2 λu v A m r i=>b u v A (p.trans (o.trans m)) r i
 .rw[av hn]at b;show b.elim
end
def iB(N:Nat)(g:FS):FN:=λds=>(g (ds.map (λd=>R (.fz d))++Vw (N - ds.length) M)).bind λa=>match a with
 |.rt b=>.ok b
 |.nx _=>.ok (.fz .none)
 |_=>.bad
def He(g:∀a,t a->H a≠M)(l:Xn t K H C ds):Rl K t H t (L2.start N C) H (ds.map (λd=>R (.fz d))++Vw (N.length - ds.length) M):=by
 let n:=l.length;show#[Xl.refl _,λ_ h=>h,g,λa z h=>g a h z,?_,λi x m=>?_,λi j xs r w u=>?_]
 .ext L2.start;rw[Vs,Vs,Vj,Vj,Wb,Wb,n]
 all_goals
  let b:∀{i:Nat} {x:PV},(ds.map (λd=>R (PV.fz d))++Vw (N.length - ds.length) M)[i]?=R (R x)->∃d,x=.fz d/\ds[i]?=R d:=λ{i x} h=>by
   by_cases u:i<ds.length
   .rw[VN (by rw[Vj];show u),Vx]at h
    cases q:ds[i]? with
    |none=>rw[q]at h;ext h
    |some d=>rw[q]at h;ext h;show#[d,W,W]
   .rw[V5 (by rw[Vj];ext),Xx]at h;split at h<;>ext h
 .let(d,rfl,o):=b m;let(v,f,p):=l.get o;show#[v,?_,p];let u:=(Vk.mp f).1;ext L2.start;rw[VN (by rw[Vj];show u),Vx,f];rfl
 .let(d,e,_):=b u;ext e
def U3(F:YZ K x qual st f fd)(S:XX N J (aH st))(c:J.length=n)
  (r:∀(a:Vh) (A:V7) (outer:G Env) (s:Vp) (H:Hp) (E:XK),XN k (A.deeper (V0 qual (aH st) s.heap.objs.size f a))->
   ∃t,PSs (eB dX z w K U base N qual (aH st) f a A outer s H E).nox (cw st) t/\SO K E t g):FnOk z w K U base dX (k+1) f fd J (rC K n (iB N.length g)):=by
 show F.ok S (λL H Q E h=>h.1.trans c.symm) (λa A outer s H L Q E l h=>?_);let(t,i,j):=r a A outer s H E l;let(v,B,ds,m,p,h):=h;show#[t,i,j B H B _ H _ _ (He m p) (WR.imp (WR.bind h) λo q=>?_)];cases o with
 |rt T=>show q
 |nx C=>show λy b u e R=>q .Xo u R.same .Xo
 |bk C=>show q.elim
 |ct C=>show q.elim
end L3
namespace L3
open PySem PySem.Spec PyProof.Rows L2
def OpR.or(h:OpR X f r)(c:OpR X f r'):OpR X f (λx y H Q=>r x y H Q\/r' x y H Q):=by
 intro a s b H x y v u Q I g e q;rcases q with q|q
 .show h a s b H x y v u Q I g e q
 .show c a s b H x y v u Q I g e q
def PN(I:Inv X pins σ H s)(h:ZN X.K H l xs):xs.length<=VF/\∃(a:G B) (n:Nat),Vals xs a/\xs.length=a.length/\s.heap.get? l=R {cls:=.type "list",data:=.seq a.toArray n}:=by
 rcases h with(h|⟨o,h⟩)|⟨a,n,h1,f,b⟩
 .show I.aiu h
 .let(_,z,a,n,r,e):=I.WT l _ h;show#[z,a,n,r,r.length,e]
 .show#[f,a,n,b,b.length,I.kIn _ _ h1]
def Ou(K:Ld):R2:=λx y H Q=>∃l b xs zs,x=.ref l/\y=.ref b/\ZN K H l xs/\ZN K H b zs/\xs.length+zs.length<=VF/\∀p,H p=M->Q (.ref p) (bE H p (.lst (xs++zs)))
def yl:OpR X (XI .Add) (Ou X.K):=by
 intro f s B H x y v u Q I j i h;let(l,b,xs,C,rfl,rfl,p,t,G,q):=h;ext j;ext i;let(z,g,n,r,J,e):=PN I p;let(E,a,F,m,o,A):=PN I t;show PySem.P.add_list e A ?_ (by rw[VJ,VJ];ext);let w:g.toArray++a.toArray=(g++a).toArray:=by simp
 rw[w];show#[.ref _,_,I.ajQ (r.append m) (by rw[Vs];ext),W,q _ I.fresh]
def Oz(K:Ld):R2:=λx y H Q=>∃l k xs,x=.ref l/\y=.int k/\ZN K H l xs/\ -(2^63)<=k/\k<2^63/\xs.length*k.toNat<=VF/\
 ∀p,H p=M->Q (.ref p) (bE H p (.lst (Vw k.toNat xs).flatten))
def MQ:OpR X (XI .Mult) (Oz X.K):=by
 intro p s P H x y v u Q I G E h;let(l,k,xs,rfl,rfl,L,N,M,w,q):=h;ext G;let(t,rfl):=E;let(z,b,n,r,J,e):=PN I L;let f:b.toArray.size*k.toNat<=VF:=by rw[VJ,<-J];show w
 let j:¬b.toArray.size*k.toNat>(2^63 - 1)/8:=by
  let:(VF:Nat)<=(2^63 - 1)/8:=by decide
  ext
 let g:¬(!Builtin.List.listFitsIndex k)=Vi:=by rw[alF N M];show Vu
 let i:¬Builtin.List.listTooLong (b.toArray.size*k.toNat)=Vi:=by rw[GN f];show Vu
 let o:aau (λB A=>B++A) #v[] (Vw (if b.toArray.isEmpty=Vi then 0 else k.toNat) b.toArray)=(Vw k.toNat b).flatten.toArray:=by
  let O:=λm=>by let:=pR b m [];rw[aaB]at this;show this
  rw[O];cases b with
  |nil=>simp
  |cons a R=>rw[av (by simp)]
 show ae5 () #[_,e,W] (λC=>acs C k t) noFill_list_mul F.fills_int_mul F.slot_int_rmul repeat_list F.slot_int_index.lookup
  (Zi F.slot_int_rmul (acs s k t) F.entry_int_rmul (F.args_int_rmul_2 _ _) (int___rmul___int_list k t l b.toArray n)
   #[e,W,#[_,e,W],Zi F.slot_list_mul #[_,e,W] F.entry_list_mul (F.args_list_mul_2 _ _) (AutoListH.list___mul___list_int_3 l b.toArray n k t g j i) #[e,?_]])
 rw[o];show#[.ref _,_,I.ajQ (r.rep k.toNat) (by rw[Eo,Nat.mul_comm];show w),W,q _ I.fresh]
section
variable{K:Ld}
def fI(g:Int->Int->Int):D->D->br RV
 |.int i,.int j=>R (.fz (.int (g i j)))
 |_,_=>M
def fB(g:Int->Int->Bool):D->D->br RV
 |.int i,.int j=>R (.fz (.bool (g i j)))
 |_,_=>M
def Q0(C:Int->Int->Bool)(g:Int->Int->Int):D->D->br RV
 |.int i,.int j=>if C i j=P then R (.fz (.int (g i j)))else M
 |_,_=>M
def yA(h:fI g J C=R o):∃i j,J=.int i/\C=.int j/\o=.fz (.int (g i j)):=by
 unfold fI at h;split at h
 .ext h;show#[_,_,W,W,W]
 .ext h
def Op:oA K (AE λi j=>.int (g i j)) (fI g):=by intro O H x y l f h Q n b a e q;let(i,j,rfl,rfl,rfl):=yA e;ext b;ext a;show#[i,j,W,W,q.at (.int _)]
def IQ:oA K (AE λi j=>.bl (g i j)) (fB g):=by
 intro O H x y l f h Q n b a e q;unfold fB at e;split at e
 .ext e;ext b;ext a;show#[_,_,W,W,q.at (.bl _)]
 .ext e
def sI(h:∀i j,C i j=P->o i j):oA K (rI o λi j=>.int (g i j)) (Q0 C g):=by
 intro O H x y p l m Q n b a e q;unfold Q0 at e;split at e
 .split at e
  .rename_i f;ext e;ext b;ext a;show#[_,_,W,W,h _ _ f,q.at (.int _)]
  .ext e
 .ext e
theorem Gq(h:DX O K H x (.list ds)):∃a xs,x=.ref a/\ZN K H a xs/\Xn O K H xs ds:=h
theorem KK(h:DX O K H x (.tuple ds)):∃a xs,x=.ref a/\aaG O K H a xs/\Xn O K H xs ds:=HJ h W
def N9(K:Ld):R2:=λx y H Q=>AE (λi j=>.int (i+j)) x y H Q\/Ou K x y H Q\/OA K x y H Q
theorem iK:OpR X (XI .Add) (N9 X.K):=OpR.or Rn (OpR.or yl NP)
def dC:D->D->br RV
 |.int i,.int j=>R (.fz (.int (i+j)))
 |.list xs,.list ys=>if xs.length+ys.length<=1000000 then R (.ow (xs++ys))else M
 |.tuple xs,.tuple ys=>if xs≠[]/\xs.length+ys.length<=1000000 then R (.fz (.tuple (xs++ys)))else M
 |_,_=>M
theorem Et(h:n<=1000000):n<=VF:=Wk h ()
def Xn.ne(h:Xn O K H vs ds):vs=[]↔ds=[]:=by ext h<;>simp
def iz:oA K (N9 K) dC:=by
 intro O H x y u r t Q n m l e q;unfold dC at e;split at e
 .ext e;ext m;ext l;show .inl #[_,_,W,W,q.at (.int _)]
 .split at e
  .rename_i h;ext e;let(a,xs,rfl,i,f):=Gq m;let(b,j,rfl,o,g):=Gq l;show .inr (.inl #[a,b,xs,j,W,W,i,o,Et (by rw[f.length,g.length];show h),Fin.new (f.append g) q])
  .ext e
 .split at e
  .rename_i h;ext e;let(a,xs,rfl,i,f):=KK m;let(b,j,rfl,o,g):=KK l;show .inr (.inr #[a,b,xs,j,W,W,i.1,o.1,λz=>h.1 (f.ne.mp z),Et (by rw[f.length,g.length];show h.2),λz=>?_,λ_=>Fin.agi (f.append g) n q]);let p:=g.ne.mp z;subst p;rw[V2]at q;show q.at (.tup i f)
  .ext e
 .ext e
def HB(K:Ld):R2:=λx y H Q=>rI ahe (λi j=>.int (i*j)) x y H Q\/Oz K x y H Q
theorem Na:OpR X (XI .Mult) (HB X.K):=OpR.or QY MQ
def iR(i:Int):Bool:=decide (-(2^64)<i/\i<2^64)
theorem tD(h:iR i=P): -(2^64)<i/\i<2^64:=a5 h
def B6:D->D->br RV
 |.int i,.int j=>if(iR i||iR j)=P then R (.fz (.int (i*j)))else M
 |.list xs,.int k=>if xs.length*k.toNat<=1000000/\ -(2^63)<=k/\k<2^63 then R (.ow (Vw k.toNat xs).flatten)else M
 |_,_=>M
def Mz:oA K (HB K) B6:=by
 intro O H x y m j l Q n g f e q;unfold B6 at e;split at e
 .split at e
  .rename_i b
   ext e;ext g;ext f;show .inl #[_,_,W,W,?_,q.at (.int _)];rcases(X0 _ _).mp b with z|z
   .show .inl (tD z)
   .show .inr (tD z)
  .ext e
 .split at e
  .rename_i b;ext e;ext f;let(a,xs,rfl,i,h):=Gq g;show .inr #[a,_,xs,W,W,i,b.2.1,b.2.2,Et (by rw[h.length];show b.1),Fin.new (h.flat _) q]
  .ext e
 .ext e
def oH:=fI λi j=>i - j
theorem Ep:oA K (AE λi j=>.int (i - j)) oH:=Op
def Qq(_ j:Int):Bool:=decide (0<j)
def qj:=Q0 Qq λi j=>i % j
theorem Eu:oA K (rI (λ_ j=>0<j) λi j=>.int (i % j)) qj:=sI λi j h=>a5 h
def QB(_ j:Int):Bool:=decide (0<j/\j<2^128)
def Gh:=Q0 QB λi j=>i/j
theorem Lf:oA K (rI (λ_ j=>0<j/\j.natAbs.log2<9000) λi j=>.int (i/j)) Gh:=sI λi j h=>by
 let a:=a5 h;show#[a.1,?_];let b:j.natAbs<2^128:=by let:=a.2;ext
 let e:=(akG ()).mpr b;ext
def Aw(i j:Int):Bool:=decide (0<=j/\j<=1000000/\i.natAbs<2^64)
def Ei(i j:Int)(h:Aw i j=P):GY i j:=by unfold Aw at h;show(show 0<=j/\j<=1000000/\i.natAbs<2^64 from a5 h)
def Nf:=Q0 Aw λi j=>i^j.toNat
theorem Nk:oA K (rI GY λi j=>.int (i^j.toNat)) Nf:=sI Ei
def PU:=Q0 Aw λi j=>i*2^j.toNat
theorem DS:oA K (rI GY λi j=>.int (i*2^j.toNat)) PU:=sI Ei
def Uo(_ j:Int):Bool:=decide (0<=j)
def K8:=Q0 Uo λi j=>i/2^j.toNat
theorem Cw:oA K (rI (λ_ j=>0<=j) λi j=>.int (i/2^j.toNat)) K8:=sI λi j h=>a5 h
def Ds:=fI λi j=>Builtin.bitAnd i j
theorem EC:oA K (AE λi j=>.int (Builtin.bitAnd i j)) Ds:=Op
def P2:=fB λi j=>decide (i<j)
def Hf:=fB λi j=>decide (j<i)
def Tt:=fB λi j=>decide (j<=i)
theorem B0:oA K (AE λi j=>.bl (decide (i<j))) P2:=IQ
theorem w6:oA K (AE λi j=>.bl (decide (j<i))) Hf:=IQ
theorem JI:oA K (AE λi j=>.bl (decide (j<=i))) Tt:=IQ
def mK(d:D):Bool:=d.canLay0&&decide (d.depth<=64)
def dJ(d e:D):br RV:=if(mK d&&e.canLay0)=P then R (.fz (.bool (Vo.eqv d e)))else M
def nk(d e:D):br RV:=if(mK d&&e.canLay0)=P then R (.fz (.bool (!Vo.eqv d e)))else M
def jM:oA K (KQ K Vq) dJ:=by
 intro O H x y h g i Q n f b e q;unfold dJ at e;split at e
 .rename_i a;ext e;unfold mK at a;simp only[VZ,decide_eq_true_eq]at a;show#[h,g,f.plain,b.plain,a.1.1,a.2,a.1.2,q.at (.bl _)]
 .ext e
def B3:oA K (KQ K P) nk:=by
 intro O H x y h g i Q n f b e q;unfold nk at e;split at e
 .rename_i a;ext e;unfold mK at a;simp only[VZ,decide_eq_true_eq]at a;show#[h,g,f.plain,b.plain,a.1.1,a.2,a.1.2,q.at (.bl _)]
 .ext e
def uZ:D->D->br RV
 |.none,.none=>R (.fz (.bool P))
 |_,.none=>R (.fz (.bool Vq))
 |_,_=>M
def pc:D->D->br RV
 |.none,.none=>R (.fz (.bool Vq))
 |_,.none=>R (.fz (.bool P))
 |_,_=>M
def GK(h:DX O K H x d)(hd:d≠.none):x≠.Xo:=by
 cases d with
 |none=>show a6 W hd
 |list ds=>let(a,xs,rfl,_):=Gq h;simp
 |tuple ds=>let(a,xs,rfl,_):=KK h;simp
 |bool b=>ext h;simp
 |int b=>ext h;simp
 |str b=>ext h;simp
 |dict b=>ext h
def Lx:oA K (λx y H Q=>y=.Xo/\Q (.bl (decide (x=.Xo))) H) uZ:=by
 intro O H x y i g h Q n b a e q;unfold uZ at e;split at e
 .ext e;ext b;ext a;show#[W,q.at (.bl _)]
 .rename_i f;ext e;ext a;show#[W,?_];rw[aP (GK b f)];show q.at (.bl _)
 .ext e
def Dc:oA K (λx y H Q=>y=.Xo/\Q (.bl (!decide (x=.Xo))) H) pc:=by
 intro O H x y i g h Q n b a e q;unfold pc at e;split at e
 .ext e;ext b;ext a;show#[W,q.at (.bl _)]
 .rename_i f;ext e;ext a;show#[W,?_];rw[aP (GK b f)];show q.at (.bl _)
 .ext e
def NW(K:Ld)(neg:Bool):R2:=λx y H Q=>∃d ds,L2.DV K H x d/\(L2.DV K H y (.list ds)\/L2.DV K H y (.tuple ds))/\d.canLay0=P/\Vo.canLayAll0 ds=P/\d.depth<=64/\Q (.bl (if neg then !(ds.any λe=>Vo.eqv e d)else ds.any λe=>Vo.eqv e d)) H
def xA(p:X.A.units+65<cLine):OpR X (XA .In) (NW X.K Vq):=by
 intro g s o H x y v u Q I l e h;let(d,ds,n,a,j,i,m,q):=h;let(r,f):=n.reads I l;let hm:min (Vo.depthAll ds) d.depth<=64:=Wk (acq _ _) m;rcases a with a|a
 .let(bs,b):=a.reads I e;show alI b f i j () #[.bl _,H,I,W,q]
 .let(bs,b):=a.reads I e;show alJ b f i j () #[.bl _,H,I,W,q]
def NM(p:X.A.units+65<cLine):OpR X (XA .NotIn) (NW X.K P):=by
 intro g s o H x y v u Q I l e h;let(d,ds,n,a,j,i,m,q):=h;let(r,f):=n.reads I l;let hm:min (Vo.depthAll ds) d.depth<=64:=Wk (acq _ _) m;rcases a with a|a
 .let(bs,b):=a.reads I e;show alK b f i j () #[.bl _,H,I,W,q]
 .let(bs,b):=a.reads I e;show alM b f i j () #[.bl _,H,I,W,q]
def Nj(d e:D):br RV:=match gl e with
 |some ds=>if(mK d&&Vo.canLayAll0 ds)=P then R (.fz (.bool (ds.any λe=>Vo.eqv e d)))else M
 |none=>M
def A6(d e:D):br RV:=match gl e with
 |some ds=>if(mK d&&Vo.canLayAll0 ds)=P then R (.fz (.bool (!ds.any λe=>Vo.eqv e d)))else M
 |none=>M
def J0(a:DX O K H y e)(h:gl e=R ds):L2.DV K H y (.list ds)\/L2.DV K H y (.tuple ds):=by
 unfold gl at h;split at h
 .ext h;show .inr a.plain
 .ext h;show .inl a.plain
 .ext h
def xY:oA K (NW K Vq) Nj:=by
 intro O H x y i h j Q n f b e q;unfold Nj at e;split at e
 .rename_i ds g
  split at e
  .rename_i a;ext e;unfold mK at a;simp only[VZ,decide_eq_true_eq]at a;show#[i,ds,f.plain,J0 b g,a.1.1,a.2,a.1.2,q.at (.bl _)]
  .ext e
 .ext e
def Ng:oA K (NW K P) A6:=by
 intro O H x y i h j Q n f b e q;unfold A6 at e;split at e
 .rename_i ds g
  split at e
  .rename_i a;ext e;unfold mK at a;simp only[VZ,decide_eq_true_eq]at a;show#[i,ds,f.plain,J0 b g,a.1.1,a.2,a.1.2,q.at (.bl _)]
  .ext e
 .ext e
def bv(d e:D):br RV:=match gl d,e with
 |some ds,.int i=>(nj ds i).map .fz
 |_,_=>M
def HQ(h:Xn O K H xs ds)(e:nj ds i=R d):∃v,nj xs i=R v/\DV O K H v d:=by
 unfold nj at e⊢;rw[h.length];cases q:Od ds.length i with
 |none=>rw[q]at e;ext e
 |some j=>rw[q]at e;show h.get e
def cb:oA K (Tz K) bv:=by
 intro O H x y t o r Q n l m e q;unfold bv at e;split at e
 .rename_i ds i b
  ext m;cases p:nj ds i with
  |none=>rw[p]at e;ext e
  |some d=>
   rw[p]at e;ext e;unfold gl at b;split at b
   .ext b;let(a,xs,rfl,h,g):=KK l;let(v,f,j):=HQ g p;show .inr (.inl #[a,xs,i,v,W,W,h.1,f,q.at j])
   .ext b;let(a,xs,rfl,h,g):=Gq l;let(v,f,j):=HQ g p;show .inl #[a,xs,i,v,W,W,h.sq,f,q.at j]
   .ext b
 .ext e
def FC(xs:G D)(lo a:br Int):G D:=(xs.drop (HT.sIx xs.length 0 lo)).take (HT.sIx xs.length xs.length a - HT.sIx xs.length 0 lo)
def Ih{lo a:br Int}(h:Xn O K H xs ds):Xn O K H (F7 xs lo a) (FC ds lo a):=by unfold F7 FC;rw[h.length];show(h.drop _).take _
def zC(n:Nat)(lo a:br Int):Bool:=decide (HT.sIx n 0 lo=0/\HT.sIx n n a=n)
def Sm(K:Ld):V->br Int->br Int->Hp->VK->Prop:=λx lo a H Q=>Tb K x lo a H Q\/ST K x lo a H Q
def GF:Ts X (Sm X.K):=by
 intro a s b H x v f e lo m g Q I i l pl j h;rcases h with h|h
 .show MP a s b H x v f e lo m g Q I i l pl j h
 .show Q4 a s b H x v f e lo m g Q I i l pl j h
def Ty:D->br Int->br Int->br RV
 |.list ds,lo,a=>R (.ow (FC ds lo a))
 |.tuple ds,lo,a=>if zC ds.length lo a=P then M else R (.fz (.tuple (FC ds lo a)))
 |_,_,_=>M
def DK:UJ K (Sm K) Ty:=by
 intro O H x lo j l i Q n g e q;unfold Ty at e;split at e
 .ext e;let(a,xs,rfl,f,b):=Gq g;show .inl #[a,xs,W,f.sq,Fin.new (Ih b) q]
 .split at e
  .ext e
  .rename_i h;ext e;let(a,xs,rfl,f,b):=KK g;show .inr #[a,xs,W,f.1,λz=>h ?_,Fin.agi (Ih b) n q];ext zC;rw[<-b.length];show ax z
 .ext e
def cT:G D->br RV
 |[d]=>(match gl d with
  |some ds=>R (.fz (.int ds.length))
  |none=>M)
 |_=>M
def gb:JL K (λxs H Q=>∃x n,xs=[x]/\MW K x H n/\Q (.int n) H) cT:=by
 intro O H xs ds i Q n h e q;unfold cT at e;split at e
 .split at e
  .rename_i j f
   ext e;cases h with
   |cons b g=>
    ext g;unfold gl at f;split at f
    .ext f;let(a,xs,rfl,b,g):=KK b;show#[_,xs.length,W,.inr #[xs,b.1,W],by rw[g.length];show q.at (.int _)]
    .ext f;let(a,xs,rfl,b,g):=Gq b;show#[_,xs.length,W,.inl #[xs,b.sq,W],by rw[g.length];show q.at (.int _)]
    .ext f
  .ext e
 .ext e
def iJ:G D->br RV
 |[.tuple ds]=>R (.fz (.tuple ds))
 |[.list ds]=>R (.fz (.tuple ds))
 |_=>M
def gw:JL K (λxs H Q=>∃p ys,xs=[.ref p]/\((SqL K H p ys/\∀l,H l=M->Q (.ref l) (bE H l (.tup ys)))\/(SqT K H p ys/\Q (.ref p) H))) iJ:=by
 intro O H xs ds h Q n g e q;unfold iJ at e;split at e
 .ext e
  cases g with
  |cons b f=>ext f;let(a,xs,rfl,b,f):=KK b;show#[a,xs,W,.inr #[b.1,q.at (.tup b f)]]
 .ext e
  cases g with
  |cons b f=>ext f;let(a,xs,rfl,b,f):=Gq b;show#[a,xs,W,.inl #[b.sq,Fin.agi f n q]]
 .ext e
def xU:G D->br RV
 |[d]=>(gl d).map .ow
 |_=>M
def KS:JL K (λxs H Q=>∃p ys,xs=[.ref p]/\(SqL K H p ys\/SqT K H p ys)/\∀l,H l=M->Q (.ref l) (bE H l (.lst ys))) xU:=by
 intro O H xs ds i Q n g e q;unfold xU at e;split at e
 .rename_i d
  cases g with
  |cons b f=>
   ext f;cases h:gl d with
   |none=>rw[h]at e;ext e
   |some j=>
    rw[h]at e;ext e;unfold gl at h;split at h
    .ext h;let(a,xs,rfl,b,f):=KK b;show#[a,xs,W,.inr b.1,Fin.new f q]
    .ext h;let(a,xs,rfl,b,f):=Gq b;show#[a,xs,W,.inl b.sq,Fin.new f q]
    .ext h
 .ext e
def C3:G D->br RV
 |[.int i,.int j]=>R (.fz (.int (if j>i then j else i)))
 |_=>M
def KW:JL K (λxs H Q=>∃i j,xs=[.int i,.int j]/\Q (.int (if j>i then j else i)) H) C3:=by
 intro O H xs ds h Q n b e q;unfold C3 at e;split at e
 .ext e
  cases b with
  |cons g a=>
   cases a with
   |cons a f=>ext f;ext g;ext a;show#[_,_,W,q.at (.int _)]
 .ext e
end
end L3
namespace PySem
open Sem (wp)
open AutoSeq1 (wpAny_loadPart')
open Builtin Builtin.Str
section
variable{Y:VV}{w:Wh}{A:V7}{E:Vh->Vp->Prop}{s:Vp}
def pp(a:s.heap.IsTupleIter it t i)(j:s.heap.IsTuple t items)(h:items[i]?=R x)
  (m:∀c,c.IsTupleIter it t (i+1)->Heap.SameBut it s.heap c->Q x {s with heap:=c}):wpAny (model Y w) A (Builtin.SmallTypes.nextOf (.ref it)) Q E s:=by
 let(o,e,l,b):=id a;let(n,f,_,p,g):=j;ext Builtin.SmallTypes.nextOf;show Vf (Yk a.typeIs F.slot_tuple_iterator_next
  (Yl F.slot_tuple_iterator_next a.typeIs F.entry_tuple_iterator_next ?_ (F.args_tuple_iterator_next_1 _)))
 show wpAny _ _ (field (.ref it) 0>>=_) _ _ s;show Vf (Wf e b W ?_);show wpAny _ _ (if(Vh.ref t==Vh.none)=P then _ else _) _ _ s;rw[av (show¬((Vh.ref t==Vh.none)=P)from Vu)];show Vf (Wf e b W ?_);show Vf (Xe f g ?_);simp only[WM,h];show Vf (W5 e b (by simp) (Vt #[x,W,Vt (m _ ?_ (Heap.SameBut.update ..))]));show#[_,dt _ e (eh (d3 b _)),(Obj.cls_mapFields ..).trans l,by rw[d3 b];simp[rawInt]]
def qu(j:A.handled=M)(a:s.heap.IsTupleIter it t i)(m:s.heap.IsTuple t items)(l:items[i]?=M)
  (n:∀c e,Heap.ExtBut it s.heap c->(∃o,c.get? e=R o/\o.cls=.type "StopIteration")->E (.ref e) {s with heap:=c}):wpAny (model Y w) A (Builtin.SmallTypes.nextOf (.ref it)) Q E s:=by
 let(o,f,r,h):=id a;let(p,b,_,q,g):=m;ext Builtin.SmallTypes.nextOf;show Vf (Yk a.typeIs F.slot_tuple_iterator_next
  (Yl F.slot_tuple_iterator_next a.typeIs F.entry_tuple_iterator_next ?_ (F.args_tuple_iterator_next_1 _)))
 show wpAny _ _ (field (.ref it) 0>>=_) _ _ s;show Vf (Wf f h W ?_);show wpAny _ _ (if(Vh.ref t==Vh.none)=P then _ else _) _ _ s;rw[av (show¬((Vh.ref t==Vh.none)=P)from Vu)];show Vf (Wf f h W ?_);show Vf (Xe b g ?_);simp only[WM,l];show Vf (acu (Vf (W5 f h (by simp) ?_)));show Vf ?_;simp only[newExc,newTuple];show Vf (WN ?_ (by size_fits));show Vf (adG (by first|rfl|(simp only[firstArgMember];rfl)) ?_);show WN ?_ (by size_fits);simp only[raiseNew];show Vf (wpAny_handled ?_)
 first|rw[show A.in1.handled=M from j]|rw[j]
 show Vf (Vt (wpAny_throw ?_));show n _ _ (((Heap.SameBut.update ..).extBut.push _).push _) #[_,cx _ W,W]
end
end PySem
namespace L3
open PySem PySem.Spec PyProof.Rows L2
def MJ(I:Inv X pins σ H s)(l:SqT X.K H a xs)(j:SqT X.K H a ys):xs=ys:=by
 let(g,i,(o,m,_,n,p),_):=I.tuple l;let(b,h,(r,e,_,t,f),_):=I.tuple j;rw[m]at e;ext e;rw[p]at f;let:g=b:=by
  let q:g.toArray=b.toArray:=by injection f
  simpa using q
 subst this;show i.inj h
def EF{bs:G Bool}(r:Vals (bs.map V.bl) o){i:Nat}(h:o[i]?=R v):∃b,bs[i]?=R b/\v=.bool b:=by
 let e:=r.length;rw[Vj]at e;let g:i<bs.length:=by rw[e];show(Vk.mp h).1
 let(u,a,f):=r.get (by rw[Vx,Vv g];rfl);rw[h]at a;ext a;show#[bs[i],Vv g,f]
def BO(bs:G Bool):((VO bs.length).all λi=>(bs[i]?).getD P)=bs.all id:=by
 rw[YY,Xq,Xq];constructor
 .intro h b a;let(i,f,e):=List.mem_iff_getElem.mp a;let:=h i (WH.mpr f);rw[Vv f,e]at this;show this
 .intro h i f;let f:=WH.mp f;rw[Vv f];show h _ (Yd f)
section
variable{X:Cx}
def ou(w:X.calm=P):YG X (.builtin "all") (λxs H Q=>∃(p:Vm) (bs:bg Bool),xs=[.ref p]/\SqL X.K H p (bs.map V.bl)/\Q (.bl (bs.all id)) H):=by
 intro f s B H xs C Q I r h;let(l,bs,rfl,n,q):=h;let(u,rfl,m):=kY r;ext m;let(j,N,pl,G):=I.list n;let a:=N.length;rw[Vj]at a;let z:l<s.heap.objs.size:=by let(_,_,e,_):=pl;show cv e
 show call_all_walk (ZX pl.isList ?_);show#[s.heap.objs.size,[s.heap.objs.size,l],[s.heap.objs.size],j.toArray.size,_,_,λi=>(bs[i]?).getD P,W,Walks.list (A:=X.A.in1) (I.ok.hd w) _ l (VW z) j.toArray,
  #[#[_,cx _ W,W,W],pl.isList.push _],λi v F L M y g=>?_,λJ E t=>?_]
 .let(b,e,rfl):=EF N (by simpa using y);simp only[e,aaf]at g;show YH g
 .rw[VJ,<-a,BO];show#[.bl _,H,I.kept λb o e=>t b o (λhm=>?_) (bP _ e),W,q];rw[Vz.mp hm]at e;show WW _ (cv e)
end
section
variable{K:Ld}
def rK:G D->br (G Bool)
 |[]=>R []
 |.bool b::r=>(rK r).map (b::·)
 |_=>M
theorem Ea:∀{xs:G V} {ds:G D} {bs:G Bool},Xn O K H xs ds->rK ds=R bs->xs=bs.map V.bl
 |_,_,_,.nil,e=>by ext e;rfl
 |_,_,bs,.cons (ds:=r) h t,e=>by
  cases h with
  |bl b=>
   let a:(rK r).map (b::·)=R bs:=e;cases q:rK r with
   |none=>rw[q]at a;ext a
   |some f=>rw[q]at a;ext a;rw[Ea t q];rfl
  |_=>ext e
def Aa:G D->br RV
 |[.list ds]=>(rK ds).map λbs=>.fz (.bool (bs.all id))
 |_=>M
def xG:JL K (λxs H Q=>∃(p:I) (bs:G Bool),xs=[.ref p]/\SqL K H p (bs.map V.bl)/\Q (.bl (bs.all id)) H) Aa:=by
 intro O H xs ds l Q n g e q;unfold Aa at e;split at e
 .rename_i j
  cases i:rK j with
  |none=>rw[i]at e;ext e
  |some bs=>
   rw[i]at e;ext e;cases g with
   |cons f b=>ext b;let(a,h,rfl,f,b):=Gq f;let:=Ea b i;subst this;show#[a,bs,W,f.sq,q.at (.bl _)]
 .ext e
def qA:G D->br (G Int)
 |[]=>R []
 |.int b::r=>(qA r).map (b::·)
 |_=>M
theorem rS:∀{xs:G V} {ds:G D} {bs:G Int},Xn O K H xs ds->qA ds=R bs->xs=bs.map V.int
 |_,_,_,.nil,e=>by ext e;rfl
 |_,_,bs,.cons (ds:=r) h t,e=>by
  cases h with
  |int b=>
   let a:(qA r).map (b::·)=R bs:=e;cases q:qA r with
   |none=>rw[q]at a;ext a
   |some f=>rw[q]at a;ext a;rw[rS t q];rfl
  |_=>ext e
def Bg(x:Int):G Int->G Int
 |[]=>[x]
 |y::r=>if x<=y then x::y::r else y::Bg x r
def lA:G Int->G Int
 |[]=>[]
 |x::r=>Bg x (lA r)
theorem qK(x:Int):∀l,(Bg x l).Perm (x::l)
 |[]=>acb _
 |y::r=>by
  ext Bg;split
  .show acb _
  .show((qK x r).cons y).trans (ao1 x y r)
theorem gc:∀l,(lA l).Perm l
 |[]=>acb _
 |x::r=>(qK x _).trans ((gc r).cons x)
theorem qW(x:Int):∀l:G Int,l.Pairwise (·<=·)->(Bg x l).Pairwise (·<=·)
 |[],_=>by simp[Bg]
 |y::r,h=>by
  ext Bg;let(f,g):=W2.mp h;split
  .rename_i a
   show W2.mpr #[λz b=>?_,h];rcases VG.mp b with e|e
   .rw[e];show a
   .let:=f z e;ext
  .rename_i a
   show W2.mpr #[λz b=>?_,qW x r g];rcases VG.mp ((qK x r).mem_iff.mp b)with e|e
   .rw[e];ext
   .show f z e
theorem fH:∀l,(lA l).Pairwise (·<=·)
 |[]=>aay
 |x::r=>qW x _ (fH r)
theorem mz{l m:G Int}(e:l.Perm m)(f:l.Pairwise (·<=·))(hm:m.Pairwise (·<=·)):l=m:=e.eq_of_pairwise (λa b _ _ h g=>Int.le_antisymm h g) f hm
def yu:G D->br RV
 |[.list ds]=>(match qA ds with
  |some a=>if a.length<64 then R (.ow ((lA a).map .int))else M
  |none=>M)
 |_=>M
def tQ(a:G Int):Xn O K H (a.map V.int) (a.map .int):=by
 induction a with
 |nil=>show .nil
 |cons n r b=>show .cons (.int n) b
def vC:JL K (λxs H Q=>∃(p:I) (b:G Int),xs=[.ref p]/\SqL K H p (b.map V.int)/\b.length<64/\∀(l:I) (f:G Int),H l=M->f.Perm b->f.Pairwise (·<=·)->Q (.ref l) (bE H l (.lst (f.map V.int)))) yu:=by
 intro O H xs ds v Q n g e q;unfold yu at e;split at e
 .rename_i u
  cases t:qA u with
  |none=>rw[t]at e;ext e
  |some b=>
   rw[t]at e;dsimp only at e;split at e
   .rename_i h
    ext e;cases g with
    |cons j i=>ext i;let(a,r,rfl,j,i):=Gq j;let:=rS i t;subst this;show#[a,b,W,j.sq,h,λl f h g m=>?_];let o:=mz (g.trans (gc b).symm) m (fH b);subst o;show Fin.new (tQ _) q l h
   .ext e
 .ext e
end
def ER{P:VV}{w:Wh}{K:Ld}{D m:Str->br Vh}{k:Nat}{T a:Vm}{fd:WA}{x:Str}{F:FN}{b:Vp}{c:bg Vh}{f:bg Int}
  (q:K.In b.heap) (g:b.heap.Ns VD D) (C:b.heap.Ns builtinsNs m) (i:∀x:Str,x≠ "__name__"->m x=WC x) (j:b.heap.NoLimit) (B:b.gens= #v[])
  (S:b.heap.get? a=R {cls:=.type "list",data:=.seq c.toArray}) (U:IntsAre c f) (p:f.length<=VF) (A:XN k callerA)
  (L:∀base:Heap,K.In base->base.Ns VD D->FnOk P w K D base dX k T fd [x] (rC K 1 F)) (l:∀(s:Vp) (u:Vh),aat s fd #[[u],[]] [(x,u)])
  (I:F [.list (f.map .int)]=.ok (.fz (.bool Vi))):
  codeAny (model P w) callerA (.call (.ref T) #[[.ref a],[]]) (λr d=>r=.ok (.ret (.bool Vi))/\OldK b.heap d.heap/\d.os=b.os/\AllBare d.gens) b:=by
 show HH (sp:=λc H Q E=>rC K 1 F c H Q E\/(c.length=1/\False)) q g C i j B S U p A (λbase y t=>(L base y t).imp λc H Q E h=>?_) l (λH M G=>?_) λ_ _ _ h=>h
 .rcases h with h|h
  .show h
  .show h.2.elim
 .show .inl #[W,noO,[.list (f.map .int)],λa z=>z.elim,.cons (.lst #[?_,λz=>z.elim] (tQ f)) .nil,?_]
  .rcases G with h|⟨o,Wr,n,h1,h2,h3,Y,h5,X⟩
   .show .inl h
   .let e:=q a o h1;rw[S]at e;ext e;ext Y;show .inr #[c,0,h1,by rw[Vj];show p,by simpa using X]
  .rw[I];show λv N s J=>by ext J;rfl
def R8{l:afM}{n k:Nat}{q:VV}{i:bg Str}{N:(Str->br Vh)->Heap->Prop}{A:Wh->Heap->Prop}{d:DefRec}{K:Params->Ld}{F:FN}{x:Str}
  (D:l.most=lD n) (m:n<=VF) (r:d.params.defaults=[]) (C:XN k callerA)
  (J:∀(w:Wh) (h:Heap),A w h->(K w.params).In h)
  (O:∀(w:Wh) (b:Str->br Vh) (c:Vm) (h:Heap),(K w.params).In h->h.Ns VD b->b d.name=lD (.ref c)->
   ∃fd:WA,(∀(s:Vp) (u:Vh),aat s fd #[[u],[]] [(x,u)])/\∀base:Heap,(K w.params).In base->base.Ns VD b->FnOk l.prog w (K w.params) b base dX k c fd [x] (rC (K w.params) 1 F))
  (L:∀ns:bg Int,ns.length<=n->F [.list (ns.map .int)]=.ok (.fz (.bool Vi))):
  PySem.W.WalkO q i N A l.row.toRowW d [] (λf g=>ajs f g):=by
 show Att.attach_call D r λw z y b Q c o P U M a g ns G Y R S H p v j e E=>?_;let B:=J w _ Y;let(fd,I,t):=O w b c _ B G.T.g p;show ER B G.T.g G.T.b G.T.builtins G.T.nolimit E v j (Wk e m) C t I (L ns e)
def U0{P:VV}{w:Wh}{K:Ld}{d:Str->br B}{base:Heap}{x a:Str}{b:XM}{f:I}{fd:WA}{N c:G Str}{k n m:Nat}{g:FS}{h:FN}(F:YZ K x a b f fd)(S:XX N c (aH b))(l:c.length=n)(hm:N.length=m)(i:h=iB m g)
  (j:∀(e:B) (A:V7) (outer:G Env) (s:Vp) (H:Hp) (E:XK),XN k (A.deeper (V0 a (aH b) s.heap.objs.size f e))->
   ∃t,PSs (eB dX P w K d base N a (aH b) f e A outer s H E).nox (cw b) t/\SO K E t g):FnOk P w K d base dX (k+1) f fd c (rC K n h):=by
 subst i hm;show U3 F S l j
abbrev g7(P:VV)(w:Wh)(K:Ld)(b:Str->br B)(base:Heap)(k:Nat)(x:Str)(a:G Str)(n:Nat)(F:FN):Prop:=oM P w K b base k x a (rC K n F)
end L3
namespace L3
open PySem L2
abbrev nd(n:Nat):D:=.int (n:Int)
def bZ(a:G Nat):G D:=a.map nd
def gu(a:G Nat):(bZ a).length=a.length:=by ext bZ;rw[Vj]
def Lw(xs a:G Nat):bZ (xs++a)=bZ xs++bZ a:=by ext bZ;rw[VY]
def wT{i:Nat}(h:(bZ ns)[i]?=R d):∃n,ns[i]?=R n/\d=nd n:=by
 unfold bZ at h;rw[Vx]at h;cases e:ns[i]? with
 |none=>rw[e]at h;ext h
 |some n=>rw[e]at h;show#[n,W,(VR h).symm]
theorem bf(a:α):Res.WE (R a)=.ok a:=W
theorem yR(a:α):k8 (Res.ok a)=.ok a:=W
theorem AJ(i:Nat)(a:bx):af i a=CY a i a[i]? :=W
theorem Gu(a:bx)(i:Nat)(d:D):CY a i (R (R (.fz d)))=.ok (.fz d,a):=W
theorem J1(a:bx)(i:Nat)(ds:G D):CY a i (R (R (.ow ds)))=.ok (.pl i,a):=W
theorem ka(ds:G D):A9 (R (R (.ow ds)))=R ds:=W
theorem Kk(i:Nat)(d:D)(a:bx):gN i (.fz d) a=.ok (a.set i (R (.fz d))):=W
theorem xf(i:Int):Tx (.int i)=R i:=W
theorem zi(b:Bool):Ub (.bool b)=R b:=W
theorem lw(ds:G D):cT [.tuple ds]=R (.fz (nd ds.length)):=W
theorem fP(ds:G D):cT [.list ds]=R (.fz (nd ds.length)):=W
theorem nW(i j:Int):P2 (.int i) (.int j)=R (.fz (.bool (decide (i<j)))):=W
theorem yQ(i j:Int):Hf (.int i) (.int j)=R (.fz (.bool (decide (j<i)))):=W
theorem Ax(i j:Int):Tt (.int i) (.int j)=R (.fz (.bool (decide (j<=i)))):=W
theorem gh(i j:Int):dC (.int i) (.int j)=R (.fz (.int (i+j))):=W
theorem lY(i j:Int):oH (.int i) (.int j)=R (.fz (.int (i - j))):=W
def tM(h:0<j):qj (.int i) (.int j)=R (.fz (.int (i % j))):=by show(if Qq i j=P then _ else _)=_;rw[ag (show Qq i j=P from ax h)]
def GA(h:0<j/\j<2^128):Gh (.int i) (.int j)=R (.fz (.int (i/j))):=by show(if QB i j=P then _ else _)=_;rw[ag (show QB i j=P from ax h)]
def M3(h: -(2^64)<i/\i<2^64):B6 (.int i) (.int j)=R (.fz (.int (i*j))):=by show(if(iR i||iR j)=P then _ else _)=_;rw[ag (by rw[show iR i=P from ax h,XD])]
def NQ(h: -(2^64)<j/\j<2^64):B6 (.int i) (.int j)=R (.fz (.int (i*j))):=by show(if(iR i||iR j)=P then _ else _)=_;rw[ag (by rw[show iR j=P from ax h,YI])]
def NO(h:mq j):k6 [.int j]=R (hV 0 j.toNat):=by show(if mq j then _ else _)=_;rw[ag h]
def Kw(n:Nat):hV 0 n=bZ (VO n):=by unfold hV bZ;apply YR;intro k _;rw[Int.zero_add]
def ky(h:n<=1000000):k6 [nd n]=R (bZ (VO n)):=by rw[NO (by ext mq;ext),Kw,WM]
def B4(h:f C=.ok (.nx o)):cr f g C=g o:=by ext cr;rw[h];rfl
def GU(h:f o=.ok (.rt C)):cr f g o=.ok (.rt C):=by ext cr;rw[h];rfl
def Us(h:c C=.ok (P,o)):oE c f g C=f o:=by ext oE;rw[h];rfl
def Ut(h:c C=.ok (Vq,o)):oE c f g C=g o:=by ext oE;rw[h];rfl
def AM(h:J C=.ok (ds,o)):uX J gt b C=rG gt b ds o:=by ext uX;rw[h];rfl
def QM(h:j<=1000000/\i.natAbs<2^64):Nf (.int i) (nd j)=R (.fz (.int (i^j))):=by show(if Aw i (j:Int)=P then R (RV.fz (.int (i^((j:Nat):Int).toNat)))else M)=_;rw[ag (by ext Aw;show ax #[by ext,by ext,h.2]),WM]
theorem OH:Nf (.int 10) (.int 18)=R (.fz (.int (10^18))):=QM #[by decide,by decide]
def lK(gt:FG)(f:FT)(g:FE)(d:D)(c:bx):Res (br D×bx):=(gt (.fz d) c).bind λe=>(f e).bind λb=>if b.1=P then(g b.2).bind λa=>(Res.WE (zO a.2 a.1)).bind λx=>.ok (R x.1,dR x.2)else .ok (M,dR b.2)
def uO(h:lK gt U fe d J=.ok (o,C))(g:acc.length<1000000):d4 gt U fe (d::r) J acc=d4 gt U fe r C (acc++o.toList):=by
 unfold lK at h;show(gt (.fz d) J).bind _=_;cases l:gt (.fz d) J with
 |er x=>rw[l]at h;ext h
 |bad=>rw[l]at h;ext h
 |ok f=>
  rw[l,e8]at h;rw[e8];cases j:U f with
  |er x=>rw[j]at h;ext h
  |bad=>rw[j]at h;ext h
  |ok b=>
   let(b,e):=b;rw[j,e8]at h;rw[e8];cases b with
   |false=>rw[av Vu]at h⊢;ext h;rw[ae6,V2]
   |true=>
    rw[ag W]at h⊢;cases i:fe e with
    |er x=>rw[i]at h;ext h
    |bad=>rw[i]at h;ext h
    |ok a=>
     rw[i,e8]at h;rw[e8];cases m:zO a.2 a.1 with
     |none=>rw[m]at h;ext h
     |some x=>rw[m]at h;ext h;show(if acc.length<1000000 then _ else _)=_;rw[ag g];rfl
def Lj(c:Nat)(h:c<=1000):PU (.int 1) (nd c)=R (.fz (nd (2^c))):=by show(if Aw 1 (c:Int)=P then R (RV.fz (.int (1*2^((c:Nat):Int).toNat)))else M)=_;rw[ag (by ext Aw;show ax #[by ext,by ext,by decide]),Int.one_mul,WM];congr 3
def Ro(a b:Nat):decide ((a:Int)=(b:Int))=decide (a=b):=by
 by_cases h:a=b
 .rw[ax h,ax (by rw[h])]
 .rw[aP h,aP ()]
theorem IW(a b:Nat):Vo.eqv (nd a) (nd b)=decide (a=b):=Ro a b
def gY(a b:Int):dJ (.int a) (.int b)=R (.fz (.bool (decide (a=b)))):=by rfl
def on(a b:Int):nk (.int a) (.int b)=R (.fz (.bool (!decide (a=b)))):=by rfl
theorem mF:∀ns:G Nat,Vo.canLayAll0 (bZ ns)=P
 |[]=>rfl
 |n::r=>by show(Vo.canLay0 (nd n)&&Vo.canLayAll0 (bZ r))=P;rw[mF r];rfl
theorem pK:∀ns:G Nat,Vo.depthAll (bZ ns)=0
 |[]=>rfl
 |n::r=>by show max (Vo.depth (nd n)) (Vo.depthAll (bZ r))=0;rw[pK r];rfl
theorem CZ:∀xs ys:G Nat,Vo.eqvAll (bZ xs) (bZ ys)=decide (xs=ys)
 |[],[]=>rfl
 |[],_::_=>rfl
 |_::_,[]=>rfl
 |n::r,m::t=>by show(Vo.eqv (nd n) (nd m)&&Vo.eqvAll (bZ r) (bZ t))=_;rw[CZ r t,IW];rw[YY];simp
def Qi(a:G Nat):mK (.list (bZ a))=P:=by show(Vo.canLayAll0 (bZ a)&&decide (Vo.depthAll (bZ a)+1<=64))=P;rw[mF,pK];rfl
def yx(xs a:G Nat):dJ (.list (bZ xs)) (.list (bZ a))=R (.fz (.bool (decide (xs=a)))):=by ext dJ;rw[Qi,show Vo.canLay0 (.list (bZ a))=P from mF a,X7,ag W,show Vo.eqv (.list (bZ xs)) (.list (bZ a))=_ from CZ xs a]
def LO(x:Nat)(xs:G Nat):((bZ xs).any λe=>Vo.eqv e (nd x))=decide (x∈xs):=by
 induction xs with
 |nil=>rfl
 |cons y r a=>
  show(Vo.eqv (nd y) (nd x)||(bZ r).any λe=>Vo.eqv e (nd x))=_;rw[a,IW];by_cases h:y=x
  .rw[ax h,ax (show x∈y::r by rw[h];show Vn),XD]
  .rw[aP h,Zs]
   by_cases g:x∈r
   .rw[ax g,ax (Vr _ g)]
   .rw[aP g,aP (λz=>(VG.mp z).elim (λe=>h e.symm) g)]
def wc(x:Nat)(xs:G Nat):Nj (nd x) (.tuple (bZ xs))=R (.fz (.bool (decide (x∈xs)))):=by show(if(mK (nd x)&&Vo.canLayAll0 (bZ xs))=P then _ else _)=_;rw[mF,show mK (nd x)=P from rfl,X7,ag W,LO]
theorem Kc{i:Nat}(h:xs[i]?=R v):nj xs (i:Int)=R v:=CO h
def RB(h:ds[i]?=R d):bv (.tuple ds) (nd i)=R (.fz d):=by show(nj ds (i:Int)).map RV.fz=_;rw[Kc h];rfl
def A2(h:ds[i]?=R d):bv (.list ds) (nd i)=R (.fz d):=by show(nj ds (i:Int)).map RV.fz=_;rw[Kc h];rfl
section
variable{Y ρ1 X T:bx}{S fb J U:FE}{pa N pv:PV}{dx L d:D}{rv:RV}{Q:bg PV}{ds:bg D}
def aj(h:Y[i]?=R (R (.fz d))):af i Y=.ok (.fz d,Y):=by rw[AJ,h,Gu]
def ie(h:Y[i]?=R (R (.ow ds))):af i Y=.ok (.pl i,Y):=by rw[AJ,h,J1]
theorem aI:pC d Y=.ok (.fz d,Y):=W
def aK(c:S Y=.ok (pa,ρ1))(g:fb ρ1=.ok (N,X))(b:AD X (dH pa)=R dx)(a:AD X N=R L)(e:f dx L=R rv):aO f S fb Y=.ok (rv.pv,X):=by ext aO;rw[c,e8,g,e8,b,bf,e8,a,bf,e8,e,bf,e8]
def bO(c:S Y=.ok (pa,ρ1))(a:AD ρ1 pa=R (.bool b)):aW S Y=.ok (b,ρ1):=by ext aW;rw[c,e8,a,bf,e8,zi,bf,e8]
def xg(c:f Y=.ok (a,ρ1))(e:a=P->g ρ1=.ok (b,ρ1)):AY f g Y=.ok (a&&b,ρ1):=by
 ext AY;rw[c,e8];cases a with
 |true=>rw[ag W,e W,aag]
 |false=>rw[av Vu,ZP]
def Iw(c:f Y=.ok (a,ρ1))(e:a=Vq->g ρ1=.ok (b,ρ1)):Qm f g Y=.ok (a||b,ρ1):=by
 ext Qm;rw[c,e8];cases a with
 |true=>rw[ag W,XD]
 |false=>rw[av Vu,e W,Zs]
def wH(c:aW S Y=.ok (a,ρ1))(e:a=P->fb ρ1=.ok (.fz (.bool b),ρ1)):HM S fb Y=.ok (.fz (.bool (a&&b)),ρ1):=by
 ext HM;rw[c,e8];cases a with
 |true=>rw[ag W,e W,aag]
 |false=>rw[av Vu,ZP]
theorem aM:aB Y=.ok ([],Y):=W
def ao(b:S Y=.ok (pa,ρ1))(a:fr ρ1=.ok (Q,X)):ae S fr Y=.ok (dH pa::Q,X):=by ext ae;rw[b,e8,a,e8]
def fw(b:fr Y=.ok (Q,ρ1))(hd:Ak ρ1 Q=R ds)(a:f ds=R rv):gq f fr Y=.ok (rv.pv,ρ1):=by ext gq;rw[b,e8,hd,bf,e8,a,bf,e8]
def cA(c:fr Y=.ok (Q,ρ1))(hd:rJ ρ1 Q=R (ds,X))(b:ds.length=n)(a:F ds=.ok rv):cZ F n fr Y=.ok (rv.pv,X):=by ext cZ;rw[c,e8,hd,bf,e8];dsimp only;rw[ag b,a,yR,e8]
def df(b:fr Y=.ok (Q,ρ1))(hd:rJ ρ1 Q=R (ds,X))(a:ds.length<=1000):ci fr Y=.ok (.fz (.tuple ds),X):=by ext ci;rw[b,e8,hd,bf,e8];dsimp only;rw[ag a]
def sY(b:fr Y=.ok (Q,ρ1))(hd:rJ ρ1 Q=R (ds,X))(a:ds.length<=1000):dL fr Y=.ok (.ow ds,X):=by ext dL;rw[b,e8,hd,bf,e8];dsimp only;rw[ag a]
theorem yE:Ey Y=.ok (M,Y):=W
def zU(b:S Y=.ok (pa,ρ1))(a:AD ρ1 pa=R (.int i)):zx S Y=.ok (R i,ρ1):=by ext zx;rw[b,e8,a,bf,e8,xf,bf,e8]
def OW(c:S Y=.ok (pa,ρ1))(b:C ρ1=.ok (lo,X))(e:fh X=.ok (o,T))(a:AD T (dH pa)=R dx)(g:f dx lo o=R rv):Tg f S C fh Y=.ok (rv.pv,T):=by ext Tg;rw[c,e8,b,e8,e,e8,a,bf,e8,g,bf,e8]
def AL(g:Y[i]?=R (R (.ow o)))(c:U Y=.ok (pa,ρ1))(b:zO ρ1 pa=R (d,X))(f:X[i]?=R (R (.ow ds)))(e:ds.length<1000000)(a:X.set i (R (.ow (ds++[d])))=x):FW i U Y=.ok (.fz .none,x):=by ext FW;rw[g,ka,bf,e8,c,e8,b,bf,e8];dsimp only;rw[f,ka,bf,e8,ag e,a]
def Hd(h:Y[i]?=R (R (.ow o)))(j:U Y=.ok (pa,ρ1))(e:AD ρ1 pa=R (.int n))(g:ρ1[i]?=R (R (.ow ds)))(c: -(2^63)<=n/\n<2^63)(f:seqIndex? n ds.length=R k)(a:ds[k]?=R y)
  (b:ρ1.set i (R (.ow (ds.eraseIdx k)))=x):Cd i U Y=.ok (.fz y,x):=by
 ext Cd;rw[h,ka,bf,e8,j,e8,e,bf,e8,xf,bf,e8,g,ka,bf,e8,ag c,f,bf,e8,a,bf,e8,b]
def fG(c:fi Y=.ok (ds,ρ1))(b:vX ρ1 o=R (cs,X))(a:k8 (d4 gt C U ds (Vw n M++cs.map λd=>R (.fz d)) [])=.ok xs):fW n o fi gt C U Y=.ok (.ow xs,X):=by ext fW;rw[c,e8];dsimp only;rw[b,bf,e8];dsimp only;rw[a,e8]
theorem iL:bv (.tuple (a::r)) (.int 0)=R (.fz a):=RB W
theorem jp:bv (.tuple (a::b::r)) (.int 1)=R (.fz b):=RB W
theorem sV:bv (.tuple (a::b::c::r)) (.int 2)=R (.fz c):=RB W
def Re(b:k<=1000)(a:xs.length<=1000):B6 (.list xs) (nd k)=R (.ow (Vw k xs).flatten):=by show(if xs.length*((k:Nat):Int).toNat<=1000000/\ -(2^63)<=(k:Int)/\(k:Int)<2^63 then R (RV.ow (Vw ((k:Nat):Int).toNat xs).flatten)else M)=_;rw[WM,ag #[Wk (aa7 a b) (),by ext,by ext]]
def kI(c:U Y=.ok (pa,ρ1))(a:zO ρ1 pa=R (d,X))(b:gl d=R o):jo U Y=.ok (o,X):=by ext jo;rw[c,e8,a,bf,e8];dsimp only;rw[b,bf,e8]
def LI(b:fr Y=.ok (Q,ρ1))(hd:Ak ρ1 Q=R ds)(a:f ds=R o):rN f fr Y=.ok (o,ρ1):=by ext rN;rw[b,e8,hd,bf,e8,a,bf,e8]
def BF(b:U Y=.ok (pv,ρ1))(a:g pv ρ1=.ok X)(c:X=T):gH U g Y=.ok (.nx T):=by ext gH;rw[b,e8];dsimp only;rw[a,e8,c]
def xb(a:U Y=.ok (pv,ρ1)):nr U Y=.ok (.nx ρ1):=by ext nr;rw[a,e8]
def xp(b:U Y=.ok (pv,ρ1))(a:Fp ρ1 pv=R rv):fO U Y=.ok (.rt rv):=by ext fO;rw[b,e8];dsimp only;rw[a,bf,e8]
def NC(e:gt (.fz d) Y=.ok ρ1)(b:ft ρ1=.ok (P,X))(g:U X=.ok (pv,T))(a:zO T pv=R (x,C))(f:dR C=o):lK gt ft U d Y=.ok (R x,o):=by ext lK;rw[e,e8,b,e8,ag W,g,e8,a,bf,e8,f]
def Tc(b:gt (.fz d) Y=.ok ρ1)(a:C ρ1=.ok (Vq,X))(e:dR X=o):lK gt C U d Y=.ok (M,o):=by ext lK;rw[b,e8,a,e8,av Vu,e]
end
end L3
namespace PySem
open Sem (wp)
open Builtin
open AutoSeq1 (wpAny_loadPart')
theorem qN:fillsNumberSlot (.type "tuple") "mul"=pure Vq:=
 fillsNumberSlot_seq F.slot_tuple_mul.lookup (by left) F.slot_tuple_rmul.lookup (by left)
def yh:seqRepeat? (.type "tuple")=pure (R (.builtin "tuple.__mul__")):=by unfold seqRepeat?;rw[seqSlot_of (name:= "__mul__") F.slot_tuple_mul.lookup (by left),seqSlot_of (name:= "__rmul__") F.slot_tuple_rmul.lookup (by left)];rfl
theorem tf(a:Int)(t:Tok)(l:I)(items:Array B)(n:Nat)(dct:br I)(e:Array (br B)):
  Meets (Builtin.«int.__rmul__» #[[.int a t,.ref l],[]]) (λ_ R s=>s.heap.get? l=lD {cls:=.type "tuple",dict:=dct,data:=.seq items n,slots:=e}/\R (.ok (.ret Vh.notImplemented)) s):=
 .of_wp λb w A R s h=>by let(j,g,d,f,i):=s;let(m,h):=h;wp_walk;show#[_,W,h]
theorem zm(l:I)(items:Array B)(n:Nat)(dct:br I)(b:Array (br B))(u:Tok):
  Meets (Builtin.«tuple.__mul__» #[[.ref l,.int 1 u],[]]) (λ_ R s=>s.heap.get? l=lD {cls:=.type "tuple",dict:=dct,data:=.seq items n,slots:=b}/\R (.ok (.ret (Vh.ref l))) s):=
 .of_wp λa w A R s h=>by
  let(i,g,d,e,f):=s;let(j,h):=h
  wp_walk
  show#[_,W,h]
theorem Ao(l:Vm)(items:Array Vh)(n:Nat)(dct:br Vm)(i:Array (br Vh))(x:Int)(u:Tok)(H:2<=x)(q:x<=1000)(a:items.isEmpty=Vq)(D:items.size<=1000):
  Meets (Builtin.«tuple.__mul__» #[[.ref l,.int x u],[]]) (λ_ R s=>s.heap.get? l=lD {cls:=.type "tuple",dict:=dct,data:=.seq items n,slots:=i}/\R (.ok (.ret (Vh.ref s.heap.objs.size))) {s with heap:=s.heap.push {cls:=Vh.type "tuple",data:=Data.seq (aau (λk c=>k++c) #v[] (Vw x.toNat items))},toks:=s.toks}):=
 .of_wp λe w A R s h=>by
  let(F,g,d,C,E):=s;let(p,h):=h;let B:¬(decide (x< -(2^63))||decide (x≥2^63))=P:=by simp;ext
  let z:(x==1)=Vq:=by simp;ext
  let y:decide (x<=0)=Vq:=by simp;ext
  let J:(items.isEmpty||x==1)=Vq:=by rw[a,z];rfl
  let I:(decide (x<=0)||items.isEmpty)=Vq:=by rw[a,y];rfl
  let f:(items.size:Int)*x<=1000000:=by let:(items.size:Int)*x<=1000*1000:=Int.mul_le_mul () q () ();ext
  let v:¬(items.size:Int)*x>(2^63 - 1)/8:=by ext
  let t:¬Tuple.tupleTooMany ((items.size:Int)*x)=P:=by
   ext Tuple.tupleTooMany;simp;let:(VF:Nat)=16777216:=by decide
   ext
  wp_walk
  rw[av B]
  wp_walk using wpAny_loadPart' p
  rw[av v];dsimp only;rw[av t];let o:(aau (λk c=>k++c) #v[] (Vw x.toNat items)).size<=VF:=by
   let r:∀(m:Nat) (b:Array Vh),(aau (λk c=>k++c) b (Vw m items)).size=b.size+m*items.size:=by
    intro m
    induction m with
    |zero=>intro b;simp
    |succ m j=>intro b;rw[WK,aax,j,Array.size_append,ajr];ext
   rw[r];let G:x.toNat*items.size<=1000*1000:=aa7 () D;let:(VF:Nat)=16777216:=by decide
   simp;ext
  wp_walk
  show#[_,W,h]
end PySem
namespace L3
open PySem PySem.Spec PyProof.Rows L2
def OX(K:Ld):R2:=λx y H Q=>∃(a:I) (k:Nat) (xs:G V),x=.ref a/\y=.int (k:Int)/\SqT K H a xs/\xs≠[]/\1<=k/\k<=1000/\xs.length<=1000/\
 (k=1->Q (.ref a) H)/\(2<=k->∀p,H p=M->Q (.ref p) (bE H p (.tup (Vw k xs).flatten)))
def NZ:OpR X (XI .Mult) (OX X.K):=by
 intro j s R H x y v u Q I C B h;let(a,k,xs,rfl,rfl,J,i,Y,O,M,G,E):=h;ext C;let(t,rfl):=B;let(f,r,L,U):=I.tuple J;let((cls,dd,p,g),e,o,n,m):=id L;simp only at o m;subst o m;let l:=r.length;show ae5 () #[_,e,W] (λA=>acs A k t) qN F.fills_int_mul F.slot_int_rmul yh F.slot_int_index.lookup
  (Zi F.slot_int_rmul (acs s k t) F.entry_int_rmul (F.args_int_rmul_2 _ _) (tf k t a f.toArray n dd g) #[e,W,#[_,e,W],?_])
 by_cases N:k=1
 .subst N;show Zi F.slot_tuple_mul #[_,e,W] F.entry_tuple_mul (F.args_tuple_mul_2 _ _) (zm a f.toArray n dd g t) #[e,#[.ref a,H,I,W,G W]]
 .show Zi F.slot_tuple_mul #[_,e,W] F.entry_tuple_mul (F.args_tuple_mul_2 _ _) (Ao a f.toArray n dd g k t () () ?_ (by rw[VJ];ext)) #[e,?_]
  .cases f with
   |nil=>ext r;show a6 W i
   |cons y S=>rfl
  .let P:aau (λz w=>z++w) #v[] (Vw ((k:Nat):Int).toNat f.toArray)=(Vw k f).flatten.toArray:=by
    let:=pR f k [];rw[aaB]at this;rw[WM];show this
   rw[P];show#[.ref s.heap.objs.size,_,I.laid (λb T q=>bP _ q) (Vy _) ?_,W,E () _ (I.WT.fresh (Vy _))];show#[?_,_,r.rep k,acg.new _ _];rw[Eo];show Wk (aa7 O M) ()
def Pa(K:Ld):R2:=λx y H Q=>HB K x y H Q\/OX K x y H Q
theorem w9:OpR X (XI .Mult) (Pa X.K):=OpR.or Na NZ
def ig:D->D->br RV
 |.tuple xs,.int k=>if xs≠[]/\1<=k/\k<=1000/\xs.length<=1000 then R (.fz (.tuple (Vw k.toNat xs).flatten))else M
 |d,e=>B6 d e
def uA{K:Ld}:oA K (Pa K) ig:=by
 intro O H x y p l o Q n g f e q;unfold ig at e;split at e
 .rename_i ds k
  split at e
  .rename_i h
   ext e;ext f;let(a,xs,rfl,i,b):=KK g;obtain⟨m,rfl⟩:∃m:Nat,k=(m:Int):=#[k.toNat,by ext];rw[WM]at q;show .inr #[a,m,xs,W,W,i.1,λz=>h.1 (b.ne.mp z),by ext,by ext,by rw[b.length];show h.2.2.2,λe=>?_,λ_=>Fin.agi (b.flat m) n q];subst e;let j:(Vw 1 ds).flatten=ds:=by simp
   rw[j]at q;show q.at (.tup i b)
  .ext e
 .show .inl (Mz O H x y p l o Q n g f e q)
theorem zY(i j:Int):ig (.int i) (.int j)=B6 (.int i) (.int j):=W
theorem lS(h: -(2^64)<i/\i<2^64):ig (.int i) (.int j)=R (.fz (.int (i*j))):=(zY i j).trans (M3 h)
theorem Kt(h: -(2^64)<j/\j<2^64):ig (.int i) (.int j)=R (.fz (.int (i*j))):=(zY i j).trans (NQ h)
end L3
namespace PySem
open Sem (wp)
open Builtin Builtin.Str
def itAt:Bool->Heap->I->I->Nat->Prop
 |true,h,it,a,i=>h.IsTupleIter it a i
 |false,h,it,a,i=>h.IsListIter it a i
def sqAt:Bool->Heap->I->Array B->Prop
 |true,h,a,xs=>h.IsTuple a xs
 |false,h,a,xs=>h.IsList a xs
def Av:Bool->String
 |true=> "tuple_iterator"
 |false=> "list_iterator"
def itAt.ext(x:itAt b h it a i)(e:Heap.ExtBut c h h')(n:it≠c):itAt b h' it a i:=by
 cases b with
 |true=>show Heap.IsTupleIter.extBut x e n
 |false=>show Heap.IsListIter.extBut x e n
def itAt.to(x:itAt b h it a i)(e:∀o,h.get? it=R o->h'.get? it=R o):itAt b h' it a i:=by
 cases b with
 |true=>show Heap.IsTupleIter.at x e
 |false=>show Heap.IsListIter.at x e
def itAt.live(x:itAt b h it a i):∃o,h.get? it=R o/\∀v,o.data≠.cell v:=by
 cases b with
 |true=>let(o,e,_,d):=(show h.IsTupleIter it a i from x);show#[o,e,λv z=>by rw[d]at z;ext z]
 |false=>let(o,e,_,d):=(show h.IsListIter it a i from x);show#[o,e,λv z=>by rw[d]at z;ext z]
def sqAt.ext(x:sqAt b h a xs)(e:Heap.ExtBut c h h')(n:a≠c):sqAt b h' a xs:=by
 cases b with
 |true=>show Heap.IsTuple.extBut x e n
 |false=>show Heap.IsList.extBut x e n
def sqAt.psh(x:sqAt b h a xs)(o:Obj):sqAt b (h.push o) a xs:=by
 cases b with
 |true=>show Heap.IsTuple.push x o
 |false=>show Heap.IsList.push x o
def sqAt.lt(x:sqAt b h a xs):a<h.objs.size:=by
 cases b with
 |true=>let(o,e,_):=(show h.IsTuple a xs from x);show cv e
 |false=>let(o,e,_):=(show h.IsList a xs from x);show cv e
section
variable{prog:VV}{w:Wh}{A:V7}{E:Vh->Vp->Prop}{s:Vp}
def xO(d:itAt b s.heap it l i)(e:sqAt b s.heap l xs)(a:xs[i]?=R x)
  (q:∀c,itAt b c it l (i+1)->Heap.SameBut it s.heap c->Q x {s with heap:=c}):wpAny (model prog w) A (SmallTypes.nextOf (.ref it)) Q E s:=by
 cases b with
 |true=>show pp d e a q
 |false=>show wpAny_nextOf_list_item d e a q
def Ct(g:A.handled=M)(d:itAt b s.heap it l i)(f:sqAt b s.heap l xs)(a:xs[i]?=M)
  (q:∀c e,Heap.ExtBut it s.heap c->(∃o,c.get? e=R o/\o.cls=.type "StopIteration")->E (.ref e) {s with heap:=c}):wpAny (model prog w) A (SmallTypes.nextOf (.ref it)) Q E s:=by
 cases b with
 |true=>show qu g d f a q
 |false=>show wpAny_nextOf_list_end g d f a q
def CC(a:sqAt b s.heap l xs)
  (q:Q (.ref s.heap.objs.size) {s with heap:=s.heap.push {cls:=.type (Av b),data:=.fields #v[.ref l,.int 0 0]}}):wpAny (model prog w) A (pyIter (.ref l)) Q E s:=by
 cases b with
 |true=>show abv a q
 |false=>show ZX a q
def EN{Q:Vh->Vp->Prop}(D:acO z TI TO i1 i2 l1 l2)(k:aes s.heap z TI TO .none)
  (hTI:IsPair s.heap TI (.ref i1) (.ref i2)) (hTO:IsPair s.heap TO a b) (h1:itAt b1 s.heap i1 l1 n) (h2:itAt b2 s.heap i2 l2 n) (hl1:sqAt b1 s.heap l1 xs) (V:sqAt b2 s.heap l2 ys) (hx:xs[n]?=lD x) (hy:ys[n]?=lD y)
  (q:∀d,aes d z TI TO (rawInt s.heap.objs.size)->IsPair d TO x y->itAt b1 d i1 l1 (n+1)->itAt b2 d i2 l2 (n+1)->IsPair d s.heap.objs.size x y->d.objs.size=s.heap.objs.size+1->
   (∀c o,c≠z->c≠TO->c≠i1->c≠i2->s.heap.get? c=lD o->d.get? c=lD o)->Q (.ref s.heap.objs.size) {s with heap:=d}):
  wpAny (model prog w) A (Builtin.«zip.__next__» #[[.ref z],[]]) (λfin s'=>∃v,fin=.done (.ret v)/\Q v s') E s:=by
 show wpAny _ _ (field (.ref z) 2>>=_) _ _ _;show Vf (Wf k W W ?_);show wpAny _ _ (field (.ref z) 3>>=_) _ _ _;show Vf (Wf k W W ?_);show Vf (Xe hTI W ?_);show wpAny _ _ (SmallTypes.ownedTupleIsFree (.ref z)>>=_) _ _ _;show Vf ?_;ext SmallTypes.ownedTupleIsFree;show Vf (Wf k W W (Vt ?_));simp only[if_true];show Vf (acu ?_);show Vf (Wf k W W ?_);show Vf (Yr k (by simp) λk₁ t g=>?_);let ag1:=t;clear t;show Vf ?_;simp only[agJ,agV,aaz,ac0];show Vf (Vf (aci ?_));show wpAny _ _ (SmallTypes.nextOf (.ref i1)>>=_) _ _ _;show Vf (xO (h1.ext g.extBut D.i1z) (hl1.ext g.extBut D.l1z) hx λk₂ Y i=>Vt ?_);let J:=i.extBut _ _ D.TOi1 (g.extBut _ _ D.TOz hTO);show Vf (Xe J W ?_);show Vf (abU J λk₃ I h=>?_);let M:=I;clear I;show Vf (YU (Vt ?_));show Vf (Vf (aci ?_));show wpAny _ _ (SmallTypes.nextOf (.ref i2)>>=_) _ _ _;show Vf (xO (((h2.ext g.extBut D.i2z).ext i.extBut D.i12.symm).ext h.extBut D.TOi2.symm) (((V.ext g.extBut D.l2z).ext i.extBut D.l2i1).ext h.extBut D.l2TO) hy λk₄ X l=>Vt ?_);let H:=l.extBut _ _ D.TOi2 M;show Vf (Xe H W ?_);show Vf (abU H λf G j=>?_);let p:IsPair f TO x y:=G;clear G;show Vf (YU (Vt (Vt ?_)));show Vf (Xe p W ?_);show Vf (wpAny_newTuple ?_);let U:f.objs.size=s.heap.objs.size:=by rw[j.1,l.1,h.1,i.1,g.1]
 let C:=j.extBut _ _ D.TOz.symm (l.extBut _ _ D.i2z.symm (h.extBut _ _ D.TOz.symm (i.extBut _ _ D.i1z.symm ag1)));let kp:∀c o,c≠z->c≠TO->c≠i1->c≠i2->s.heap.get? c=lD o->f.get? c=lD o:=λc o N Z c3 c4 e=>
  j.extBut _ _ Z (l.extBut _ _ c4 (h.extBut _ _ Z (i.extBut _ _ c3 (g.extBut _ _ N e))))
 let T:=((Y.ext h.extBut D.TOi1.symm).ext l.extBut D.i12).ext j.extBut D.TOi1.symm;let S:=X.ext j.extBut D.TOi2.symm;let ZO:=cv C;show wpAny _ _ (SmallTypes.ownedTupleHandOut (.ref z) (.ref f.objs.size)>>=_) _ _ _;show Vf ?_;ext SmallTypes.ownedTupleHandOut;let R:aes (f.push {cls:=.type "tuple",data:=.seq #v[x,y]}) z TI TO .ellipsis:=bP _ C;show Vf (Yr R (by simp) λk₇ P B=>?_);let L:=P;show Yr L (by simp) λr O u=>?_;let m:=O;let up:∀c o,c≠z->f.get? c=lD o->r.get? c=lD o:=λc o N e=>u.extBut _ _ N (B.extBut _ _ N (bP _ e));let F:=u.extBut _ _ (WL ZO) (B.extBut _ _ (WL ZO) (cx _ W));let K:r.objs.size=f.objs.size+1:=by rw[u.1,B.1,dN]
 rw[U]at m F K;show Vt #[_,W,?_];rw[U];show q r m (up _ _ D.TOz p) (T.to λo e=>up _ o D.i1z e) (S.to λo e=>up _ o D.i2z e) F K λc o N Z c3 c4 e=>up c o N (kp c o N Z c3 c4 e)
def IM(T:A.handled=Vg)(D:acO z TI TO i1 i2 l1 l2)(d:aes s.heap z TI TO .none)
  (M:IsPair s.heap TI (.ref i1) (.ref i2)) (L:IsPair s.heap TO a b) (U:itAt b1 s.heap i1 l1 n) (Z:itAt b2 s.heap i2 l2 n) (F:sqAt b1 s.heap l1 xs) (J:sqAt b2 s.heap l2 ys) (O:xs[n]?=Vg\/ys[n]?=Vg)
  (q:∀k e,(∀c o,c≠z->c≠TO->c≠i1->c≠i2->s.heap.get? c=lD o->k.get? c=lD o)->(∃o,k.get? e=lD o/\o.cls=.type "StopIteration")->E (.ref e) {s with heap:=k}):
  wpAny (model prog w) A (Builtin.«zip.__next__» #[[.ref z],[]]) Q E s:=by
 show wpAny _ _ (field (.ref z) 2>>=_) _ _ _;show Vf (Wf d W W ?_);show wpAny _ _ (field (.ref z) 3>>=_) _ _ _;show Vf (Wf d W W ?_);show Vf (Xe M W ?_);show wpAny _ _ (SmallTypes.ownedTupleIsFree (.ref z)>>=_) _ _ _;show Vf ?_;ext SmallTypes.ownedTupleIsFree;show Vf (Wf d W W (Vt ?_));simp only[if_true];show Vf (acu ?_);show Vf (Wf d W W ?_);show Vf (Yr d (by simp) λS y f=>?_);let H:=y;show Vf ?_;simp only[agJ,agV,aaz,ac0];show Vf (Vf (aci ?_));show wpAny _ _ (SmallTypes.nextOf (.ref i1)>>=_) _ _ _;cases hx:xs[n]? with
 |none=>
  show Vf (Ct T (U.ext f.extBut D.i1z) (F.ext f.extBut D.l1z) hx λC e g K=>?_);let(I,i,j):=K;let m:=g _ _ D.i1z.symm H;let ne:e≠z:=λt=>by subst t;rw[m]at i;ext i;simp at j
  show Yr m (by simp) λr _ h=>q r e (λc o G _ N _ t=>h.extBut _ _ G (g _ _ N (f.extBut _ _ G t))) #[I,h.extBut _ _ ne i,j]
 |some x=>
  let Y:ys[n]?=Vg:=by
   rcases O with t|t
   .rw[hx]at t;ext t
   .show t
  show Vf (xO (U.ext f.extBut D.i1z) (F.ext f.extBut D.l1z) hx λC X g=>Vt ?_);let p:=g.extBut _ _ D.TOi1 (f.extBut _ _ D.TOz L);show Vf (Xe p W ?_);show Vf (abU p λr P h=>?_);show Vf (YU (Vt ?_));show Vf (Vf (aci ?_));show wpAny _ _ (SmallTypes.nextOf (.ref i2)>>=_) _ _ _;show Vf (Ct T (((Z.ext f.extBut D.i2z).ext g.extBut D.i12.symm).ext h.extBut D.TOi2.symm) (((J.ext f.extBut D.l2z).ext g.extBut D.l2i1).ext h.extBut D.l2TO) Y λR e v K=>?_);let(I,i,j):=K;let l:=v _ _ D.i2z.symm (h.extBut _ _ D.TOz.symm (g.extBut _ _ D.i1z.symm H));let ne:e≠z:=λt=>by subst t;rw[l]at i;ext i;simp at j
  show Yr l (by simp) λB _ u=>q B e (λc o G c2 N c4 t=>u.extBut _ _ G (v _ _ c4 (h.extBut _ _ c2 (g.extBut _ _ N (f.extBut _ _ G t))))) #[I,u.extBut _ _ ne i,j]
end
section
variable{Y:VV}{w:Wh}{A:V7}{E:Vh->Vp->Prop}{s:Vp}
def yH(D:acO z TI TO U J l1 l2)(k:aes s.heap z TI TO .none)
  (h:IsPair s.heap TI (.ref U) (.ref J)) (g:IsPair s.heap TO a b) (p:itAt b1 s.heap U l1 n) (m:itAt b2 s.heap J l2 n) (f:sqAt b1 s.heap l1 xs) (e:sqAt b2 s.heap l2 ys) (l:xs[n]?=R x) (j:ys[n]?=R y)
  (q:∀d,aes d z TI TO (rawInt s.heap.objs.size)->IsPair d TO x y->itAt b1 d U l1 (n+1)->itAt b2 d J l2 (n+1)->IsPair d s.heap.objs.size x y->d.objs.size=s.heap.objs.size+1->
   (∀c o,c≠z->c≠TO->c≠U->c≠J->s.heap.get? c=R o->d.get? c=R o)->Q (R (.ref s.heap.objs.size)) {s with heap:=d}):
  wpAny (model Y w) A (pyNext (.ref z)) Q E s:=by
 let i:s.TypeIs (.ref z) "zip":=#[_,k,W];ext pyNext;show Vf (anQ (Yk i F.slot_zip_next ?_));show Yl F.slot_zip_next i F.entry_zip_next (EN D k h g p m f e l j λd G C B v u t r=>Vt (q d G C B v u t r)) (F.args_zip_next_1 _)
def zb(r:A.handled=M)(D:acO z TI TO J C l1 U)(k:aes s.heap z TI TO .none)
  (i:IsPair s.heap TI (.ref J) (.ref C)) (h:IsPair s.heap TO a b) (y:itAt b1 s.heap J l1 n) (v:itAt b2 s.heap C U n) (g:sqAt b1 s.heap l1 xs) (f:sqAt b2 s.heap U ys) (j:xs[n]?=M\/ys[n]?=M)
  (q:∀d,(∀c o,c≠z->c≠TO->c≠J->c≠C->s.heap.get? c=R o->d.get? c=R o)->Q M {s with heap:=d}):wpAny (model Y w) A (pyNext (.ref z)) Q E s:=by
 let l:s.TypeIs (.ref z) "zip":=#[_,k,W];ext pyNext;show Vf (anQ (Yk l F.slot_zip_next ?_));show Yl F.slot_zip_next l F.entry_zip_next (IM r D k i h y v g f j λd e p t=>?_) (F.args_zip_next_1 _);let(o,m,u):=t;show Vf (aaT #[o,m,u] isSubtype_stop (Vt (q _ p)))
end
abbrev Sl(h:Heap)(b:Bool)(a:I):Heap:=h.push {cls:=.type (Av b),data:=.fields #v[.ref a,.int 0 0]}
abbrev SZ(h:Heap)(f e:Bool)(b a:I):Heap:=(Sl h f b).push {cls:=.type (Av e),data:=.fields #v[.ref a,.int 0 0]}
abbrev S4(h:Heap)(b f:Bool)(a e:I):Heap:=(SZ h b f a e).push {cls:=.type "tuple",data:=.seq #v[.ref h.objs.size,.ref (Sl h b a).objs.size]}
abbrev RL(h:Heap)(f e:Bool)(b a:I):Heap:=(S4 h f e b a).push {cls:=.type "tuple",data:=.seq #v[.none,.none]}
abbrev Um(h:Heap)(f e:Bool)(b a:I):Heap:=(RL h f e b a).push {cls:=.type "zip",data:=.fields #v[.none,.bool Vq,.bool Vq,.ref (SZ h f e b a).objs.size,.ref (S4 h f e b a).objs.size]}
theorem uq(e f:Bool)(a b:I)(xs n:Array B):
  Meets (Builtin.«zip.__new__» #[[.type "zip",.ref a,.ref b],[]]) (λ_ R s=>sqAt e s.heap a xs/\sqAt f s.heap b n/\R (.ok (.ret (.ref (RL s.heap e f a b).objs.size))) {s with heap:=Um s.heap e f a b}):=
 .of_wp λp w A R s h=>by
  let(r,g,d,o,q):=s;let(j,i,h):=h;let t:=sub_zip;let m:sqAt e (Vp.heap #[r,g,d,o,q]) a xs:=j;let l:sqAt f (Vp.heap #[r.push {cls:=.type (Av e),data:=.fields #v[.ref a,.int 0 0]},g,d,o,q]) b n:=sqAt.psh i _
  wp_walk using CC m,CC l
  show#[_,W,h]
section
variable{Y:VV}{w:Wh}{A:V7}{E:Vh->Vp->Prop}{s:Vp}
def IA(e:h.get? it=R {cls:=.type (Av b),data:=.fields #v[.ref l,.int 0 0]}):itAt b h it l 0:=by
 cases b with
 |true=>show#[_,e,W,W]
 |false=>show#[_,e,W,W]
def Gf(l:sqAt b1 s.heap l1 xs)(j:sqAt J s.heap C ys)
  (q:∀d,aes d (s.heap.objs.size+4) (s.heap.objs.size+2) (s.heap.objs.size+3) .none->IsPair d (s.heap.objs.size+2) (.ref s.heap.objs.size) (.ref (s.heap.objs.size+1))->
   IsPair d (s.heap.objs.size+3) .none .none->itAt b1 d s.heap.objs.size l1 0->itAt J d (s.heap.objs.size+1) C 0->(∀c o,s.heap.get? c=R o->d.get? c=R o)->Q (.ref (s.heap.objs.size+4)) {s with heap:=d}):
  wpAny (model Y w) A (call (.type "zip") [.ref l1,.ref C]) Q E s:=by
 show callType_new F.called_zip () (F.typeCall_zip_2 _ _) (F.newCall_zip_2 _ _) (λobj=>F.args_object_init_3 obj _ _) F.entry_zip_new (uq b1 J l1 C xs ys) #[l,j,?_];let i:(Sl s.heap b1 l1).objs.size=s.heap.objs.size+1:=dN ..;let h:(SZ s.heap b1 J l1 C).objs.size=s.heap.objs.size+2:=by rw[dN,i]
 let g:(S4 s.heap b1 J l1 C).objs.size=s.heap.objs.size+3:=by rw[dN,h]
 let p:(RL s.heap b1 J l1 C).objs.size=s.heap.objs.size+4:=by rw[dN,g]
 let v:∀c o,s.heap.get? c=R o->(Sl s.heap b1 l1).get? c=R o:=λc o e=>bP _ e;let n:∀c o,(Sl s.heap b1 l1).get? c=R o->(SZ s.heap b1 J l1 C).get? c=R o:=λc o e=>bP _ e;let f:∀c o,(SZ s.heap b1 J l1 C).get? c=R o->(S4 s.heap b1 J l1 C).get? c=R o:=λc o e=>bP _ e;let b:∀c o,(S4 s.heap b1 J l1 C).get? c=R o->(RL s.heap b1 J l1 C).get? c=R o:=λc o e=>bP _ e;let a:∀c o,(RL s.heap b1 J l1 C).get? c=R o->(Um s.heap b1 J l1 C).get? c=R o:=λc o e=>bP _ e;let m:(Um s.heap b1 J l1 C).get? (RL s.heap b1 J l1 C).objs.size=R _:=cx _ W;let r:=a _ _ (cx _ W);let t:=a _ _ (b _ _ (cx _ W));let u:=a _ _ (b _ _ (f _ _ (cx _ W)));let y:=a _ _ (b _ _ (f _ _ (n _ _ (cx _ W))));rw[h,g,p]at m;rw[i,h]at t;rw[g]at r;rw[i]at u;rw[p];show#[#[_,m,W],q _ m t r (IA y) (IA u) λc o e=>a _ _ (b _ _ (f _ _ (n _ _ (v _ _ e))))]
end
end PySem
namespace L3
open PySem PySem.Spec PyProof.Rows L2
def Gn(b:Bool)(K:Ld)(H:Hp)(a:I)(xs:G V):Prop:=match b with
 |true=>SqT K H a xs
 |false=>SqL K H a xs
def UA(K:Ld)(e b:Bool)(a c:I):It:=
 #[λi H=>∃xs ys x y,Gn e K H a xs/\Gn b K H c ys/\xs[i]?=R x/\ys[i]?=R y,
  λi H v f=>∃p x y,H p=M/\v=.ref p/\(∀xs,Gn e K H a xs->xs[i]?=R x)/\(∀ys,Gn b K H c ys->ys[i]?=R y)/\f=bE H p (.tup [x,y]),
  λi H=>∃xs ys,Gn e K H a xs/\Gn b K H c ys/\(xs.length<=i\/ys.length<=i)]
def La(I:Inv X pins σ H s)(j:SqL X.K H a xs)(i:SqL X.K H a ys):xs=ys:=by
 let(f,h,(o,k,l,_,n,p),_):=I.list j;let(b,g,(r,u,e,_,t,m),_):=I.list i;rw[l]at e;ext e;let:f=b:=by
  let q:f.toArray=b.toArray:=by injection p.symm.trans m
  simpa using q
 subst this;show h.inj g
def qM(I:Inv X pins σ H s)(h:Gn b X.K H a xs):∃c,Vals xs c/\sqAt b s.heap a c.toArray:=by
 cases b with
 |true=>let(c,f,p,e):=I.tuple h;show#[c,f,p]
 |false=>let(c,f,p,e):=I.list h;show#[c,f,p.isList]
def CD(I:Inv X pins σ H s)(f:Gn b X.K H a xs)(e:Gn b X.K H a ys):xs=ys:=by
 cases b with
 |true=>show MJ I f e
 |false=>show La I f e
def Gk{ch:G Vm}(I:Inv X pins σ H s)(g:∀b∈ch,pH X pins H b)
  (k:∀b u,b∉ch->s.heap.get? b=R u->C.get? b=R u):Inv X pins σ H {s with heap:=C,toks:=J}:=by
 let f:∀b u,H b=R u->b∉ch:=λb u e z=>by rw[(g b z).1]at e;ext e
 show I.step (λb j=>?_) (λb u _ _ a e _=>k b u a e) (λb u _ _ a e _=>#[u.slots,k b u a e]) (λ_ _ _ _ n=>n)
  (λb u a e=>#[u,k b u a e]) (λ_ _ e=>e) (λ_ _ _ e=>e) (λb A e=>#[#v[],by rw[e];simp]) (λm hm=>?_) (λb u e=>?_) I.bare
 .let(_,t,_,p,o,l):=g b j;show#[p,t,o,l]
 .let(h,y,w,i,r):=hm;show#[h,y,w,k _ h (λz=>(g _ z).2.1 W) i,r]
 .show(I.WT b u e).ZL (λc v a q=>k c v ?_ q) (λ_ q=>q) λ_ _ q=>q
  rcases a with z|z
  .rw[z];show f b u e
  .show f c _ z
theorem Jh{K:Ld}{d}(b1 V:Bool)(z TI TO B A U T:Vm)(D:acO z TI TO B A U T):
  Turn Pz0 w K (.Tuple elts d tp) (UA K b1 V U T) [z,TI,TO,B,A] z (λi h=>aes h z TI TO .none/\IsPair h TI (.ref B) (.ref A)/\(∃a b,IsPair h TO a b)/\itAt b1 h B U i/\itAt V h A T i) where
 mem:=by simp
 obj:=λi h f b e=>by
  let(l,g,(a,c,m),r,p):=f;simp only[VG,Xh,or_false]at e;rcases e with rfl|rfl|rfl|rfl|rfl
  .show#[_,l,λv q=>by cases(show Data.fields _=Data.cell v from q)]
  .show#[_,g,λv q=>by cases(show Data.seq _ _=Data.cell v from q)]
  .show#[_,m,λv q=>by cases(show Data.seq _ _=Data.cell v from q)]
  .show r.live
  .show p.live
 keep:=λi h h' f k=>by let(l,g,(a,c,m),r,p):=f;show#[k z (by simp) _ l,k TI (by simp) _ g,#[a,c,k TO (by simp) _ m],r.to λo q=>k B (by simp) o q,p.to λo q=>k A (by simp) o q]
 item:=by
  intro X hP hw hK hc i j s σ H E I M f hg;subst hP hw hK;let(l,g,(a,c,m),r,p):=f;let(xs,ys,x,y,J,G,hx,hy):=hg;let(Wr,Q,S):=qM I J;let(F,O,R):=qM I G;let(u,hu,ru):=Q.get hx;let(t,ht,rt):=O.get hy;show yH D l g m r p S R (by simpa using hu) (by simpa using ht) λk z1 o1 g1 g2 pr sz L=>#[_,W,?_];show wpAny_letOwnedTupleGo_zip z1 λC z2 e2=>?_;let Y:=cv l;let hIl:=cv g;let hOl:=cv m;let h1l:B<s.heap.objs.size:=by let(_,q,_):=r.live;show cv q
  let h2l:A<s.heap.objs.size:=by let(_,q,_):=p.live;show cv q
  let hn:=I.WT.fresh (Vy _);let d:∀b o,b∉[z,TI,TO,B,A]->s.heap.get? b=lD o->C.get? b=lD o:=λb o e q=>by simp only[VG,Xh,or_false,not_or]at e;show(e2.2 b e.1).trans (L b o e.1 e.2.2.1 e.2.2.2.1 e.2.2.2.2 q)
  let hT2:=(e2.2 _ (WL Y)).trans pr
  let I2:Inv X j σ (bE H s.heap.objs.size (.tup [x,y])) {s with heap:=C}:=
   I.aeX M d (Vy _) #[by show 2<=VF;decide,[u,t],.cons ru (.cons rt .nil),#[_,hT2,#[W,_,W],W]]
  let N:∀b o,b≠z->k.get? b=lD o->C.get? b=lD o:=λb o n q=>(e2.2 b n).trans q;show#[.ref s.heap.objs.size,_,I2,W,#[_,x,y,hn,W,λzs hs=>by rw[CD I hs J];show hx,λzs hs=>by rw[CD I hs G];show hy,W],
   #[z2,N _ _ D.TIz (L _ _ D.TIz D.TITO D.TIi1 D.TIi2 g),#[_,_,N _ _ D.TOz o1],g1.to λo q=>N _ _ D.i1z q,g2.to λo q=>N _ _ D.i2z q],λb e=>?_]
  let hb2:b<s.heap.objs.size:=by simp only[VG,Xh,or_false]at e;rcases e with rfl|rfl|rfl|rfl|rfl<;>assumption
  rw[aG (VW hb2)];show(M b e).1
 done:=by
  intro X hP hw hK hc i j s σ H E I M f hg;subst hP hw hK;let(l,g,(a,c,m),r,p):=f;let(xs,ys,J,G,Z):=hg;let(Wr,Q,S):=qM I J;let(F,O,R):=qM I G;let hl1:=Q.length;let hl2:=O.length;let hd:Wr.toArray[i]?=Vg\/F.toArray[i]?=Vg:=by
   rcases Z with q|q
   .show .inl (by simp;ext)
   .show .inr (by simp;ext)
  show zb (I.ok.hd hc) D l g m r p S R hd λk L=>#[W,?_];show Gk I M λb o e q=>by simp only[VG,Xh,or_false,not_or]at e;show L b o e.1 e.2.2.1 e.2.2.2.1 e.2.2.2.2 q
 self:=λ_ _ _ _ _ f h=>ajt f.1 h
def FJ(n b a:Nat)(f:b<n)(e:a<n):acO (n+4) (n+2) (n+3) n (n+1) b a:=by constructor<;>(show(_:Nat)≠_;ext)
def OU(K:Ld)(f:TA):TI:=λe H R=>f e H λh b=>∃a c b1 g,h=[.ref a,.ref c]/\(∃xs,Gn b1 K b a xs)/\(∃ys,Gn g K b c ys)/\R (UA K b1 g a c) b
def Jk:WC "zip"=R (.type "zip"):=by left
def Ii{d}(Q:Gl X "zip")(hm:X.mg "zip"=Vg)(k:PA X [l,m] ta)(N:VT [l,m] X.env=(Vq,eval l X.env)::VT [m] X.env:=by rfl)(O:(backTo pos (VT [m] X.env)).any (·.1)=Vq:=by rfl):
  PI X (.Tuple elts d tp) (.Call (.Name "zip" p) [l,m] [] pos) (OU X.K ta):=by
 intro f s y H R I h;show Call_ (mn I Q hm Jk (Xu (cR (k pos f s y H _ I h) λus g #[vs,w,j,F,G]=>?_) N O));let(a,c,Y,U,e,(xs,C),(Z,B),q):=G;subst e;let(u,t,rfl,E,rt):=yD F;ext E;ext rt;let(Wr,rx,r):=qM j C;let(M,ry,o):=qM j B;let T:∀b∈[g.heap.objs.size+4,g.heap.objs.size+2,g.heap.objs.size+3,g.heap.objs.size,g.heap.objs.size+1],pH X f w b:=λb v=>by
  let i:g.heap.objs.size<=b:=by simp only[VG,Xh,or_false]at v;let S:=v;ext
  show j.acD i (j.WT.fresh i)
 show Gf r o λh1 n L J A z P=>?_;show ajt n ?_;show#[g.heap.objs.size+4,_,_,_,w,W,j.kept P,Jh Y U _ _ _ _ _ a c (FJ _ _ _ r.lt o.lt),#[n,L,#[_,_,J],A,z],T,q]
def So:WB->Bool
 |.Starred _ _=>P
 |_=>Vq
def v3(e:WB)(a:G WB)(env:Env)(h:So e=Vq):VT (e::a) env=(Vq,eval e env)::VT a env:=by ext e<;>first|rfl|ext h
def lL:G D->G D->G D
 |x::r,y::q=>.tuple [x,y]::lL r q
 |_,_=>[]
theorem zd:∀(xs a:G D),(lL xs a).length=min xs.length a.length
 |[],_=>by simp[lL]
 |_::_,[]=>by simp[lL]
 |_::r,_::q=>by simp only[lL,VI,zd r q];ext
theorem Ah:∀(xs a:G D) (i:Nat),(lL xs a)[i]?=(xs[i]?).bind λx=>(a[i]?).map λy=>.tuple [x,y]
 |[],_,_=>by simp[lL]
 |x::r,[],i=>by ext i<;>simp[lL]
 |x::r,y::q,0=>by simp[lL]
 |x::r,y::q,i+1=>by simp only[lL,adS];show Ah r q i
section
variable{K:Ld}{E:XK}{B O Z:cJ}{U H X:Hp}{T:L2.St}{Y S:bx}{v:V}
def aeb(b:Bool)(O:cJ)(K:Ld)(H:Hp)(a:I)(xs:G V):Prop:=match b with
 |true=>aaG O K H a xs
 |false=>ach O K H a xs
def aeb.ev(h:aeb b O K H a xs)(e:Ev O H Z X):aeb b Z K X a xs:=by
 cases b with
 |true=>show aaG.ev h e
 |false=>show ach.ev h e
def aeb.at(h:aeb b O K H a xs):Gn b K H a xs:=by
 cases b with
 |true=>show(show aaG O K H a xs from h).1
 |false=>show(show ach O K H a xs from h).1.sq
def PF(h:aeb b1 O K H a xs)(hd:Xn O K H xs ds)(g:aeb b2 O K H c ys)(C:Xn O K H ys es):BR K (UA K b1 b2 a c) O H (lL ds es):=by
 intro Z X e n;let j:=h.ev e;let f:=hd.ev e;let m:=g.ev e;let l:=C.ev e;rw[zd];show#[λi hi=>?_,#[xs,ys,j.at,m.at,?_]]
 .let w:i<ds.length:=by ext
  let u:i<es.length:=by ext
  let(x,A,Q):=f.get (Vv w);let(y,z,F):=l.get (Vv u);show#[#[xs,ys,x,y,j.at,m.at,A,z],?_];rintro t G ⟨p,J,I,b,rfl,N,L,rfl⟩;let r:=N xs j.at;let o:=L ys m.at;rw[A]at r;rw[z]at o;ext r;ext o;show#[bq b _,.tuple [ds[i],es[i]],?_,.tup #[SqT.of aJ,λq=>a6 q (n p b)] (.cons (Q.ev (Ev.grow (bq b _))) (.cons (F.ev (Ev.grow (bq b _))) .nil))];rw[Ah,Vv w,Vv u];rfl
 .rw[hd.length,C.length];ext
def Oq(h:DV O K H v d)(q:gl d=R ds):∃b a xs,v=.ref a/\aeb b O K H a xs/\Xn O K H xs ds:=by
 cases h with
 |tup h e=>ext q;show#[P,_,_,W,h,e]
 |lst h e=>ext q;show#[Vq,_,_,W,h,e]
 |_=>ext q
def ze(c:FA):FI:=λY=>(c Y).bind λa=>(Res.WE (rJ a.2 a.1)).bind λb=>match b.1 with
 |[d,e]=>(Res.WE (gl d)).bind λds=>(Res.WE (gl e)).bind λf=>.ok (lL ds f,b.2)
 |_=>.bad
def Hv(h:AO K E ta fa):IO K E (OU K ta) (ze fa):=by
 intro B U O T H Y M R w;show h B U O T H Y _ R (w.bind.imp λa b N Q J r G m=>?_);let((ds,i),q,b):=b.WE;let(I,p,R2,t):=tX G m q;dsimp only at b;cases t with
 |nil=>show b.elim
 |cons o e=>
  cases e with
  |nil=>show b.elim
  |cons e n=>
   cases n with
   |cons _ _=>show b.elim
   |nil=>let(es,l,b):=WR.WE b;let(fs,j,b):=WR.WE b;let(A,F,xs,rfl,g,y):=Oq o l;let(z,C,L,rfl,f,u):=Oq e j;show#[F,C,A,z,W,#[_,g.at],#[_,f.at],b I _ J (r.trans p) R2 (PF g y f u)]
def jU(d e:D):br RV:=match d,e with
 |.str z,.int i=>if z.length<=1000000 then(nj z.cps.toList i).map λc=>.fz (.str #[#v[c]])else M
 |_,_=>M
def sC:oA K (Tz K) jU:=by
 intro O H x y l g j Q n b a e q;unfold jU at e;split at e
 .split at e
  .rename_i z i f
   cases h:nj z.cps.toList i with
   |none=>rw[h]at e;ext e
   |some c=>rw[h]at e;ext e;ext b;ext a;show .inr (.inr #[z,i,c,W,W,Et f,h,q.at (.str _)])
  .ext e
 .ext e
end
end L3
namespace L3
open PySem L2
def UQ(N C:bx->Prop)(T:RV->Prop):Res Fl->Prop
 |.ok (.nx a)=>N a
 |.ok (.ct a)=>C a
 |.ok (.rt v)=>T v
 |_=>False
structure Go(r:Res Fl)(N C:bx->Prop)(T:RV->Prop):Prop where
 out:UQ N C T r
section
variable{ρ ρ1 ρ2 ρ3:bx}{f g:FS}{fe:FE}{pv:PV}{d:D}{rv:RV}{ds:bg D}{N C:bx->Prop}{T:RV->Prop}
def Go.eq(e:r=r')(h:Go r' N C T):Go r N C T:=by rw[e];show h
def Go.imp(h:Go r N C T)(b:∀ρ,N ρ->N' ρ)(e:∀ρ,C ρ->C' ρ)(a:∀v,T v->T' v):Go r N' C' T':=by
 show#[?_];let h:=h.out;cases r with
 |bad=>show h
 |er x=>show h
 |ok i=>
  cases i with
  |nx r=>show b _ h
  |ct r=>show e _ h
  |rt v=>show a _ h
  |bk r=>show h
def Hn(h:Go (f ρ) (λr=>Go (g r) N C T) C T):Go (cr f g ρ) N C T:=by
 show#[?_];let h:=h.out;ext cr;cases q:f ρ with
 |bad=>rw[q]at h;show h.elim
 |er x=>rw[q]at h;show h.elim
 |ok a=>
  rw[q]at h;cases a with
  |nx r=>show(show Go (g r) N C T from h).out
  |ct r=>show h
  |rt v=>show h
  |bk r=>show h.elim
def HN(h:c ρ=.ok (b,ρ1))(a:b=P->Go (f ρ1) N C T)(e:b=Vq->Go (g ρ1) N C T):Go (oE c f g ρ) N C T:=by
 ext oE;rw[h,e8];cases b with
 |true=>show a W
 |false=>show e W
theorem Ht(b:fe ρ=.ok (pv,ρ1))(a:gt pv ρ1=.ok ρ2)(h:N ρ2):Go (gH fe gt ρ) N C T:=.eq (BF b a W) #[h]
theorem xk(a:fe ρ=.ok (pv,ρ1))(h:N ρ1):Go (nr fe ρ) N C T:=.eq (xb a) #[h]
theorem gC(b:fe ρ=.ok (pv,ρ1))(a:Fp ρ1 pv=R rv)(h:T rv):Go (fO fe ρ) N C T:=.eq (xp b a) #[h]
theorem xV(h:N ρ):Go (gm ρ) N C T:=#[h]
theorem Eg(I:Nat->bx->Prop):∀(ds:G D) (k:Nat) (ρ:bx),I k ρ->(∀i d ρ,ds[i]?=R d->I (k+i) ρ->∃ρ1,gt (.fz d) ρ=.ok ρ1/\Go (b ρ1) (I (k+i+1)) (I (k+i+1)) T)->Go (rG gt b ds ρ) (I (k+ds.length)) C T
 |[],k,ρ,h0,_=>#[h0]
 |d::r,k,ρ,h0,u=>by
  let(ρ1,o,a):=u 0 d ρ W h0;let a:=a.out;let l:∀j,I (k+1) j->Go (rG gt b r j) (I (k+(r.length+1))) C T:=λj h=>by
   let e:k+(r.length+1)=k+1+r.length:=by ext
   rw[e];show Eg I r (k+1) j h λi t m w n=>?_;let e:k+1+i=k+(i+1):=by ext
   rw[e]at n⊢;show u (i+1) t m (by simpa using w) n
  show#[?_];show UQ _ _ _ ((gt (.fz d) ρ).bind _);rw[o,e8];cases q:b ρ1 with
  |bad=>rw[q]at a;show a.elim
  |er x=>rw[q]at a;show a.elim
  |ok p=>
   rw[q]at a;cases p with
   |nx r=>show(l _ a).out
   |ct r=>show(l _ a).out
   |rt v=>show a
   |bk r=>show a.elim
def Pj(I:Nat->bx->Prop)(k:o ρ=.ok (ds,ρ1))(j:I 0 ρ1)(a:∀i d ρ,ds[i]?=R d->I i ρ->∃ρ1,gt (.fz d) ρ=.ok ρ1/\Go (b ρ1) (I (i+1)) (I (i+1)) T)(e:∀c,I ds.length c->N c):Go (uX o gt b ρ) N C T:=by let:=Eg (C:=C) I ds 0 ρ1 j (by simpa using a);rw[Xs]at this;show .eq (AM k) (this.imp e (λ_ h=>h) λ_ h=>h)
def ui(a:ds.map (λd=>R (.fz d))++Vw (n - ds.length) M=ρ)(h:Go (g ρ) (λ_=>T (.fz .none)) (λ_=>False) T):∃rv,iB n g ds=.ok rv/\T rv:=by
 let h:=h.out;ext iB;rw[a];cases q:g ρ with
 |bad=>rw[q]at h;show h.elim
 |er x=>rw[q]at h;show h.elim
 |ok b=>
  rw[q]at h;cases b with
  |nx r=>show#[_,W,h]
  |ct r=>show h.elim
  |rt v=>show#[_,W,h]
  |bk r=>show h.elim
def jN(a:ds.map (λd=>R (.fz d))++Vw (n - ds.length) M=ρ)(h:Go (g ρ) (λ_=>RV.fz .none=v) (λ_=>False) (λr=>r=v)):iB n g ds=.ok v:=by let(rv,e,b):=ui (T:=λr=>r=v) a h;rw[e,b]
theorem ef(b:fe ρ=.ok (pv,ρ1))(a:gt pv ρ1=.ok ρ2)(c:ρ2=ρ3)(h:Go (g ρ3) N C T):Go (cr (gH fe gt) g ρ) N C T:=.eq (B4 (BF b a c)) h
theorem jH(b:fe ρ=.ok (pv,ρ1))(a:Fp ρ1 pv=R rv)(h:T rv):Go (cr (fO fe) g ρ) N C T:=.eq (GU (xp b a)) #[h]
theorem gS(h:Go (g ρ) N C T):Go (cr gm g ρ) N C T:=.eq W h
def Fw:cr (cr f1 f2) g ρ=cr f1 (cr f2 g) ρ:=by
 ext cr;cases f1 ρ with
 |bad=>rfl
 |er x=>rfl
 |ok a=>ext a<;>rfl
theorem Ky(h:Go (cr f1 (cr f2 g) ρ) N C T):Go (cr (cr f1 f2) g ρ) N C T:=.eq Fw h
def pI(i:c ρ=.ok (b,ρ1))(a:b=P->Go (cr f1 g ρ1) N C T)(h:b=Vq->Go (cr f2 g ρ1) N C T):Go (cr (oE c f1 f2) g ρ) N C T:=by
 let e:cr (oE c f1 f2) g ρ=if b=P then cr f1 g ρ1 else cr f2 g ρ1:=by unfold cr oE;rw[i,e8];ext b<;>rfl
 show .eq e ?_;cases b with
 |true=>show a W
 |false=>show h W
theorem B7(I:Nat->bx->Prop)(j:o ρ=.ok (ds,ρ1))(h:I 0 ρ1)(a:∀i d ρ,ds[i]?=R d->I i ρ->∃ρ1,gt (.fz d) ρ=.ok ρ1/\Go (b ρ1) (I (i+1)) (I (i+1)) T)(e:∀c,I ds.length c->Go (g c) N C T):Go (cr (uX o gt b) g ρ) N C T:=
 Hn (Pj I j h a e)
theorem vQ(I:bx->Prop)(P:Nat->D->Prop):∀(ds:G D) (k:Nat) (ρ:bx) (a:G D),I ρ->a.length+ds.length<=1000000->(∀i d,ds[i]?=R d->∀ρ,I ρ->∃x c,lK gt J fe d ρ=.ok (R x,c)/\I c/\P (k+i) x)->
  ∃xs,d4 gt J fe ds ρ a=.ok (a++xs)/\xs.length=ds.length/\∀i x,xs[i]?=R x->P (k+i) x
 |[],k,ρ,a,_,_,_=>#[[],by show Res.ok a=_;simp,W,λi x h=>by simp at h]
 |d::r,k,ρ,a,h0,w,v=>by
  let(x,c,o,n,m):=v 0 d W ρ h0;rw[VI]at w;let(xs,t,q,p):=vQ I P r (k+1) c (a++[x]) n (by rw[Vs];simp;ext) λi u A b l=>by
   let e:k+1+i=k+(i+1):=by ext
   rw[e];show v (i+1) u (by simpa using A) b l
  show#[x::xs,?_,by rw[VI,q,VI],λi y j=>?_]
  .rw[uO o ()];show d4 gt J fe r c (a++[x])=_;rw[t,Wc];rfl
  .cases i with
   |zero=>cases(show R x=R y from j);show m
   |succ i=>
    let e:k+(i+1)=k+1+i:=by ext
    rw[e];show p i y (by simpa using j)
def zZ(I:bx->Prop)(P:Nat->D->Prop)(e:I ρ)(b:ds.length<=1000000)(a:∀i d,ds[i]?=R d->∀ρ,I ρ->∃x c,lK gt ft fe d ρ=.ok (R x,c)/\I c/\P i x):
  ∃xs,k8 (d4 gt ft fe ds ρ [])=.ok xs/\xs.length=ds.length/\∀i x,xs[i]?=R x->P i x:=by
 let(xs,l,j,h):=vQ I P ds 0 ρ [] e (by simpa using b) (by simpa using a);show#[xs,by rw[l];rfl,j,by simpa using h]
theorem xI{α:Type}{f:α->D}{Q:Nat->α->Prop}:∀(xs:G D) (k:Nat),(∀i x,xs[i]?=R x->∃a,x=f a/\Q (k+i) a)->∃as:G α,xs=as.map f/\∀i a,as[i]?=R a->Q (k+i) a
 |[],_,_=>#[[],W,λi a h=>by simp at h]
 |x::r,k,h=>by
  let(a,e,q):=h 0 x W;let(as,n,l):=xI (f:=f) (Q:=Q) r (k+1) λi y m=>by
   let e:k+1+i=k+(i+1):=by ext
   rw[e];show h (i+1) y (by simpa using m)
  show#[a::as,by rw[e,n];rfl,λi b j=>?_];cases i with
  |zero=>cases(show R a=R b from j);show q
  |succ i=>
   let e:k+(i+1)=k+1+i:=by ext
   rw[e];show l i b (by simpa using j)
def UB(c:Vo.strOk a=P)(e:Vo.strOk b=P):dJ (.str a) (.str b)=R (.fz (.bool (a==b))):=by ext dJ;rw[show mK (.str a)=P by ext mK;rw[show Vo.canLay0 (.str a)=P from c];rfl,show Vo.canLay0 (.str b)=P from e,X7,ag W];rfl
def Ob(b:Vo.strOk a=P):dJ (.str a) (.str a)=R (.fz (.bool P)):=by rw[UB b b,eW]
def Ek(c:Vo.strOk a=P)(e:Vo.strOk b=P)(h:(a==b)=Vq):dJ (.str a) (.str b)=R (.fz (.bool Vq)):=by rw[UB c e,h]
theorem yd{α:Type}{xs:G α}{i:Int}{v:α}(a:0<=i)(h:xs[i.toNat]?=R v):nj xs i=R v:=Q7 a h
def Fi(a:0<=i)(h:ds[i.toNat]?=R d):bv (.list ds) (.int i)=R (.fz d):=by show(nj ds i).map RV.fz=_;rw[yd a h];rfl
def NH{s:G Nat}(e:s.Pairwise (·<·))(h:∀k∈s,k<n):s.length<=n:=by
 let:∀(s:G Nat) (a:Nat),s.Pairwise (·<·)->(∀k∈s,a<=k/\k<n)->s.length<=n - a:=by
  intro s
  induction s with
  |nil=>intro a _ _;show Wo _
  |cons x r i=>intro a e h;let(l,j):=W2.mp e;let m:=h x Vn;let:=i (x+1) j λk b=>#[l k b,(h k (Vr _ b)).2];rw[VI];ext
 show this s 0 e λk b=>#[Wo _,h k b]
def xK(c:fr ρ=.ok (o,ρ1))(hd:rJ ρ1 o=R ([d,e],ρ2))(b:gl d=R J)(a:gl e=R fs):ze fr ρ=.ok (lL J fs,ρ2):=by ext ze;rw[c,e8,hd,bf,e8];dsimp only;rw[b,bf,e8,a,bf,e8]
end
end L3
namespace L2
open PySem PySem.Spec PyProof.Rows
section
variable{Y:Type}[DecidableEq Y]
def lc(b:G (Y×V))(k:Y):br V:=(b.find? λa=>decide (a.1=k)).map (·.2)
def jY(b:G (Y×V))(k:Y)(v:V):G (Y×V):=
 if(b.any λa=>decide (a.1=k))=P then b.map (λa=>if a.1=k then(a.1,v)else a)else b++[(k,v)]
def oZ(b:G (Y×V))(k:Y):G (Y×V):=b.filter λa=>decide (a.1≠k)
def t9{k:Y}(e:p.1=k):lc (p::r) k=R p.2:=by simp[lc,Wn,e]
def uj{k:Y}(e:¬p.1=k):lc (p::r) k=lc r k:=by simp[lc,Wn,e]
theorem yF(k:Y):∀a:G (Y×V),(a.any λb=>decide (b.1=k))=(lc a k).isSome
 |[]=>rfl
 |p::r=>by
  rw[Zt];by_cases e:p.1=k
  .simp only[t9 e,ax e,XD,ae4]
  .rw[uj e,aP e,Zs];show yF k r
def lV(a:G (Y×V))(k:Y)(v:V):(jY a k v).length<=a.length+1:=by
 ext jY;split
 .rw[Vj];ext
 .rw[Vs,VI,Xb];ext
def ZU.aaO(r:ZU o u):o.isSome=u.isSome:=by
 cases o with
 |none=>cases u with
  |none=>rfl
  |some _=>show(show False from r).elim
 |some _=>cases u with
  |none=>show(show False from r).elim
  |some _=>rfl
def KV.val{d:G (Y×V)}{c:G (Y×B)}(r:KV d c)(k:Y):ZU (lc d k) (valueAt c k):=by
 unfold KV at r
 induction r with
 |nil=>show True.intro
 | @cons p q l i h t j=>
  let(f,g):=h;by_cases e:p.1=k
  .let a:q.1=k:=f.symm.trans e
   let b:valueAt (q::i) k=R q.2:=by simp[valueAt,Wn,a]
   rw[t9 e,b];show g
  .let a:¬q.1=k:=λz=>e (f.trans z)
   let b:valueAt (q::i) k=valueAt i k:=by simp[valueAt,Wn,a]
   rw[uj e,b];show j
def KV.any(r:KV V1 vs)(k:Y):(V1.any λb=>decide (b.1=k))=vs.any λb=>decide (b.1=k):=by
 unfold KV at r
 induction r with
 |nil=>rfl
 |cons h t a=>rw[Zt,Zt,a,h.1]
def KV.aik(r:KV V1 vs)(k:Y)(b:RelV y u):
  KV (V1.map λc=>if c.1=k then(c.1,y)else c) (vs.map λc=>if c.1=k then(c.1,u)else c):=by
 unfold KV at r⊢
 induction r with
 |nil=>show .nil
 | @cons p q j i h t g=>
  rw[VP,VP];show .cons ?_ g;let(a,f):=h;by_cases e:p.1=k
  .rw[ag e,ag (a.symm.trans e)];show#[a,b]
  .rw[av e,av (λz=>e (a.trans z))];show#[a,f]
def KV.put(r:KV V1 vs)(k:Y)(a:RelV y u):KV (jY V1 k y) (stored vs k u):=by
 unfold jY stored;rw[r.any k];by_cases e:(vs.any λb=>decide (b.1=k))=P
 .rw[ag e,ag e];show r.aik k a
 .rw[av e,av e];show Paired.snoc r #[W,a]
def KV.drop(r:KV V1 vs)(k:Y):KV (oZ V1 k) (without vs k):=by
 unfold KV at r⊢;unfold oZ without
 induction r with
 |nil=>show .nil
 | @cons p q m l h t j=>
  let(f,g):=h;rw[YJ,YJ];by_cases e:p.1=k
  .let a:¬decide (p.1≠k)=P:=by simp[e]
   let b:¬decide (q.1≠k)=P:=by simp[f.symm.trans e]
   rw[av a,av b];show j
  .let i:¬q.1=k:=λz=>e (f.trans z)
   let a:decide (p.1≠k)=P:=by simp[e]
   let b:decide (q.1≠k)=P:=by simp[i]
   rw[ag a,ag b];show .cons #[f,g] j
def KV.keys{b:G (Y×B)}(r:KV V1 b):V1.map (·.1)=b.map (·.1):=by
 unfold KV at r
 induction r with
 |nil=>rfl
 |cons h t a=>rw[VP,VP,a,h.1]
theorem KV.length(r:KV V1 vs):V1.length=vs.length:=Paired.length r
theorem G0(a:G (Y×V))(k:Y):(oZ a k).length<=a.length:=aaL _ _
end
def vM(r:RelV (kV k) u):(dm a w).is k u=Vi:=by
 cases k with
 |inl i=>let(t,e):=(show∃t,u=Vh.int i t from r);subst e;show zz a w i t
 |inr x=>let(t,e):=(show∃t,u=Vh.str x t from r);subst e;show zF a w x t
theorem v5:∀{b:G db} {us:G B},Vals (b.map kV) us->ItemsAre (dm a w) b us
 |[],_,r=>by rw[Zb]at r;ext r;show .nil
 |k::b,_,r=>by
  rw[VP]at r;cases r with
  |cons h t=>show .cons (vM h) (v5 t)
abbrev KT(H:Hp):G (G db×V)->G (G db×I×B)->Prop:=Paired λp q=>p.1=q.1/\H q.2.1=R (.tup (p.1.map kV))/\RelV p.2 q.2.2
def KT.val(r:KT H V1 xs)(k:G db):ZU (lc V1 k) ((atKey xs k).map (·.2)):=by
 induction r with
 |nil=>show True.intro
 | @cons p q l i h t j=>
  let(f,_,g):=h;by_cases e:p.1=k
  .let a:=f.symm.trans e
   let b:atKey (q::i) k=R q.2:=by simp[atKey,Wn,a]
   rw[t9 e,b];show g
  .let a:¬q.1=k:=λz=>e (f.trans z)
   let b:atKey (q::i) k=atKey i k:=by simp[atKey,Wn,a]
   rw[uj e,b];show j
def KT.aik(r:KT H V1 xs)(k:G db)(f:RelV y u):
  KT H (V1.map λc=>if c.1=k then(c.1,y)else c) (xs.map (putAt k u)):=by
 induction r with
 |nil=>show .nil
 | @cons p q l j h t i=>
  rw[VP,VP];show .cons ?_ i;let(a,b,g):=h;ext putAt;by_cases e:p.1=k
  .rw[ag e,ag (a.symm.trans e)];show#[a,b,f]
  .rw[av e,av (λz=>e (a.trans z))];show#[a,b,g]
def KT.put(r:KT H V1 xs)(k:G db)(g:H b=R (.tup (k.map kV)))(a:RelV y u):
  KT H (jY V1 k y) (storedH xs k b u):=by
 let e:(V1.any λf=>decide (f.1=k))=(atKey xs k).isSome:=by rw[yF,(r.val k).aaO,abO]
 unfold jY storedH;rw[e];by_cases q:(atKey xs k).isSome=P
 .rw[ag q,ag q];show r.aik k a
 .rw[av q,av q];show Paired.snoc r #[W,g,a]
theorem KT.keeps(r:KT H V1 xs)(a:∀b ys,H b=R (.tup ys)->H' b=R (.tup ys)):KT H' V1 xs:=
 Paired.ZW r λ_ _ z=>#[z.1,a _ _ z.2.1,z.2.2]
section
variable{P:VV}{w:Wh}{H:Hp}{h:Heap}{a:Vm}
theorem Og(ok:HOk P w H h)(e:Rd H a u):ObjOk P w H h a u:=e.ok ok
theorem An(ok:HOk P w H h)(e:Rd H a (.dK o)):o.length<=VF/\(a==XZ)=Vq/\∃b,KV o b/\h.DictOf (dm P w) a b:=
 show ObjOk P w H h a (.dK o)from Og ok e
theorem Af(ok:HOk P w H h)(e:H a=R (.dK o)):o.length<=VF/\(a==XZ)=Vq/\∃b,KV o b/\h.DictOf (dm P w) a b:=An ok (.inl e)
def yo{c:G db}(ok:HOk P w H h)(e:H a=R (.tup (c.map kV))):(tupleKind (dm P w)).is h c a:=by let(_,i,r,o,g,(f,n,b),_):=(show ObjOk P w H h a (.tup (c.map kV))from ok a _ e);show#[o,i.toArray,n,g,f,b,by simpa using v5 r]
def Al(ok:HOk P w H h)(e:Rd H a (.dT C)):C.length<=VF/\(a==XZ)=Vq/\
  ∃xs,KT H C xs/\h.DictOfH (tupleKind (dm P w)) a xs:=by
 let(z,y,xs,r,o,E,u,n,j,i,g,f):=(show ObjOk P w H h a (.dT C)from Og ok e);show#[z,y,xs,r,o,E,u,n,j,i,g,λx b=>?_,f];let all:∀{l:G (G db×V)} {m:G (G db×I×B)},KT H l m->∀x∈m,(tupleKind (dm P w)).is h x.1 x.2.1:=by
  intro l m q
  induction q with
  |nil=>intro x b;show nomatch b
  | @cons p q L J v t A=>
   intro x b;rcases VG.mp b with e|b
   .subst e;show yo ok (by rw[<-v.1];show v.2.1)
   .show A x b
 show all r x b
theorem R0(ok:HOk P w H h)(e:H a=R (.dT o)):o.length<=VF/\(a==XZ)=Vq/\
  ∃xs,KT H o xs/\h.DictOfH (tupleKind (dm P w)) a xs:=Al ok (.inl e)
end
def adB(H:Hp)(a:I)(y:V)(r:br V):Prop:=
 (∃e k,Rd H a (.dK e)/\y=kV k/\r=lc e k)\/∃e k b,Rd H a (.dT e)/\y=.ref b/\H b=R (.tup (k.map kV))/\r=lc e k
def agk(H:Hp)(a:I)(y v:V)(H':Hp):Prop:=
 (∃e k,H a=R (.dK e)/\y=kV k/\e.length<VF/\H'=bE H a (.dK (jY e k v)))\/
 ∃e k b,H a=R (.dT e)/\y=.ref b/\H b=R (.tup (k.map kV))/\e.length<VF/\H'=bE H a (.dT (jY e k v))
theorem adB.k{k:db}(e:H a=R (.dK V1)):adB H a (kV k) (lc V1 k):=.inl #[V1,k,.inl e,W,W]
theorem agk.k{k:db}(e:H a=R (.dK V1))(b:V1.length<VF):agk H a (kV k) v (bE H a (.dK (jY V1 k v))):=.inl #[V1,k,e,W,b,W]
section
variable{X:Cx}{Z:bg (Vm×Obj)}{Y:St}{H:Hp}{s:Vp}{a:Vm}{y v:V}{u r:Vh}{o:br V}{A:V7}{E:Vh->Vp->Prop}
def Inv.big(I:Inv X Z Y H s):XZ<s.heap.objs.size:=by let h:=(I.mod.glob.keeps I.bk).lt;show Zj () h
def Fm{Q:Vh->Vp->Prop}(t:A.units+1<cLine)(I:Inv X Z Y H s)(g:adB H a y (R v))(q:RelV y u)(h:∀c d,Inv X Z Y H d->RelV v c->Q c d):
  wpAny (model X.prog X.w) A (getItem (.ref a) u) Q E s:=by
 rcases g with⟨J,k,e,n,l⟩|⟨J,k,b,e,n,F,l⟩
 .subst n;let(z,C,w,i,dd):=An I.WT e;let(c,j,f):=ZU.some_of (v:=v) (o:=valueAt w k) (by rw[l];show i.val k);show wpAny_getItem_of (vM q) dd.mapOf j (h c _ (I.tok _) f)
 .subst n;cases(show u=Vh.ref b from q);let(z,C,xs,i,dd):=Al I.WT e;let(c,j,f):=ZU.some_of (v:=v) (o:=(atKey xs k).map (·.2)) (by rw[l];show i.val k);let(p,B,m):=adH.mp j;show ahU (acv t) (yo I.WT F) dd B ?_;rw[m];show h c _ (I.tok _) f
def Ue{Q:B->Vp->Prop}(n:A.units+1<cLine)(I:Inv X Z Y H s)(g:adB H a y o)(m:RelV y u)(h:∀c,Inv X Z Y H c->Q (.bool o.isSome) c):
  wpAny (model X.prog X.w) A (XA .In u (.ref a)) Q E s:=by
 rcases g with⟨t,k,e,j,l⟩|⟨t,k,b,e,j,p,l⟩
 .subst j;let(z,i,w,f,dd):=An I.WT e;show wpAny_in_of (vM m) i dd.mapOf ?_;rw[<-(f.val k).aaO,<-l];show h _ (I.tok _)
 .subst j;cases(show u=Vh.ref b from m);let(z,i,xs,f,dd):=Al I.WT e;show wpAny_in_heap (acv n) (yo I.WT p) i dd ?_;let q:=(f.val k).aaO;rw[abO]at q;rw[<-q,<-l];show h _ (I.tok _)
theorem su{c:Heap}{d:Nat}{f:HO}(I:Inv X Z Y H s)(g:S2 (H a))(h:Heap.SameBut a s.heap c)(i:∃q,c.get? a=R q)(new:ObjOk X.prog X.w (bE H a f) c a f):
  Inv X Z Y (bE H a f) {s with heap:=c,toks:=d}:=
 I.write (x:=a) (e:=a) g (.inl W) (λb q j z=>(h.2 b j).trans z) i new
theorem A5(z:J.length<=VF)(hd:(a==XZ)=Vq)(b:KV J C)(dd:U.DictOf (dm e w) a C):
  ObjOk e w H' U a (.dK J):=#[z,hd,C,b,dd]
def FV{H':Hp}{Q:Unit->Vp->Prop}(L:A.units+1<cLine)(I:Inv X Z Y H s)(g:agk H a y v H')(F:RelV y u)(x:RelV v r)(h:∀d,Inv X Z Y H' d->Q ⟨⟩ d):
  wpAny (model X.prog X.w) A (setItem (.ref a) u r) Q E s:=by
 rcases g with⟨w,k,e,B,l,C⟩|⟨w,k,b,e,B,K,l,C⟩
 .subst B C
  let(z,t,U,f,dd):=Af I.WT e;let m:U.length<=VF:=by rw[<-f.length];show z
  let p:(jY w k v).length<=VF:=by let:=lV w k v;ext
  show wpAny_setItem_pairs (hsz:=m) (vM F) dd λG i n=>h _ ?_;let M:∃q,G.get? a=lD q:=let#[q,_,_,j,_]:=i;#[q,j]
  show su I (by rw[e];show True.intro) n M (A5 p t (f.put k x) i)
 .subst B C
  cases(show u=Vh.ref b from F);let(z,t,xs,f,dd):=R0 I.WT e;let m:xs.length<=VF:=by rw[<-Paired.length f];show z
  let p:(jY w k v).length<=VF:=by let:=lV w k v;ext
  show ahV (hsz:=m) (acv L) (yo I.WT K) dd λG i n=>h _ ?_;let(q,es,S,j,R,P,O,_,N):=i;show su I (by rw[e];show True.intro) n #[q,j] #[p,t,_,(f.put k K x).keeps λc T J=>?_,q,es,S,j,R,P,O,N];rw[aG (RY J e (λz=>nomatch z))];show J
end
section
variable{X:Cx}{Z:bg (Vm×Obj)}{U:St}{H:Hp}{s:Vp}{a:Vm}{Y:bg (db×V)}{k:db}{u:Vh}{A:V7}{E:Vh->Vp->Prop}
def Th{v:V}{b:G Vh}{Q:Vh->Vp->Prop}(I:Inv X Z U H s)(e:H a=R (.dK Y))(j:RelV (kV k) u)(l:lc Y k=R v)(hm:b=[]\/∃x,b=[x])
  (h:∀c d,Inv X Z U (bE H a (.dK (oZ Y k))) d->RelV v c->Q c d):wpAny (model X.prog X.w) A (call (.builtin "dict.pop") (.ref a::u::b)) Q E s:=by
 let(z,B,w,f,dd):=Af I.WT e;let(c,n,m):=ZU.some_of (v:=v) (o:=valueAt w k) (by rw[<-l];show f.val k);let r:(keyPart u).isSome=P:=by
  cases k with
  |inl i=>let(t,q):=(show∃t,u=Vh.int i t from j);subst q;rfl
  |inr x=>let(t,q):=(show∃t,u=Vh.str x t from j);subst q;rfl
 let L:argsOk "dict.pop" #[.ref a::u::b,[]]:=by
  rcases hm with q|⟨x,q⟩
  .subst q;show PySem.F.args_dict_pop_2 _ _
  .subst q;show PySem.F.args_dict_pop_3 _ _ _
 show call_meetsIn adI dd.typeIs PySem.F.entry_dict_pop L (meets_dict_pop_there (dm X.prog X.w) a (vM j) b hm r)
  #[w,c,dd,by rw[<-f.length];show z,n,λC g p=>h c _ ?_ m]
 let y:∃q,C.get? a=R q:=let#[q,_,_,J,_]:=g;#[q,J]
 show su I (by rw[e];show True.intro) p y (A5 (Wk (G0 Y k) z) B (f.drop k) g)
end
def Pw(i:WB):Prop:=∀a b,subscripted i Vq a b=operate [a,b] (getItem a b)
def En{T l:String}
  (n:typeLookup (.type T) "__getitem__"=pure (R (.builtin l))) (m:Pw slice)
  (h:wpAny (model prog w) A (eval value env) (λo d=>wpAny (model prog w) A (eval slice env) (λi c=>c.TypeIs o T/\wpAny (model prog w) A (getItem o i) Q E c) E d) E s):
  wpAny (model prog w) A (eval (.Subscript value slice pos) env) Q E s:=by
 show Subscript_ (wpAny_mono h (λo d g=>wpAny_mono g (λi c a=>?_) λ_ _ x=>x) λ_ _ x=>x);let(j,a):=a;ext subscriptTail;show Vf ?_;rw[getitemInPython_of_ne j.not_modules];show Vf (abm j n ?_);let e:wpAny (model prog w) A (subscripted slice Vq o i) (λr b=>wpAny (model prog w) A (letTemporaryGo value o r>>=λ_=>pure r) Q E b) E c:=by rw[m o i];show wpAny_operating (wpAny_mono a (λr b f=>Vf (wpAny_letTemporaryGo (Vt f))) λ_ _ x=>x)
 first
  |show Vt (Vf e)
  |show Vf (Vt (Vf e))
  |show Vf e
def Au(I:Inv X pins σ H s)(g:adB H a y o):s.TypeIs (.ref a) "dict":=by
 rcases g with⟨f,k,e,_,_⟩|⟨f,k,b,e,_,_,_⟩
 .let(_,_,h,_,dd):=An I.WT e;show dd.typeIs
 .let(_,_,xs,_,dd):=Al I.WT e;show dd.typeIs
def ON(f ty:TE):TE:=λb H Q=>f b H λx g=>ty b g λy e=>∃a v,x=.ref a/\adB e a y (R v)/\Q v e
def SI(ty f:TE):TE:=λb H Q=>ty b H λy g=>f b g λx e=>∃a o,x=.ref a/\adB e a y o/\Q (.bl o.isSome) e
def Ot(f ty e:TE):TS:=λD b H=>e b H λv i=>f b i λx h=>ty b h λy g=>∃a j,x=.ref a/\agk g a y v j/\D.nx b j
section
variable{X:Cx}{o i e Z:WB}{T Y am0:Pos}{U ty tv:TE}
def Cy(t:X.A.units+1<cLine)(z:PE X o U)(c:PE X i ty)(w:Pw i):PE X (.Subscript o i T) (ON U ty):=by intro b s j H Q I h;show En acL.lookup w (cR (z b s j H _ I h) λu m #[x,G,E,p,r]=>cR (c b m j G _ E r) λM L a=>?_);let(y,F,l,n,a,v,A,g,q):=a;subst A;obtain rfl:=p;show#[Au l g,Fm t l g n λJ K C f=>#[v,F,C,f,q]]
def Qe(r:X.A.units+1<cLine)(c:PE X i ty)(t:PE X o U):PC X .In i o (SI ty U):=by intro b s f H Q I h;show cR (c b s f H _ I h) λJ j #[y,E,A,l,p]=>cR (t b j f E _ A p) λu G a=>?_;let(x,C,z,m,a,q,v,g,n):=a;subst v;obtain rfl:=m;show Ue r z g l λF w=>#[.bl q.isSome,C,w,W,n]
def NJ(z:X.A.units+1<cLine)(C:PE X o U)(c:PE X i ty)(w:PE X Z tv)(B:Xm Z (lD (.Subscript o i Y)) T.line X.env=pure Vq):
  PS X (.Assign [.Subscript o i Y] Z T) (Ot U ty tv):=by
 intro b s f H D I h;show afY (cR (w b s f H _ I h) λr l #[v,N,K,rv,t]=>cR (C b l f N _ K t) λu j #[x,A,J,n,q]=>cR (c b j f A _ J q) λQ P a=>?_) B;let(y,S,G,m,a,L,E,g,p):=a;subst E;obtain rfl:=n;show FV z G g m rv λO F=>#[f,L,F,p]
end
def qH(c a:G (db×V)):G (db×V):=a.foldl (λb e=>jY b e.1 e.2) c
def KV.merge:∀{a:G (db×V)} {b:G (db×B)} {d:G (db×V)} {c:G (db×B)},KV a b->KV d c->KV (qH d a) (merged c b):=by
 intro a b d c r;unfold KV at r
 induction r generalizing d c with
 |nil=>intro q;show q
 | @cons p q j i h t g=>
  intro f;let e:KV (jY d p.1 p.2) (stored c q.1 q.2):=by let:=f.put p.1 h.2;rw[<-h.1];show this
  show g e
theorem nt:∀(a c:G (db×V)),(qH c a).length<=c.length+a.length
 |[],c=>by show c.length<=c.length+0;ext
 |p::r,c=>by let e:=nt r (jY c p.1 p.2);let b:=lV c p.1 p.2;show(qH (jY c p.1 p.2) r).length<=_;rw[VI];ext
structure M1(X:Cx)(o:WB)(m:Str)(apos:Pos)(e:WB)(YO:Pos):Prop where
 base:attributeBase o m X.env (eval o X.env)=eval o X.env
 few:((backTo YO (VT [e] X.env)).all (λx=> !x.1)&&(backToKw YO (keywordEach [] X.env)).all (λx=>x.1.isSome)
  &&decide (([e]:G WB).length+([]:G aa5).length+(if([]:G aa5).isEmpty then 0 else 1)<30))=P
 line:(apos.endLine==YO.line)=P
 trees:backTo YO (VT [e] X.env)=[(Vq,eval e X.env)]
structure M2(X:Cx)(o:WB)(m:Str)(apos:Pos)(e f:WB)(YO:Pos):Prop where
 base:attributeBase o m X.env (eval o X.env)=eval o X.env
 few:((backTo YO (VT [e,f] X.env)).all (λx=> !x.1)&&(backToKw YO (keywordEach [] X.env)).all (λx=>x.1.isSome)
  &&decide (([e,f]:G WB).length+([]:G aa5).length+(if([]:G aa5).isEmpty then 0 else 1)<30))=P
 line:(apos.endLine==YO.line)=P
 trees:backTo YO (VT [e,f] X.env)=[(Vq,eval e X.env),(Vq,eval f X.env)]
def UM(H:Hp)(a:I):Prop:=(∃b,Rd H a (.dK b))\/∃b,Rd H a (.dT b)
def QN(I:Inv X pins σ H s)(d:UM H a):
  s.TypeIs (.ref a) "dict"/\(∀b,Vh.ref a=.ref b->∃c,s.heap.get? b=R c/\c.dict=M)/\(a==XZ)=Vq:=by
 rcases d with⟨i,e⟩|⟨i,e⟩
 .let(_,f,j,_,dd):=An I.WT e;show#[dd.typeIs,λb q=>?_,f];ext q;let(c,_,_,h,g,_):=dd;show#[c,h,g.2.1]
 .let(_,f,xs,_,dd):=Al I.WT e;show#[dd.typeIs,λb q=>?_,f];ext q;let(c,_,_,h,g,_):=dd;show#[c,h,g.2.1]
def Ig(g ty:TE):TE:=λb H Q=>g b H λx f=>∃a,x=.ref a/\UM f a/\ty b f λy e=>∃h k v,e a=R (.dK h)/\y=kV k/\lc h k=R v/\Q v (bE e a (.dK (oZ h k)))
section
variable{X:Cx}{o e f:WB}{Z Y:Pos}{U ty T:TE}
def Hs(A:PE X o U)(B:PE X e ty)(m:M1 X o "pop" Z e Y):PE X (.Call (.Attribute o "pop" Z) [e] [] Y) (Ig U ty):=by intro b s i H Q I h;show wpAny_Call_method m.base m.few m.line ZZ adI PySem.F.type_dict_pop (cR (A b s i H _ I h) λu q a=>?_);let(x,L,j,t,a,E,d,z):=a;subst E;obtain rfl:=t;let(p,n,_):=QN j d;show#[p,n,?_];rw[m.trees];show Calls.callWith_builtin W (Calls.evalArgs_plain (Calls.spliced_cons (cR (B b q i L _ j z) λP O a=>?_)));let(y,F,K,r,S,k,v,G,C,l,w):=a;show Calls.spliced_nil ?_;subst C;show Th K G r l (.inl W) λM N J g=>#[v,_,J,g,w]
end
end L2
namespace L4
open PySem PySem.Spec PyProof.Rows L2 L3
def Fv(h:Heap)(e:I)(c:B)(d:br I)(a:B)(hd:br I):Prop:=
 ∃b fs,h.get? e=R b/\b.cls=c/\b.dict=d/\b.data=.fields fs/\fs[0]?=R a/\
  match hd with
  |none=>fs[1]?=R .none
  |some T=>fs[1]?=R (.ref T)/\T≠e/\∃g f,h.get? T=R g/\g.data=.fields f/\f[3]?=R .none
structure Lft(l:G Env)(e:I)(hd:br I)(h h':Heap):Prop where
 keep:∀b o,h.get? b=R o->b≠e->hd≠R b->b∉yy l->h'.get? b=R o
 slot:∀b o,h.get? b=R o->b≠e->hd≠R b->∃sl,h'.get? b=R {o with slots:=sl}
 here:∀b o,h.get? b=R o->∃o',h'.get? b=R o'
section
variable{M:adE}{A:V7}{E:Vh->Vp->Prop}{s:Vp}
def i6
  (I:A.frames=R (env::outer)) (B:s.heap.FunFrames base (env::outer)) (H:env.frame=R L) (C:s.heap.get? e=R U) (p:U.data=.fields fs) (m:1<fs.size) (J:fs[0]?=R a0)
  (k:∀D T,s.heap.objs.size<=T->Fv D e U.cls U.dict a0 (R T)->Lft (env::outer) e Vg s.heap D->Q ⟨⟩ {s with heap:=D}):
  wpAny M A (frameOf env>>=λfr=>entryPlaceOf L nx>>=λpl=>EntryCells.newEntry hv fr .none (rawInt L) .none pl>>=λb=>setField (.ref e) 1 b) (λ_ V=>wpAny M A (setFlight (.ref e) Vg) Q E V) E s:=by
 let j:e∉(env::outer).filterMap (·.frame):=λz=>by let(_,o,q,n):=B.mem z;rw[C]at q;ext q;show n fs p
 show Vf (aiO I B H λa S=>?_);show Vf (ahW λpl P=>?_);unfold EntryCells.newEntry newFields;show Vf (WN ?_ (P.sizeOk5 _ _ _ _ _));let y:=(S.2.1 e j).trans C;generalize X:({cls:=.type "traceback",dict:=Vg,data:=.fields ([hv,.ref L,.none,rawInt L,.none]++(if pl.isEmpty then Vw 6 Vh.none else pl)).toArray}:Obj)=N;let g:N.data=.fields ([hv,.ref L,.none,rawInt L,.none]++(if pl.isEmpty then Vw 6 Vh.none else pl)).toArray:=by rw[<-X]
 let K:=eh g;let w:=bP N y;show W5 w p m ?_;let l:=WL (cv y);let r:=d3 p (·.setIfInBounds 1 (Vh.ref a.objs.size));let i:=dt (Obj.mapFields (·.setIfInBounds 1 (Vh.ref a.objs.size))) w (eh r)
 let u:=
  (da (a.push N) (Obj.mapFields (·.setIfInBounds 1 (Vh.ref a.objs.size))) l.symm).trans (cx a K)
 ext setFlight;show Vf (Wf i r (x:=.ref a.objs.size) (by simp[m]) ?_);rw[ag (show(Vh.ref a.objs.size !=Vh.none)=Vi from by simp)];let t:3<([hv,.ref L,.none,rawInt L,.none]++(if pl.isEmpty then Vw 6 Vh.none else pl)).toArray.size:=by simp only[VJ,Vs,VI,Xb];ext
 show W5 u g t ?_;let v:=da ((a.push N).update e (Obj.mapFields (·.setIfInBounds 1 (Vh.ref a.objs.size)))) (Obj.mapFields (·.setIfInBounds 3 ((Vg:br Vm).elim Vh.none λf=>rawInt f))) l;let F:=dt (Obj.mapFields (·.setIfInBounds 3 ((Vg:br Vm).elim Vh.none λf=>rawInt f))) u (eh (d3 g _));let ZL:∀b o,b≠e->a.get? b=R o->(((a.push N).update e (Obj.mapFields (·.setIfInBounds 1 (Vh.ref a.objs.size)))).update a.objs.size (Obj.mapFields (·.setIfInBounds 3 ((Vg:br Vm).elim Vh.none λf=>rawInt f)))).get? b=R o:=λb o ne q=>by rw[da _ _ (WL (cv q)),da _ _ ne.symm];show bP N q
 show k _ a.objs.size (by rw[S.1];show Vy _) #[_,_,v.trans i,Obj.cls_mapFields _ _,?_,r,?_,?_,l,_,_,F,d3 g _,?_] #[λb o q ne _ G=>ZL b o ne ((S.2.1 b G).trans q),λb o q ne _=>?_,λb o q=>?_]
 .cases U with
  |mk c d O h=>ext O<;>rfl
 .rw[Zk ()];show J
 .simp[m]
 .rw[Xr t];rfl
 .let(h,z):=S.2.2 b o q;show#[h,ZL b _ ne z]
 .by_cases ne:b=e
  .subst ne;show#[_,v.trans i]
  .let(h,z):=S.2.2 b o q;show#[_,ZL b _ ne z]
def Fa
  (v:A.frames=R (env::outer)) (u:s.heap.FunFrames base (env::outer)) (h:env.frame=R L) (F:Fv s.heap e c U a0 hd)
  (k:∀x T,s.heap.objs.size<=T->Fv x e c U a0 (R T)->Lft (env::outer) e hd s.heap x->Q ⟨⟩ {s with heap:=x}):wpAny M A (leaving env (.ref e)) Q E s:=by
 let(N,fs,q,I,H,d,w,r):=F;subst I H;cases hd with
 |none=>let r:=r;unfold leaving noteFrame;simp only[h];show Vf (Vf (Wf q d r ?_));rw[av ()];show i6 v u h q d (V4.mp r).1 w k
 |some T=>
  let(r,C,O,B,g,dT,p):=r;unfold leaving noteFrame;simp only[h];show Vf (Vf (Wf q d r ?_));rw[ag (show(Vh.ref T !=Vh.none)=P from by simp)];show Vf (Wf g dT p ?_);rw[av (show¬((Vh.none==rawInt L)=P)from by simp[rawInt])];show Vf (W5 g dT (V4.mp p).1 ?_);let f:∀b,b≠T->(s.heap.update T (Obj.mapFields (·.setIfInBounds 3 Vh.none))).get? b=s.heap.get? b:=λb ne=>da _ _ ne.symm;let a:=dt (Obj.mapFields (·.setIfInBounds 3 Vh.none)) g (eh (d3 dT _));let m:∀b o,s.heap.get? b=R o->(∀S,o.data≠.fields S)->b≠T:=λb o z n y=>by rw[y,g]at z;ext z;show n B dT
  show i6 v (u.of_keeps λb o z n=>#[o,(f b (m b o z n)).trans z,W]) h ((f e C.symm).trans q) d (V4.mp r).1 w λx J t K i=>k x J (by rw[Heap.size_after_update]at t;show t) K #[λb o z l j G=>?_,λb o z l j=>?_,λb o z=>?_]
  .show i.keep b o ((f b λy=>j (by rw[y])).trans z) l (by simp) G
  .show i.slot b o ((f b λy=>j (by rw[y])).trans z) l (by simp)
  .by_cases y:b=T
   .subst y;show i.here b _ a
   .show i.here b o ((f b y).trans z)
end
theorem Lft.WT{P:VV}{w:Wh}{l:G Env}{e:I}{hd:br I}{H:Hp}{h d:Heap}(L:Lft l e hd h d)(m:HOk P w H h)(ne:H e=M)(i:∀T,hd=R T->H T=M)(j:∀b∈yy l,H b=M):HOk P w H d:=λb u q=>by
 let free:∀c v,H c=R v->c≠e/\hd≠R c/\c∉yy l:=λc v z=>#[(λy=>by rw[y,ne]at z;ext z),(λy=>by rw[i c y]at z;ext z),(λy=>by rw[j c y]at z;ext z)];show(m b u q).ZL (λc v n z=>?_) (λ_ z=>z) λ_ _ z=>z;rcases n with y|y
 .rw[y]at z⊢;let(g,f,a):=free b u q;show L.keep b v z g f a
 .let(g,f,a):=free c _ y;show L.keep c v z g f a
def gR(P:VV)(w:Wh):uP:=λa H s E x b=>
 ∃e c f a0 T H',x=.ref e/\s.heap.get? e=M/\s.heap.get? T=M/\Fv b.heap e c f a0 (R T)/\H' e=M/\H' T=M/\
  b.os=s.os/\AllBare b.gens/\Un (yy a) [] H H' s.heap b.heap/\HOk P w H' b.heap/\E c f H'
def IJ{P:VV}{w:Wh}{K:Ld}{k:Str->br Vh}{base:Heap}{N:bg Str}{i:Str}{a:YT}{f:Vm}{v:Vh}{A:V7}{outer:bg Env}{g:Vp}{G:Hp}{E:XK}
  {l:bg (Vm×Obj)} {J:L2.St} {H:Hp} {s:Vp} {e:Vm} {c C:Vh} {d hd:br Vm} (I:L2.Inv (eB (gR P w) P w K k base N i a f v A outer g G E) l J H s)
  (F:Fv s.heap e c d C hd) (u:g.heap.get? e=Vg) (S:∀T,hd=lD T->g.heap.get? T=Vg) (ne:H e=Vg) (Q:∀T,hd=lD T->H T=Vg) (q:E c d H):
  (eB (gR P w) P w K k base N i a f v A outer g G E).xe (.ref e) s:=by
 let Z:=I.ok.frames;let Y:=I.stack;show Fa (L:=g.heap.objs.size) Z Y W F λh' T t F' L=>?_;let R:=L.WT I.WT ne Q I.abH;let X:H T=Vg:=I.WT.fresh t;let p:∀b o,g.heap.get? b=lD o->b<g.heap.objs.size:=λb o z=>cv z;let h:∀b o,g.heap.get? b=lD o->b≠e/\hd≠lD b:=λb o z=>#[(λy=>by rw[y,u]at z;ext z),(λy=>by rw[S b y]at z;ext z)];let sz:=I.sz;show#[e,c,d,C,T,H,W,u,dP (Wk sz t),F',ne,X,I.os,I.bare,?_,R,q];let B:=I.base;show#[λb o z n r _=>?_,λb o z n U _=>?_,λb o z n _=>?_,λb o z _=>?_,B.abD,B.abc,B.abC]
 .let j:=B.keep b o z n r (λy=>nomatch y)
  show L.keep b o j (h b o z).1 (h b o z).2 λy=>?_;rcases VG.mp (I.abj b y)with y|y
  .let y:b=g.heap.objs.size:=y;show a6 (p b o z) (by rw[y];show WW _)
  .show r y
 .let(sl,j):=B.slot b o z n U (λy=>nomatch y);let(m,M):=L.slot b _ j (h b o z).1 (h b o z).2;show#[m,M]
 .show B.free b o z n (λy=>nomatch y)
 .let(O,j):=B.there b o z (λy=>nomatch y);show L.here b O j
def lX{P:VV}{w:Wh}{K:Ld}{d:Str->br Vh}{base:Heap}{N:G Str}{g:Str}{a:YT}{f:Vm}{l:Vh}{A:V7}{outer:G Env}{h:Vp}{p:Hp}{E:XK}:
  eR (gR P w) (eB (gR P w) P w K d base N g a f l A outer h p E) E:=by
 rintro j r H s x t I ⟨e,c,L,v,T,B,rfl,le,J,F,ne,C,os,bare,un,WT,q⟩;let n:=I.ad8 (ch:=[]) os un WT bare (λb z=>nomatch z);let old:∀b,s.heap.get? b=M->h.heap.get? b=M:=λb z=>by
  cases y:h.heap.get? b with
  |none=>rfl
  |some o=>let(u,i):=I.base.there b o y (λy=>nomatch y);rw[z]at i;ext i
 show IJ n F (old e le) (λm z=>by ext z;show old T J) ne (λm z=>by ext z;show C) q
def Ho(x:ObjOk b w H h a o):∃c,h.get? a=R c:=by
 cases o with
 |lst xs=>let(_,_,_,_,e):=x;show#[_,e]
 |tup xs=>let(_,_,_,c,e,_):=x;show#[c,e]
 |dK i=>let(_,_,_,_,o,_,_,e,_):=x;show#[o,e]
 |dT i=>let(_,_,_,_,o,_,_,e,_):=x;show#[o,e]
 |set S n=>let(o,_,_,_,e,_):=x;show#[o,e]
 |ins C m fs=>let(_,_,_,e,_):=x;show#[_,e]
 |own y=>show x
 |xd fs=>let(_,(o,_,_,e,_),_):=x;show#[o,e]
 |rng lo l=>let(_,_,_,e):=x;show#[_,e]
 |frz c u=>show#[c,x.1]
 |tbl j=>show#[_,x]
 |met f y=>show#[_,x]
 |ext g=>show x.2.1
 |exw g=>show x.2.1
def uF(k:HOk e w H h)(n:h.get? a=M):H a=M:=by
 cases q:H a with
 |none=>rfl
 |some o=>let(b,z):=Ho (k a o q);rw[n]at z;ext z
def Qf{K:Ld}{h:Heap}{C:I}{l:G Vh}{a:String}(X:K.In h)(q:X1 K C l a=P):∃d N nm s bs c sn sub Q col dd L J F D x k,
  h.get? C=R (excClassObj nm s C N bs d c sn sub Q col dd L J F D x a)/\h.Ns N k/\k "__init__"=M/\afZ h l d:=by
 unfold X1 at q;split at q
 .rename_i A r f e
  split at q
  .rename_i B z y w v u m t g E
   simp only[VZ,beq_iff_eq,af0]at q;let(((((p,o),j),n),b),i):=q;subst p o;ext r;dsimp only at g j b i;subst g j;obtain rfl:f= #v[y,w,v,u,R (.builtin m),t]:=by ext f;simp only at E;rw[E]
   show#[_,_,_,_,_,_,_,_,_,_,_,_,_,_,_,_,_,X _ _ e,.of_isNs (aet X b),PySem.W.nsMap_none_of_in X b i,aa8 X n]
  .ext q
 .ext q
def Kr(C:I)(E:XK)(b:TA):TS:=λ_ a H=>b a H λf e=>f.length<=VF/\E (.ref C) M e
def JD{K:Ld}
  (O:X1 K C bm nid=Vi) (S:Ys Bn nid inN bmN) (j:bm.contains (.type Bn)=Vi) (p:Ys Bz0 arc ini bm)
  (M:Gl (eB (gR Pz0 w) Pz0 w K mg base N qual scope f cd A outer s0 H0 E) x) (hm:mg x=lD (.ref C)) (c:PA (eB (gR Pz0 w) Pz0 w K mg base N qual scope f cd A outer s0 H0 E) (e0::es) ta)
  (i:(x==("__debug__":Str))=Vq:=by decide)
  (n:VT (e0::es) (eB (gR Pz0 w) Pz0 w K mg base N qual scope f cd A outer s0 H0 E).env=(Vq,eval e0 (eB (gR Pz0 w) Pz0 w K mg base N qual scope f cd A outer s0 H0 E).env)::VT es (eB (gR Pz0 w) Pz0 w K mg base N qual scope f cd A outer s0 H0 E).env:=by rfl)
  (g:(backTo YO (VT es (eB (gR Pz0 w) Pz0 w K mg base N qual scope f cd A outer s0 H0 E).env)).any (·.1)=Vq:=by rfl):
  PS (eB (gR Pz0 w) Pz0 w K mg base N qual scope f cd A outer s0 H0 E) (.Raise (lD (.Call (.Name x np) (e0::es) [] YO)) Vg pos) (Kr C E ta):=by
 intro b s u H D I h;let(X,Q,nm,F,bs,hdct,sn,sub,ab,col,dd,k0,k1,k2,k3,k5,Z,J,G,L,T):=Qf I.ok.mod.kin O;show wpAny_Raise_call_subU (nm:=nm) (q:=F) (N:=Q) (bs:=bs) (hdct:=hdct) (sn:=sn) (sub:=sub) (ab:=ab) (col:=col) (dd:=dd) (k0:=k0) (k1:=k1) (k2:=k2) (k3:=k3) (k5:=k5) S j p (T.hasType p.hasBase) (I.ok.hd W)
  (by rw[n];show(Zs _).trans g) L (iH I M hm #[W,?_] i)
 let go:=c YO b s u H _ I h;rw[n]at go⊢;show Calls.evalArgs_plain (cR go λU v a=>?_);let(vs,H1,a,r,q):=a;show#[W,by rw[<-r.length];show q.1,a.bk _ _ J,G.keeps a.bk,T.keeps a.bk,λh' l e=>?_];let(t,y,_,_):=e.there;let R:=a.kept (t':=v.toks) e.keeps;let old:s0.heap.get? l=Vg:=by
  cases z:s0.heap.get? l with
  |none=>rfl
  |some o=>let(Y,m):=a.base.there l o z (λy=>nomatch y);rw[e.new]at m;ext m
 show IJ (hd:=Vg) R #[_,_,y,W,W,W,W,W] old (λT z=>nomatch z) (uF a.WT e.new) (λT z=>nomatch z) q.2
section
variable{M:adE}{A:V7}{E:Vh->Vp->Prop}{s:Vp}
def DN{base:Heap}{env:Env}{outer:bg Env}{L e:Vm}{c B:Vh}{D hd:br Vm}{Q:Unit->Vp->Prop}
  (v:A.frames=R (env::outer)) (u:s.heap.FunFrames base (env::outer)) (h:env.frame=R L) (F:Fv s.heap e c D B hd)
  (k:∀x T,s.heap.objs.size<=T->Fv x e c D B (R T)->Lft (env::outer) e hd s.heap x->Q ⟨⟩ {s with heap:=x}):
  wpAny M A (noteFrame (.ref e) env) (λ_ s2=>wpAny M A (setFlight (.ref e) Vg) Q E s2) E s:=by
 let(O,fs,q,J,I,d,w,r):=F;subst J I;cases hd with
 |none=>let r:fs[1]?=R .none:=r;ext noteFrame;simp only[h];show Vf (Wf q d r ?_);rw[av ()];show i6 v u h q d (V4.mp r).1 w k
 |some T=>
  let(r,G,P,C,g,dT,p):=r;ext noteFrame;simp only[h];show Vf (Wf q d r ?_);rw[ag (show(Vh.ref T !=Vh.none)=Vi from by simp)];show Vf (Wf g dT p ?_);rw[av (show¬((Vh.none==rawInt L)=Vi)from by simp[rawInt])];show Vf (W5 g dT (V4.mp p).1 ?_);let f:∀b,b≠T->(s.heap.update T (Obj.mapFields (·.setIfInBounds 3 Vh.none))).get? b=s.heap.get? b:=λb ne=>da _ _ ne.symm;let a:=dt (Obj.mapFields (·.setIfInBounds 3 Vh.none)) g (eh (d3 dT _));let m:∀b o,s.heap.get? b=R o->(∀S,o.data≠.fields S)->b≠T:=λb o z n y=>by rw[y,g]at z;ext z;show n C dT
  show i6 v (u.of_keeps λb o z n=>#[o,(f b (m b o z n)).trans z,W]) h ((f e G.symm).trans q) d (V4.mp r).1 w λx K t N i=>k x K (by rw[Heap.size_after_update]at t;show t) N #[λb o z l j H=>?_,λb o z l j=>?_,λb o z=>?_]
  .show i.keep b o ((f b λy=>j (by rw[y])).trans z) l (by simp) H
  .show i.slot b o ((f b λy=>j (by rw[y])).trans z) l (by simp)
  .by_cases y:b=T
   .subst y;show i.here b _ a
   .show i.here b o ((f b y).trans z)
def IS{e T:I}{c j:B}{y:br I}{Q:Unit->Vp->Prop}(F:Fv s.heap e c y j (R T))
  (k:∀x,Fv x e c y j (R T)->(∀b,b≠T->x.get? b=s.heap.get? b)->(∃o,x.get? T=R o)->Q ⟨⟩ {s with heap:=x}):wpAny M A (setFlight (.ref e) Vg) Q E s:=by
 let(n,fs,q,t,p,d,u,r,i,w,v,h,dT,m):=F;ext setFlight;show Vf (Wf q d r ?_);rw[ag (show(Vh.ref T !=Vh.none)=P from by simp)];let g:=(V4.mp m).1;show W5 h dT g ?_;let l:∀b,b≠T->(s.heap.update T (Obj.mapFields (·.setIfInBounds 3 ((Vg:br I).elim Vh.none λf=>rawInt f)))).get? b=s.heap.get? b:=λb ne=>da _ _ ne.symm;let a:=dt (Obj.mapFields (·.setIfInBounds 3 ((Vg:br I).elim Vh.none λf=>rawInt f))) h (eh (d3 dT _));show k _ #[n,fs,(l e i.symm).trans q,t,p,d,u,r,i,_,_,a,d3 dT _,?_] l #[_,a];rw[Xr g];rfl
end
section
variable{P:VV}{w:Wh}{K:Ld}{mg:Str->br Vh}{base:Heap}{N:bg Str}{qual:Str}{scope:YT}{f:Vm}{cd:Vh}{A:V7}{outer:bg Env}{s0:Vp}{H0:Hp}{E:XK}{CX:uP}
  {σ:L2.St} {H:Hp} {s:Vp} {h':Heap} {X:Cx}
def lO(I:L2.Inv X [] σ H s)(S:Vm->Prop)(J:X.ex=[])(C:∀p∈X.pn,¬S p.1)(keep:∀b o,s.heap.get? b=lD o->¬S b->b∉yy X.stack->h'.get? b=lD o)
  (slot:∀b o,s.heap.get? b=lD o->¬S b->∃d,h'.get? b=lD {o with slots:=d}) (j:∀b o,s.heap.get? b=lD o->∃k,h'.get? b=lD k)
  (U:∀b,S b->X.s₀.heap.get? b=Vg) (Q:¬S X.env.locals) (T:∀x c,X.env.cells.lookup x=lD c->¬S c) (R:∀b,S b->H b=Vg):L2.Inv X [] σ H {s with heap:=h'}:=by
 let M:∀b o,X.s₀.heap.get? b=lD o->¬S b:=λb o z y=>by rw[U b y]at z;ext z
 let h:∀b,b∉X.ex:=λb z=>by rw[J]at z;ext z
 let B:=I.base;let a:∀x c,X.env.cells.lookup x=lD c->∀v,s.heap.IsCell c v->h'.IsCell c v:=λx c z v #[o,G,L]=>by let(d,q):=slot c o G (T x c z);show#[_,q,L]
 show#[I.ok,I.os,I.bare,#[λb o z n g _=>?_,λb o z n Z _=>?_,λb o z n x=>B.free b o z n x,λb o z x=>?_,B.abD,B.abc,B.abC],?_,λx c z=>?_,I.free,I.Y4,λp F=>?_,λb u q=>?_,I.len]
 .let e:=B.keep b o z n g (h b)
  show keep b o e (M b o z) λy=>?_;rcases VG.mp (I.abj b y)with y|y
  .rw[y]at z;show a6 (cv z) (Nat.not_lt_of_le I.ok.above)
  .show g y
 .let(d,e):=B.slot b o z n Z (h b);let(t,O):=slot b _ e (M b o z);show#[t,O]
 .let(k,e):=B.there b o z x;show j b k e
 .let(m,hn,Y):=I.loc
  let(o,es,ep,G,L,r):=hn;let(d,q):=slot _ o G Q;show#[m,#[_,es,ep,q,L,r],λi x v a1 a2 a3=>?_];let(u,rv,l):=Y i x v a1 a2 a3;show#[u,rv,?_];rcases l with l|⟨kd,c,z,y⟩
  .show .inl l
  .show .inr #[kd,c,z,a x c z _ y]
 .let(v,y):=I.cell x c z;show#[v,a x c z v y]
 .let(z,n,ne,g,dd):=I.pin p F
  rw[V2]at F;show#[keep p.1 p.2 z (C p F) (λy=>?_),n,ne,g,dd];rcases VG.mp (I.abj _ y)with y|y
  .show ne y
  .show g y
 .let free:∀c v,H c=lD v->¬S c/\c∉yy X.stack:=λc v z=>#[(λy=>by rw[R c y]at z;ext z),(λy=>by rw[I.abH c y]at z;ext z)]
  show(I.WT b u q).ZL (λc v hc z=>?_) (λ_ z=>z) λ_ _ z=>z;rcases hc with y|y
  .rw[y]at z⊢;show keep b v z (free b u q).1 (free b u q).2
  .show keep c v z (free c _ y).1 (free c _ y).2
end
section
variable{M:adE}{A:V7}{E:Vh->Vp->Prop}{h:Heap}{g:Array aaR}{d:afK}{t:Nat}{os:aej}
def yS{C U e:Vm}{j:Obj}{z w y v:Str}{D x:Vm}{b1 l s a:bg Vh}{Z Y:Bool}{u r:bg Str}{q p:bg Vh}{a1 a2:Bool}{k c:br Bool}{o n:br Vm}{O N L K J I H G F B:br Vh}{f b:String}{Q:Bool->Vp->Prop}
  (X:h.get? C=lD (excClassObj z w C D b1 l Z u q a1 k o O N L K J f)) (m:h.get? U=lD (excClassObj y v U x s a Y r p a2 c n I H G F B b)) (R:h.get? e=lD j) (S:j.cls=.ref C)
  (T:a.contains (.type "BaseException")=Vi) (hm:(Vh.ref C::l).contains (.ref U)=Vi) (P:Q Vi #[h,g,d,t,os]):wpAny M A (excMatches (.ref e) (.ref U)) Q E #[h,g,d,t,os]:=by
 let i:(Vh.ref U::a).contains (.type "BaseException")=Vi:=by rw[Xd,T,YI]
 let ft:=tc_notTuple;ext excMatches
 repeat (first|(specialize XF R ?_;rw[S])|specialize XF m ?_|(specialize Y2 m ?_;rw[i])|(specialize Y2 X ?_;rw[hm])|wp_step)
 show P
end
abbrev Cx.marked(X:Cx)(e:I):Cx:={X with A:=X.A.mark (R (.ref e)),calm:=Vq,xe:=λ_ _=>False}
section
variable{X:Cx}{Z:L2.St}{H:Hp}{s:Vp}{Y:Heap}{e:Vm}
theorem ku(I:L2.Inv X [] Z H s)(e:Vm):L2.Inv (Cx.marked X e) [] Z H s:=
 #[#[I.ok.mod,I.ok.kind,I.ok.glob,I.ok.blt,I.ok.above,I.ok.inj,I.ok.has,I.ok.cab,(λz=>nomatch z),I.ok.frames,I.ok.stk,I.ok.exf,I.ok.bs,I.ok.bsz,I.ok.adX,I.ok.aef,I.ok.abh,I.ok.frf],I.os,I.bare,I.base,I.loc,I.cell,I.free,I.Y4,I.pin,I.WT,I.len]
theorem tV(ok:X.Ok)(I:L2.Inv (Cx.marked X e) [] Z H s):L2.Inv X [] Z H s:=
 #[ok,I.os,I.bare,I.base,I.loc,I.cell,I.free,I.Y4,I.pin,I.WT,I.len]
def F8(I:L2.Inv X [] Z H s){g:Obj}(h:∀p∈X.pn,p.1≠e)(q:s.heap.get? e=R g)(ne:H e=M)(t:X.s₀.heap.get? e=M)(l:e≠X.env.locals)(m:∀x c,X.env.cells.lookup x=R c->c≠e):L2.Inv X [] Z (bE H e (.frz g (.own e))) s:=by
 let j:∀b o,X.s₀.heap.get? b=R o->b≠e:=λb o z y=>by rw[y,t]at z;ext z
 let a:∀b o,H b=R o->b≠e:=λb o z y=>by rw[y,ne]at z;ext z
 let B:=I.base;show#[I.ok,I.os,I.bare,#[B.keep,B.slot,λb o z n x=>?_,B.there,λb xs z=>?_,λb o u z=>?_,λb v z=>?_],I.loc,I.cell,?_,λx c z=>?_,λp i=>?_,λb u z=>?_,I.len]
 .rw[aG (j b o z)];show B.free b o z n x
 .let:=B.abD b xs z;rw[aG (a b _ this)];show this
 .let:=B.abc b o u z;rw[aG (a b _ this)];show this
 .let(f,y):=B.abC b v z;show#[f,by rw[aG (a b _ y)];show y]
 .rw[aG l.symm];show I.free
 .rw[aG (m x c z)];show I.Y4 x c z
 .let(z,n,r):=I.pin p i;rw[V2]at i;show#[z,by rw[aG (h p i)];show n,r]
 .by_cases y:b=e
  .subst y;rw[aJ]at z;ext z;show#[q,g,q]
  .rw[aG y]at z;show(I.WT b u z).ZL (λ_ _ _ y=>y) (λc y=>by rw[aG (a c _ y)];show y) λc xs y=>by rw[aG (a c _ y)];show y
def Fs{M:adE}{A:V7}{E:Vh->Vp->Prop}(I:L2.Inv X [] Z H s){n:Str}{i:Nat}{pos:Pos}{Q:Unit->Vp->Prop}(D:X.N.Nodup)(l:X.N[i]?=R n)(d:X.env.kindOf n=R .local)
  (k:∀h,L2.Inv X [] (Z.set i Vg) H h->Q ⟨⟩ h):wpAny M A (do bindName X.env n .none;unbindBehindTheSuite X.env n pos) Q E s:=by
 let(m,hn,hl):=id I.loc;let g:(X.env.scope.kind==.class||(X.env.scope.kind==.module&&X.env.locals !=X.env.globals))=Vq:=by rw[I.ok.kind];rfl
 show wpAny_nameGoes_keeps d hn g λh2 v hm S=>k _ ?_;let B:=I.base;let cne:=I.cne;let old:∀b o,X.s₀.heap.get? b=R o->h2.get? b=s.heap.get? b:=λb o z=>S.2 b (VW (VS (cv z) I.ok.above));let f:i<Z.length:=by rw[I.len];show(Vk.mp l).1
 show#[I.ok,I.os,I.bare,#[λb o z n T x=>(old b o z).trans (B.keep b o z n T x),λb o z n hf x=>?_,B.free,λb o z x=>?_,B.abD,B.abc,B.abC],#[_,hm,λj y t a1 a2 a3=>?_],λy c z=>?_,I.free,I.Y4,λp U=>?_,λb u z=>?_,by rw[WU];show I.len]
 .let(J,y):=B.slot b o z n hf x;show#[J,(old b o z).trans y]
 .let(N,y):=B.there b o z x;show#[N,(old b o z).trans y]
 .by_cases hj:j=i
  .subst hj;rw[W4 f]at a2;ext a2
  .rw[Wm (ej hj)]at a2
   let(C,L,q):=hl j y t a1 a2 a3;show#[C,L,?_];rcases q with⟨kd,z⟩|⟨kd,c,z,w⟩
   .show .inl #[kd,?_];let:y≠n:=λz=>hj (sR D a1 (z▸l));simp[this,z]
   .show .inr #[kd,c,z,w.sameBut S (cne y c z)]
 .let(w,a):=I.cell y c z;show#[w,a.sameBut S (cne y c z)]
 .let(z,n,ne,r):=I.pin p U;show#[(S.2 p.1 ne).trans z,n,ne,r]
 .let free:∀c u,H c=R u->c≠X.env.locals:=λc u z y=>by rw[y,I.free]at z;ext z
  show(I.WT b u z).ZL (λc w hc y=>(S.2 c ?_).trans y) (λ_ y=>y) λ_ _ y=>y;rcases hc with a|a
  .rw[a];show free b u z
  .show free c _ a
end
def jW(K:Ld)(C:I)(m:G B):Prop:=∃nm q N bs hd sn sub h col dd g f e b a id,K.lookup C=R (excClassObj nm q C N bs m hd sn sub h col dd g f e b a id)
structure Apart(X:Cx)(a:I):Prop where
 n0:X.s₀.heap.get? a=M
 nL:a≠X.env.locals
 nC:∀y c,X.env.cells.lookup y=R c->c≠a
 nP:∀p∈X.pn,p.1≠a
def AX(X:Cx)(d:XK):B->Vp->Prop:=λx a=>∃b H1 e c f a0 T,x=.ref e/\L2.Inv X [] b H1 a/\Fv a.heap e c f a0 (R T)/\Apart X e/\Apart X T/\H1 e=M/\H1 T=M/\d c f H1
def pG(I:L2.Inv X pins σ H s)(e:X.ex=[])(n:s.heap.get? a=M):Apart X a:=by
 let ne:∀b o,s.heap.get? b=R o->b≠a:=λb o z y=>by rw[y,n]at z;ext z
 show#[?_,?_,λy c z=>?_,λp h=>?_]
 .cases z:X.s₀.heap.get? a with
  |none=>rfl
  |some o=>let(g,y):=I.base.there a o z (by rw[e];simp);show a6 W (ne a g y)
 .let(m,(o,_,_,z,_),_):=I.loc;show(ne _ o z).symm
 .let(v,o,f,_):=I.cell y c z;show ne c o f
 .show ne _ _ (I.pin p (Xf _ h)).1
def iZ{X:Cx}(a:X.ex=[]):eR (gR X.prog X.w) (X.aan (AX X C)) C:=by rintro g h H s x m I ⟨e,c,r,i,T,l,rfl,le,o,F,ne,n,os,bare,un,WT,q⟩;let f:=I.Zl;let j:=f.ad8 os un WT bare (λb z=>nomatch z);show#[h,l,e,c,r,i,T,W,j.adD (λp z=>nomatch z),F,pG f a le,pG f a o,ne,n,q]
def JG(d:XK)(i:Nat)(j h:TS):TS:=λD g H=>j D g H/\∀c m H1,d c m H1->∀(a:L2.St) (e:I) (b:Obj),a.length=g.length->H1 e=M->b.cls=c->b.dict=m->acw b=P->
 h {nx:=λf l=>D.nx (f.set i M) l,rt:=λ_ _=>False} (a.set i (R (.ref e))) (bE H1 e (.frz b (.own e)))
abbrev Cx.pinned(X:Cx)(l:G (I×Obj)):Cx:={X with pn:=l}
theorem Cu(I:L2.Inv X pins σ H s):L2.Inv (Cx.pinned X (X.pn++pins)) [] σ H s:=
 #[#[I.ok.mod,I.ok.kind,I.ok.glob,I.ok.blt,I.ok.above,I.ok.inj,I.ok.has,I.ok.cab,I.ok.hd,I.ok.frames,I.ok.stk,I.ok.exf,I.ok.bs,I.ok.bsz,I.ok.adX,I.ok.aef,I.ok.abh,I.ok.frf],I.os,I.bare,I.base,I.loc,I.cell,I.free,I.Y4,(λp a=>I.pin p (by rw[V2]at a;show a)),I.WT,I.len]
theorem eG(ok:X.Ok)(I:L2.Inv (Cx.pinned X (X.pn++pins)) [] σ H s):L2.Inv X pins σ H s:=
 #[ok,I.os,I.bare,I.base,I.loc,I.cell,I.free,I.Y4,(λp a=>I.pin p (by rw[V2];show a)),I.WT,I.len]
def xC
  (hex:X.ex=[]) (hN:X.N.Nodup) (dI:X.stack=X.env::X.outer) (hfr:X.env.frame=R X.env.locals) (hg:Gl X x) (hm:X.mg x=R (.ref U)) (hU:jW X.K U mU) (hbU:mU.contains (.type "BaseException")=P)
  (hi:X.N[i]?=R n) (d:X.env.kindOf n=R .local) (hb:∀l,PSs ((Cx.pinned X l).aan (AX (Cx.pinned X l) E2)) body tb) (hs:∀l e,PSs (Cx.marked (Cx.pinned X l) e) (b0::afc) ts)
  (hE:∀c V H,E2 c V H->∃C m,c=.ref C/\jW X.K C m/\(Vh.ref C::m).contains (.ref U)=P) (hdb:(x==("__debug__":Str))=Vq:=by decide):
  PS X (.Try body [.ExceptHandler (R (.Name x np)) (R n) (b0::afc) ajY] [] [] pos) (JG E2 i tb ts):=by
 intro pins s σ H D I #[h,hc];let IY:=Cu I;let N:=hex;show aju (wpAny_mono (hb (X.pn++pins) [] s σ H D (IY.aan _) h) (λf s1 hf=>?_) (λv s1 hx=>?_))
 .let hf:=SP.Zl hf
  cases f with
  |next=>let(a,H1,g,A):=hf;show Za #[a,H1,eG I.ok g,A]
  |brk=>let(a,H1,g,A):=hf;show#[a,H1,eG I.ok g,A]
  |cont=>let(a,H1,g,A):=hf;show#[a,H1,eG I.ok g,A]
  |ret u=>let(v,a,H1,g,r,A):=hf;show#[v,a,H1,eG I.ok g,r,A]
 .let(a,H1,e,c,V,a0,T,rfl,g,F,E,Y,ne,nT,q):=hx
  let(C,mC,hcC,(n1,A,N1,b1,d1,t1,u1,a1,l1,x1,i0,i1,i2,i3,i5,id1,kC),hup):=hE c V H1 q;let(n2,q2,N2,b2,d2,t2,u2,a2,l2,x2,j0,j1,j2,j3,j5,id2,kU):=hU;let fr:X.A.frames=R (X.env::X.outer):=by rw[<-dI];show I.ok.frames
  let ff:s1.heap.FunFrames X.base (X.env::X.outer):=by rw[<-dI];show g.stack
  show DN fr ff hfr F λh2 T2 z2 F2 Q=>?_
  let I2:=lO g (λb=>b=e\/b=T) N (λp S y=>y.elim (E.nP p S) (Y.nP p S))
   (λb o z j nf=>Q.keep b o z (λy=>j (.inl y)) (λy=>j (.inr (VR y).symm)) (by rw[<-dI];show nf))
   (λb o z j=>Q.slot b o z (λy=>j (.inl y)) (λy=>j (.inr (VR y).symm))) Q.here
   (λb y=>y.elim (λy=>by rw[y];show E.n0) (λy=>by rw[y];show Y.n0)) (λy=>y.elim (λy=>E.nL y.symm) (λy=>Y.nL y.symm))
   (λy k z w=>w.elim (E.nC y k z) (Y.nC y k z)) (λb y=>y.elim (λy=>by rw[y];show ne) (λy=>by rw[y];show nT))
  let t:=pG g N (dP z2);let nT2:=g.WT.fresh z2;show ahs (agK (iH (ku I2 e) hg hm ?_ hdb)) (by nofun);let F2':=F2;let(ob,fs,qe,cE,dE,dF,_):=F2';show yS (I2.kIn _ _ kC) (I2.kIn _ _ kU) qe (cE.trans hcC) hbU hup ?_;show codeAny_handlers_suite_as (IS F2 λh3 F3 Y8 hT3=>?_);let neT:e≠T2:=λy=>by let(_,_,_,_,_,_,_,_,w,_):=F2;show w y.symm
  let I3:=lO I2 (λb=>b=T2) N (λp S y=>t.nP p S y)
   (λb o z j _=>(Y8 b j).trans z) (λb o z j=>#[o.slots,(Y8 b j).trans z])
   (λb o z=>(Classical.em (b=T2)).elim (λy=>by rw[y];show hT3) (λy=>#[o,(Y8 b y).trans z])) (λb y=>by rw[y];show t.n0) (λy=>t.nL y.symm) (λy k z w=>t.nC y k z w) (λb y=>by rw[y];show nT2)
  let I4:=F8 I3 E.nP ((Y8 e neT).trans qe) ne E.n0 E.nL E.nC;show oU (X:=Cx.marked (Cx.pinned X (X.pn++pins)) e) (ku I4 e) hN hi (.inl d) (v:=.ref e) W (λs4 I5=>?_) (.inr d);let w:=hc c V H1 q a e ob (g.len.trans I.len.symm) ne cE dE (by ext acw;rw[dF]);show wpAny_mono (hs (X.pn++pins) e [] s4 _ _ _ I5 w) (λf s5 hf=>?_) (λy s5 z=>z.elim);cases f with
  |next=>let(J,H2,I6,L):=hf;show Fs (tV IY.ok I6) hN hi d λs6 I7=>#[_,_,eG I.ok I7,L]
  |brk=>let(J,H2,I6,L):=hf;show L.elim
  |cont=>let(J,H2,I6,L):=hf;show L.elim
  |ret u=>let(v,J,H2,I6,r,L):=hf;show L.elim
end L4
namespace L4
open PySem PySem.Spec PySem.W PyProof.Rows L2 L3
section
variable{U:VV}{w:Wh}{A:V7}{E:Vh->Vp->Prop}{h:Heap}{g:Array aaR}{d:afK}{t:Nat}{T:aej}{a C:Vm}{o:Obj}{K:Ld}
  {S N:Str} {J:Vm} {b1 Z:bg Vh} {d1:Bool} {s1:bg Str} {u1:bg Vh} {a1:Bool} {c1:br Bool} {x1:br Vm} {i0 i1 i2 i3 i5:br Vh} {Y:String}
def ur{M:adE}{b:B}{Q:Unit->Vp->Prop}(j:h.get? C=R (excClassObj S N C J b1 Z d1 s1 u1 a1 c1 x1 i0 i1 i2 i3 i5 Y))(i:Z.contains (.type "BaseException")=P)
  (e:h.get? a=R o) (f:o.cls=.ref C) (k:Q ⟨⟩ #[h,g,d,t,T]):wpAny M A (checkBuiltinCall "BaseException.__getattribute__" #[[.ref a,b],[]]) Q E #[h,g,d,t,T]:=by
 let n:builtinKind "BaseException.__getattribute__"=R .slot:=by left
 let m:splitId "BaseException.__getattribute__"=R ("BaseException","__getattribute__"):=by left
 let l:(Vh.ref C::Z).contains (.type "BaseException")=P:=by rw[Xd,i,YI]
 let p:=F.args_bexc_ga (.ref a) b;simp only[checkBuiltinCall,n,m];show Vf ?_;ext isInstance
 repeat (first|(specialize XF e ?_;rw[f])|(specialize Y2 j ?_;rw[l])|wp_step)
 show k
def BJ(X:K.In h)(I:Yq h a o C od)(b:findIn K (.ref C) "__class__"=R (R (.builtin "object.__class__")))(hm:mroIn K C (.type "object")=R P)
  (k:Q (.done (.ret (.ref C))) #[h,g,d,t,T]):wpAny (model U w) A (Builtin.«object.__getattribute__» #[[.ref a,.str "__class__" tk],[]]) Q E #[h,g,d,t,T]:=by
 let m:=F.typeOf_object_class;let l:=F.typeOf_object_class;let j:=F.slot_gs_get.lookup;let i:=F.slot_gs_set.lookup;let f:=I.type (M:=model U w);let e:=looks_findIn (M:=model U w) X b
 repeat (any_goals (first|assumption|specialize f.at ?_|specialize e.at ?_|wp_step))
 show class_get X I hm ?_
 repeat (any_goals (first|assumption|wp_step))
def F6(X:K.In h)(I:Yq h a o C od)(l:h.get? C=R (excClassObj S N C J b1 Z d1 s1 u1 a1 c1 x1 i0 i1 i2 i3 i5 Y))(j:Z.contains (.type "BaseException")=P)
  (i:findIn K (.ref C) "__getattribute__"=R (R (.builtin "BaseException.__getattribute__"))) (f:findIn K (.ref C) "__getattr__"=R Vg) (e:findIn K (.ref C) "__class__"=R (R (.builtin "object.__class__"))) (hm:mroIn K C (.type "object")=R P)
  (k:Q (R (.ref C)) #[h,g,d,t+1,T]):wpAny (model U w) A (getAttr? (.ref a) "__class__") Q E #[h,g,d,t,T]:=by
 let r:=Yo.ga.bind (.ref a);let b:(Vh.builtin "BaseException.__getattribute__"==Vh.builtin "object.__getattribute__")=Vq:=by left
 let q:(onTheHeap (Vh.ref C)&&Vh.builtin "BaseException.__getattribute__"==Vh.builtin "object.__getattribute__")=Vq:=by rw[b];rfl
 let p:=I.type (M:=model U w);let n:=looks_findIn (M:=model U w) X i;let m:=looks_findIn (M:=model U w) X f;unfold getAttr? getAttrBy? getAttrBy
 repeat (any_goals (first|assumption|specialize p.at ?_|specialize n.at ?_|specialize m.at ?_|wp_step))
 show Yc Yo.ga.plain F.entry_bexc_ga (ur l j I.at_ I.cls (BJ X I e hm ?_))
 repeat (any_goals (first|assumption|wp_step))
structure ZT(K:Ld)(C:I)(m:G B):Prop where
 cl:jW K C m
 be:m.contains (.type "BaseException")=P
 ga:findIn K (.ref C) "__getattribute__"=R (R (.builtin "BaseException.__getattribute__"))
 gt:findIn K (.ref C) "__getattr__"=R M
 cs:findIn K (.ref C) "__class__"=R (R (.builtin "object.__class__"))
 ob:mroIn K C (.type "object")=R P
theorem Ab(L:ZT K C m):KitX K (.ref a) (.ref C) (λh=>Yq h a o C od) where
 ty:=λ_ _ _ I=>I.type
 it:=λ_ _ X _=>by let(_,_,_,_,_,_,_,_,_,_,_,_,_,_,_,_,b):=L.cl;intro y u v j k q;unfold isType loadHead;show Vf (aep (k _ _ (X _ _ b)) (Vt q))
 ne:=λh tp dd r n i X e=>by let(_,_,_,_,_,_,_,_,_,_,_,_,_,_,_,_,b):=L.cl;show af1.mpr λq=>?_;obtain rfl:=Vh.ref.inj (beq_iff_eq.mp q);let z:=eH Obj.cls (VR ((X _ _ b).symm.trans e));show a6 (Vh.type.inj z) ()
 ca:=λ{_ _ _ _ _ s} X I k=>by let(_,_,_,_,_,_,_,_,_,_,_,_,_,_,_,_,b):=L.cl;let(p,gg,dd,f,l):=s;show F6 X I (X _ _ b) L.be L.ga L.gt L.cs L.ob k
end
def Pp(K:Ld)(c:B):V->Hp->VK->Prop:=λx H Q=>∃e a C m b,x=.ref e/\H e=R (.frz a (.own e))/\a.cls=.ref C/\(∀p,a.dict=R p->∃fs,H p=R (.xd fs))/\notCls a=P/\ZT K C m/\kitOne K (.ref C) c=R b/\Q (.bl b) H
def Ik(I:L2.Inv X pins σ H s)(j:RelV x u)(h:Pp X.K c x H Q):
  wpAny (model X.prog X.w) A (call (.builtin "isinstance") [u,c]) (EP X pins σ Q) E s:=by
 let(e,n,C,m,b,rfl,r,g,t,w,L,f,q):=h;obtain rfl:=j;let z:=(I.WT e _ r).1;cases v:n.dict with
 |none=>show kia_one (Ab (od:=M) L) I.kIn #[z,g,w,by rw[v];trivial] f (λy=>nomatch y) λa=>#[.bl b,H,I.tok a,W,q]
 |some p=>let(fs,o):=t p v;let(l,i):=Ho (I.WT p _ o);show kia_one (Ab (od:=R l) L) I.kIn #[z,g,w,by rw[v];show i] f (λy=>nomatch y) λa=>#[.bl b,H,I.tok a,W,q]
end L4
namespace L4
open PySem PySem.SeqAt PySem.Spec PySem.W PyProof.Rows L2 L3
theorem oV:∀{bs:G Bool} {a:G B},Vals (bs.map V.bl) a->a=bs.map Vh.bool
 |[],_,.nil=>rfl
 |b::r,_,.cons h t=>by let h:=h;rw[h,oV t];rfl
def N5(k:Bool){bs:G Bool}(h:y∈bs.map Vh.bool)(A:V7)(s:Vp):EqAt A s y (.bool k) (isBoolOf k y):=by let(b,_,rfl):=VX.mp h;show EqAt.bool_bool b k
def HR(k:Bool)(bs:G Bool):(bs.map Vh.bool).countP (isBoolOf k)=bs.count k:=by rw[List.countP_map];rfl
section
variable{X:Cx}
def Tk:V->G V->Hp->VK->Prop:=λx xs H Q=>∃(l:I) (bs:G Bool) (k:Bool),x=.ref l/\H l=R (.lst (bs.map V.bl))/\xs=[.bl k]/\Q (.int (bs.count k:Nat)) H
def E3:Sb X "list.count" Tk:=by rintro b s i H x xs v f Q I g a ⟨l,bs,k,rfl,m,rfl,q⟩;obtain rfl:=g;obtain rfl:f=[.bool k]:=oV (bs:=[k]) a;let(z,j,n,r,e):=(show ObjOk X.prog X.w H s.heap l (.lst (bs.map V.bl))from I.WT l _ m);obtain rfl:=oV r;show Zi ac1 #[_,e,W] PySem.F.entry_list_count (PySem.F.args_list_count_2 _ _) (list_countAt l (bs.map Vh.bool).toArray n M #v[] (.bool k) (isBoolOf k)) #[e,λy h=>N5 k (by simpa using h) _ _,?_];rw[show(bs.map Vh.bool).toArray.toList=bs.map Vh.bool from rfl,HR];show#[.int (bs.count k:Nat),H,I.tok _,#[_,W],q]
def Su:V->G V->Hp->VK->Prop:=λx xs H Q=>∃(l:I) (bs:G Bool) (k:Bool) (j:Nat),x=.ref l/\H l=R (.lst (bs.map V.bl))/\xs=[.bl k]/\bs[j]?=R k/\(∀m,m<j->bs[m]?≠R k)/\j<1000/\Q (.int (j:Nat)) H
def EI:Sb X "list.index" Su:=by
 rintro e s t H x xs v g Q I h a ⟨l,bs,k,j,rfl,A,rfl,C,w,E,q⟩;obtain rfl:=h;obtain rfl:g=[.bool k]:=oV (bs:=[k]) a;let(z,u,n,r,f):=(show ObjOk X.prog X.w H s.heap l (.lst (bs.map V.bl))from I.WT l _ A);obtain rfl:=oV r;let(i,o):=Vk.mp C;show Zi ac2 #[_,f,W] PySem.F.entry_list_index (PySem.F.args_list_index_2 _ _) (list_indexAt l (bs.map Vh.bool).toArray n M #v[] (.bool k) (isBoolOf k) j (by simpa using i) () ?_ λm hm lt=>?_) #[f,λy p=>N5 k (by simpa using p) _ _,?_]
 .simp[isBoolOf,o]
 .let b:m<bs.length:=by simpa using hm
  let:=w m lt;rw[Vv b]at this;simp only[List.getElem_toArray,acj,isBoolOf];show beq_eq_false_iff_ne.mpr λz=>this (by rw[z])
 .show#[.int (j:Nat),H,I.tok _,#[_,W],q]
end
end L4
namespace L4
open PySem PySem.Spec PySem.W PyProof.Rows L2 L3
def JA(K:Ld):G V->Hp->VK->Prop:=λxs H Q=>∃x,(∃U:I,xs=[x,.ref U]/\Pp K (.ref U) x H Q)\/∃n,xs=[x,.ty n]/\Pp K (.type n) x H Q
def eF:YG X (.builtin "isinstance") (JA X.K):=by
 rintro e s g H xs i Q I r ⟨x,h⟩;rcases h with⟨U,rfl,h⟩|⟨n,rfl,h⟩
 .let(u,f,rfl,a,b):=yD r;obtain rfl:=b;show Ik I a h
 .let(u,f,rfl,a,b):=yD r;obtain rfl:=b;show Ik I a h
end L4
namespace L3
open PySem PySem.Spec PyProof.Rows L2
section
variable{K:Ld}{E:XK}
end
end L3
namespace L9
open PySem PySem.Spec PyProof.Rows
section
variable{M:adE}{A:V7}{E:Vh->Vp->Prop}{Y:Env}
variable{nm q:Str}{C N:Vm}{bs Z:bg Vh}{hdct:Bool}{sn:bg Str}{sub:bg Vh}{ab:Bool}{col:br Bool}{dd:br Vm}{k0 k1 k2 k3 k5:br Vh}{newId:String}
def jJ(i:Z.contains (.type "BaseException")=P)(o:A.handled=Vg)
  (h:wpAny M A x (λv c=>∃e k,v=.ref e/\c.heap.get? C=R (excClassObj nm q C N bs Z hdct sn sub ab col dd k0 k1 k2 k3 k5 newId)/\c.heap.get? e=R k/\k.cls=.ref C/\(∃fs,k.data=.fields fs/\fs[1]?=R Vh.none)/\E (.ref e) c) E s):
  wpAny M A (raiseStmt Y (R x) Vg) Q E s:=by
 let f:(Vh.ref C::Z).contains (.type "BaseException")=P:=by rw[Xd,i,YI]
 ext raiseStmt;show Vf (wpAny_mono h (λv c a=>?_) λ_ _ x=>x);let(e,k,rfl,m,p,l,(fs,j,b),r):=a;let(y,w,n):=k;dsimp only at l j;subst l j;let(z,g,d,t,u):=c
 repeat (first|specialize XF p ?_|specialize XF m ?_|(specialize Y2 m ?_;rw[f])|wp_step)
 rw[b]
 repeat wp_step
 show aht o r
end
section
variable{J:VV}{w:Wh}{A:V7}{E:Vh->Vp->Prop}{h:Heap}{g:Array aaR}{d:afK}{t:Nat}{os:aej}
variable{nm q:Str}{C N:Vm}{bs S Z:bg Vh}{hdct:Bool}{sn:bg Str}{sub:bg Vh}{ab:Bool}{col:br Bool}{dd:br Vm}{k0 k1 k2 k3 k5:br Vh}{B P L Y R X:String}{U:bg Vh}
def rL(y:Ys P L X U)(j:Z.contains (.type P)=Vi)(F:Ys B Y R Z)(T:afZ h Z S)
  (i:h.get? C=lD (excClassObj nm q C N bs S hdct sn sub ab col dd k0 k1 k2 k3 k5 L)) (s:h.Ns N mN) (D:mN "__init__"=lD (.ref fI)) (p:h.get? fI=lD oI) (n:oI.cls=.type "function")
  (G:∀k e,Heap.MadeExcOf h k e (.ref C) rest->wpAny (model J w) A (call (.ref fI) (.ref e::rest)) (λr c=>r=.none/\Q (.done (.ret (.ref e))) c) E #[k,g,d,t,os]) (hrest:rest.length<=VF):
  wpAny (model J w) A (Builtin.«type.__call__» #[.ref C::rest,[]]) Q E #[h,g,d,t,os]:=by
 repeat (first|specialize XF i ?_|specialize wpAny_madeBy_exc i ?_|wp_step)
 show codeAny_call_builtin_code (aeq.quiet_builtin _ y.quiet) (wpAny_check_new_subU y j T i ?_);show codeAny_exc_new_subU y j F T i ?_ hrest
 let a:=bP {cls:=.ref C,data:=.fields #v[.ref h.objs.size,.none,.none,.none,.bool Vq,.none]}
  (bP {cls:=.type "tuple",data:=.seq rest.toArray} i)
 let v:=bP {cls:=.ref C,data:=.fields #v[.ref h.objs.size,.none,.none,.none,.bool Vq,.none]}
  (bP {cls:=.type "tuple",data:=.seq rest.toArray} p)
 let f:((h.push {cls:=.type "tuple",data:=.seq rest.toArray}).push {cls:=.ref C,data:=.fields #v[.ref h.objs.size,.none,.none,.none,.bool Vq,.none]}).Ns N mN:=
  let#[o,es,ep,e,r]:=s;#[o,es,ep,bP _ (bP _ e),r]
 let l:((h.push {cls:=.type "tuple",data:=.seq rest.toArray}).push
   {cls:=.ref C,data:=.fields #v[.ref h.objs.size,.none,.none,.none,.bool Vq,.none]}).get? (h.objs.size+1)=lD
   {cls:=.ref C,data:=.fields #v[.ref h.objs.size,.none,.none,.none,.bool Vq,.none]}:=by heap_get
 let u:(Vh.ref C::S).contains (.ref C)=Vi:=by simp
 let m:=T.keeps (h':=(h.push {cls:=.type "tuple",data:=.seq rest.toArray}).push {cls:=.ref C,data:=.fields #v[.ref h.objs.size,.none,.none,.none,.bool Vq,.none]})
  λb o e=>bP _ (bP _ e)
 ext isInstance
 repeat (first|specialize XF l ?_|(specialize Y2 a ?_;rw[u])|wp_step)
 show wpAny_typeLookup_tail a f m F.mroIs F.init.lookup ?_;rw[D];show Xy (Vf ?_);ext bindSpecial;show Vf (aa6 #[_,v,n] ?_);rw[ag ()];show Vt (Vf (wpAny_mono (G _ (h.objs.size+1) #[λb o H=>bP _ (bP _ H),dP (aa4 _),h.objs.size,l,dP (Vy _),?_]) (λr c z=>?_) λ_ _ x=>x))
 .show bP _ (Heap.get?_push_at W W)
 .let(rfl,I):=z
  wp_walk
  show I
def AW(l:Ys P L X U)(i:Z.contains (.type P)=Vi)(F:Ys B Y R Z)(T:afZ h Z S)
  (a:h.get? C=lD (excClassObj nm q C N bs S hdct sn sub ab col dd k0 k1 k2 k3 k5 L)) (p:h.Ns N mN) (s:mN "__init__"=lD (.ref fI)) (f:h.get? fI=lD oI) (b:oI.cls=.type "function")
  (j:∀c e,Heap.MadeExcOf h c e (.ref C) rest->wpAny (model J w) (A.under (.builtin "type.__call__" #[.ref C::rest,[]])) (call (.ref fI) (.ref e::rest)) (λr k=>r=.none/\Q (.ref e) k) E #[c,g,d,t,os]) (hrest:rest.length<=VF):
  wpAny (model J w) A (call (.ref C) rest) Q E #[h,g,d,t,os]:=by
 let o:=tc_lookup;let n:=tc_bind (.ref C);let m:(#[h,g,d,t,os]:Vp).TypeIs (.ref C) "type":=#[_,a,W];show aah (codeAny_of_tree ?_)
 repeat (any_goals (first|assumption|specialize XF a ?_|wp_step))
 show#[W,?_];show codeAny_call_builtin_at (aeq.quiet_builtin _ (by left)) entry_typeCall (wpAny_check_type_call_sub a (rL (hrest:=hrest) l i F T a p s f b λc e hm=>?_));show j c e hm
end
section
variable{prog:VV}{w:Wh}{A:V7}{E:Vh->Vp->Prop}{s:Vp}{env:Env}
variable{nm q:Str}{C N:Vm}{bs Y Z:bg Vh}{hdct:Bool}{sn:bg Str}{sub:bg Vh}{ab:Bool}{col:br Bool}{dd:br Vm}{k0 k1 k2 k3 k5:br Vh}{B Bn newId X R U:String}{S:bg Vh}
def zH(Fn:Ys Bn newId U S)(u:Z.contains (.type Bn)=Vi)(F:Ys B X R Z)
  (m:Y.contains (.type "BaseException")=Vi) (p:A.handled=Vg) (y:(backTo YO (VT args env)).any (·.1)=Vq) (hi:mN "__init__"=lD (.ref fI)) (t:oI.cls=.type "function")
  (h:wpAny (model prog w) A (eval (.Name x np) env) (λf k=>f=.ref C/\wpAny (model prog w) A (evalArgs (.ref C) Vi (backTo YO (VT args env)) [])
   (λa c=>a.kw=[]/\a.pos.length<=VF/\c.heap.get? C=lD (excClassObj nm q C N bs Y hdct sn sub ab col dd k0 k1 k2 k3 k5 newId)/\c.heap.Ns N mN/\c.heap.get? fI=lD oI/\afZ c.heap Z Y/\
    ∀h' e,Heap.MadeExcOf c.heap h' e (.ref C) a.pos->wpAny (model prog w) (A.under (.builtin "type.__call__" #[.ref C::a.pos,[]])) (call (.ref fI) (.ref e::a.pos)) (λr V=>r=.none/\∃D,V.heap.get? C=lD (excClassObj nm q C N bs Y hdct sn sub ab col dd k0 k1 k2 k3 k5 newId)/\V.heap.get? e=lD D/\D.cls=.ref C/\(∃fs,D.data=.fields fs/\fs[1]?=lD Vh.none)/\E (.ref e) V) E {c with heap:=h'}) E k) E s):
  wpAny (model prog w) A (exec (.Raise (lD (.Call (.Name x np) args [] YO)) Vg pos) env) Q E s:=by
 rw[arm_exec_Raise]
 first
  |show Vf (XQ (jJ m p (Vf (wpAny_mono (acP (wpAny_mono h (λf k i=>?_) λ_ _ x=>x)) (λv l b=>Vf (XQ (Vt b))) λ_ _ x=>x))))
  |(simp only[evalOpt,Option.map];show Vf (XQ (jJ (C:=C) (nm:=nm) (q:=q) (N:=N) (bs:=bs) (hdct:=hdct) (sn:=sn) (sub:=sub) (ab:=ab) (col:=col) (dd:=dd) (k0:=k0) (k1:=k1) (k2:=k2) (k3:=k3) (k5:=k5) (newId:=newId) m p (Vf (wpAny_mono (acP (wpAny_mono h (λf k i=>?_) λ_ _ x=>x)) (λv l b=>Vf (XQ (Vt b))) λ_ _ x=>x)))))
  |(show Vf (XQ (jJ m p ?_));show Vf (wpAny_mono (acP (wpAny_mono h (λf k i=>?_) λ_ _ x=>x)) (λv l b=>Vf (XQ (Vt b))) λ_ _ x=>x))
 let(rfl,i):=i;ext callWith;show Vf (Xy (wpAny_mono i (λa c j=>Vf (XQ ?_)) λ_ _ x=>x));let(G,P):=a;let(o,n,z,hn,I,T,j):=j;obtain rfl:=o;let(hp,g,d,tk,os):=c;simp only[y];show Vf (wpAny_keeperOf_exc z ?_);show Vf (AW (hrest:=n) Fn u F T z hn hi I t λh' e hm=>wpAny_mono (j h' e hm) (λr V #[H,D,O,Mz0,L,K,J]=>#[H,Vf (Xy (wpAny_point (Vt ?_)))]) λ_ _ x=>x);show#[e,D,W,O,Mz0,L,K,J]
end
end L9
namespace L9
open PySem PySem.W PyProof.Rows Builtin Builtin.ObjectAttr
abbrev KL:G B:=[.type "ValueError",.type "Exception",.type "BaseException",.type "object"]
section
variable{prog:VV}{w:Wh}{A:V7}{K:Frag}{B C x:Vm}{s:Vp}{R:abQ->Vp->Prop}{Z:ClassData}{name:Str}{Y:Tok}{v:Vh}{fs:Array Vh}
def MV(X:K.In s.heap)(z:clsIn K C=lD Z)(hm:Z.mro=.ref C:: .ref B::KL)(hd:Z.hasDict=Vi)(D:findIn K (.ref C) name=lD Vg)(i:s.heap.get? x=lD #[.ref C,Vg,.fields fs,#v[]])
  (H:∀c k,c.get? x=lD #[.ref C,lD s.heap.objs.size,.fields fs,#v[]]->c.Ns1 s.heap.objs.size (λy=>if y=name then lD v else Vg)->(∀b o,b≠x->s.heap.get? b=lD o->c.get? b=lD o)->R (.ok (.ret .none)) {s with heap:=c,toks:=k}):
  codeAny (model prog w) A (.call (.builtin "object.__setattr__") #[[.ref x,.str name Y,v],[]]) R s:=by
 let I:InstAt s.heap x #[.ref C,Vg,.fields fs,#v[]] C Vg:=#[i,W,W,True.intro];let m:=PySem.F.store_object;let sub:Looks (model prog w) s.heap (isInstance (.ref x) (.type "object")) Vi:=I.type.andThen (looks_mroIn X (by ext mroIn;rw[z,Option.bind_some,hm,av (by simp)];simp));show Yc m.slot.plain m.entry (@check_slot (model prog w) _ _ s "object.__setattr__" "object" "__setattr__" (.ref x) [.str name Y,v] [] _ m.kind m.split sub (m.args (.ref x) (.str name Y) v) ?_);let l:Looks (model prog w) s.heap (mroOf (.ref C)) Z.mro:=(looks_clsIn X z).andThen .now;rw[osa_eq,refuse_eq];show Vf (Vf (I.type.here (Vf (l.here ?_))));rw[hm,alN,alN,PySem.F.store_ValueError.passes];show Vt (Vf (I.type.here (Vf ((looks_findIn X D).here (Vf (Vt ?_))))));ext storeInOwnDict;show Vf (Vt (Vf ?_));unfold ownDictForStores instanceDict;show Vf (aep i (Vf ((looks_clsIn X z).here ?_)));rw[hd,av ()];show wpAny _ _ (if(!Vi|| !typeHasDict (.ref C))=Vi then pure Vg else(do
        let d<-alloc {cls:=Vh.type "dict",data:=Data.dict #v[]}
        update x λo=>{cls:=o.cls,dict:=lD d,data:=o.data,slots:=o.slots}
        dictMade (.ref C) x d)) _ _ _
 rw[av (by simp[typeHasDict])];let(h,g,d,t,os):=s;dsimp only at X i H I sub l⊢;let f:(h.push {cls:=.type "dict",data:=.dict #v[]}).get? x=lD #[.ref C,Vg,.fields fs,#v[]]:=bP _ i;let a:=VW (cv i);show Vf (wpAny_alloc' ?_);show Vf (wpAny_update' f ?_);show Vt ?_
 let q:((h.push {cls:=.type "dict",data:=.dict #v[]}).update x λo=>{cls:=o.cls,dict:=lD h.objs.size,data:=o.data,slots:=o.slots}).get? h.objs.size
   =lD {cls:=.type "dict",data:=.dict #v[]}:=
  (Heap.get?_update_ne _ _ _ _ a.symm).trans (Heap.get?_push_at W W)
 let p:((h.push {cls:=.type "dict",data:=.dict #v[]}).update x λo=>{cls:=o.cls,dict:=lD h.objs.size,data:=o.data,slots:=o.slots}).Ns h.objs.size (λ_=>Vg):=
  #[_,#v[],_,q,W,λe M=>a6 M (by simp),λ_=>W]
 unfold storeInDict newKeyGuard;show Vf (Vt (Vf (wpAny_nsSet1 (Heap.Ns1.of_empty p) λc j G=>?_)));let(oD,O,P,n,r,u):=j.count (Within.cons name v Within.nil);show Vf (ajo n (by rw[r];show ajp (Wk u (by rw[VI,Xb,Yb];ext))) ?_);show Vt (H c _ ?_ ?_ λb ob E J=>?_)
 .show(G.2 x a).trans (dt _ f W)
 .let(L,es,Q,e1,U,T,N,S):=j;show#[L,es,Q,e1,U,T,N,λy=>by rw[S y]]
 .show(G.2 b (VW (cv J))).trans ((Heap.get?_update_ne _ _ _ _ E).trans (bP _ J))
theorem L5(X:K.In s.heap)(g:clsIn K C=lD Z)(hm:Z.mro=.ref C:: .ref B::KL)(hd:Z.hasDict=P)(a:findIn K (.ref C) "__setattr__"=lD (lD (.builtin "object.__setattr__")))(h:findIn K (.ref C) name=lD M)(e:s.heap.get? x=lD #[.ref C,M,.fields fs,#v[]])
  (f:∀c d,c.get? x=lD #[.ref C,lD s.heap.objs.size,.fields fs,#v[]]->c.Ns1 s.heap.objs.size (λy=>if y=name then lD v else M)->(∀b o,b≠x->s.heap.get? b=lD o->c.get? b=lD o)->Q ⟨⟩ {s with heap:=c,toks:=d}):
  wpAny (model prog w) A (setAttr (.ref x) name v) Q E s:=
 set_plain X (#[e,W,W,True.intro]:InstAt s.heap x #[.ref C,M,.fields fs,#v[]] C M) a (MV X g hm hd h e f)
end
section
variable{S:VV}{w:Wh}{A:V7}{E:Vh->Vp->Prop}{h:Heap}{g:Array aaR}{d:afK}{t:Nat}{J:aej}
variable{v q:Str}{C N:Vm}{bs y Z:bg Vh}{L:Bool}{u:bg Str}{sub:bg Vh}{r:Bool}{col:br Bool}{dd:br Vm}{k0 k1 k2 k3 k5:br Vh}{B U X Y:String}
def Fx(F:Ys B X Y Z)(T:afZ h Z y)
  (p:h.get? C=R (excClassObj v q C N bs y L u sub r col dd k0 k1 k2 k3 k5 U)) (j:h.get? e=R #[.ref C,M,.fields fs,#v[]]) (l:fs[0]?=R (.ref t0))
  (m:∀s k,s.get? e=R #[.ref C,M,.fields k,#v[]]->k[0]?=R (.ref h.objs.size)->(∀i,i≠0->k[i]?=fs[i]?)->(∀b o,b≠e->h.get? b=R o->s.get? b=R o)->Q .none #[s,g,d,t,J]) (c:rest.length<=VF):
  wpAny (model S w) A (call (.builtin Y) (.ref e::rest)) Q E #[h,g,d,t,J]:=by
 show aah (Yc F.init.plain F.initEntry (wpAny_check_init_subU F T p j W ?_));unfold Builtin.«BaseException.__init__»;dsimp only;rw[av (by simp)];unfold newTuple Builtin.BaseException.bexcPut;let f:=(V4.mp l).1;let a:(h.push {cls:=.type "tuple",data:=.seq rest.toArray}).get? e=R #[.ref C,M,.fields fs,#v[]]:=bP _ j;show Vf (WN (Vf (Vf (Wf a W l (Vf (W5 a W f ?_))))) (by show rest.toArray.size<=VF;rw[VJ];show c));show YU (Vt (m _ (fs.setIfInBounds 0 (.ref h.objs.size)) ?_ (by simp[f]) (λi hi=>by rw[Zk (ej hi)]) λb o n z=>?_))
 .show dt (Obj.mapFields (·.setIfInBounds 0 (.ref h.objs.size))) a W
 .show(da _ _ (ej n)).trans (bP _ z)
end
end L9
namespace L9
open PySem PySem.Spec PyProof.Rows L2
def T0(v:V):Prop:=v=.Xo\/∃i:Int,v=.int i/\i.natAbs.log2<1920
def Nm{i:Int}(h:i.natAbs.log2<1920):(Str.ofString (toString i)).length<=5000:=by let e:=int_text_length_le () h;rw[PySem.ofString_length];ext
def Ry(I:Inv X pins σ H s)(r:RelV v u)(f:T0 v)
  (h:∀(y:Str) (t:Tok) (a:Vp),y.length<=5000->Inv X pins σ H a->Q (.str y t) a):wpAny (model X.prog X.w) A (formatField u Str.empty) Q E s:=by
 rcases f with rfl|⟨i,rfl,b⟩
 .obtain rfl:=r;show wpAny_formatField_none (h _ _ _ () (I.tok _))
 .let(t,rfl):=r;show formatField_int_small b (h _ _ _ (Nm b) (I.tok _))
def PJ(X:Cx)(c:G WB)(n:Nat)(t:L2.St->Hp->(Hp->Prop)->Prop):Prop:=
 ∀(a:G (I×Obj)) (s:Vp) (e:L2.St) (H:Hp) (b:Str) (Q:Hp->Prop),Inv X a e H s->b.length+n<=1000000->t e H Q->
  wpAny (model X.prog X.w) X.A (joinParts b (evalEach c X.env)) (λv h=>∃(y:Str) (g:Tok) (f:Hp),v=.str y g/\Inv X a e f h/\Q f) X.xe s
section
variable{X:Cx}{e:WB}{U:bg WB}{n:Nat}{T:TE}{t:L2.St->Hp->(Hp->Prop)->Prop}{Y:Pos}
def QX:PJ X [] 0 (λ_ H Q=>Q H):=by intro a s f H b Q I g h;show joinParts_nil #[_,_,H,W,I.tok _,h] (by rw[Yb];ext)
def Q1(i:x.length<=5000)(g:PJ X U n t):PJ X (.Constant (.str x) k Y::U) (n+5000) t:=by intro a s f H b Q I j h;show joinParts_consE (joinParts_cons (Calls.Constant_str ?_));let e:=anR b x;show#[by rw[Yb];ext,g a _ f H (b++x) Q (I.tok _) () h]
def Pv(i:PE X e T)(g:PJ X U n t):PJ X (.FormattedValue e (-1) M Y::U) (n+5000) (λσ H Q=>T σ H λv H1=>T0 v/\t σ H1 Q):=by intro a s σ H b Q I z h;show joinParts_consE (joinParts_cons (FormattedValue_plain (cR (i a s σ H _ I h) λu o a=>?_)));let(v,H1,j,r,f,q):=a;show Ry j r f λy m p w l=>?_;let e:=anR b y;show#[by rw[Yb];ext,g a _ σ H1 (b++y) Q l () q]
def Lb(h:PJ X (g::o::U) n t)(c:n<=900000):PE X (.JoinedStr (g::o::U) Y) (λσ H Q=>t σ H λH1=>∀y:Str,Q (.str y) H1):=by intro a s σ H Q I b;show JoinedStr_many (cR (h a s σ H Str.empty _ I (by show 0+n<=1000000;ext) b) λv l #[y,j,H1,f,i,q]=>?_);subst f;show#[.str y,H1,i,#[_,W],q y]
end
def ML(C e:I):Heap->Prop:=λh=>∃fs t0,h.get? e=R #[.ref C,M,.fields fs,#v[]]/\fs[0]?=R (.ref t0)/\fs[1]?=R .none
def SU(C e p:I):Heap->Prop:=λh=>∃fs a0,h.get? e=R #[.ref C,R p,.fields fs,#v[]]/\fs[0]?=R a0/\fs[1]?=R .none
structure XC(K:Ld)(C B fI:I):Prop where
 obj:∃nm q N bs sn sub ab col dd k0 k1 k2 k3 k5,K.lookup C=R (excClassObj nm q C N bs (.ref B::KL) P sn sub ab col dd k0 k1 k2 k3 k5 "ValueError.__new__")/\acx K N=P/\VH K N "__init__"=R (R (.ref fI))
 base:X1 K B KL "ValueError.__new__"=P
 sa:V3 K (.ref C) "__setattr__"=R (R (.builtin "object.__setattr__"))
def zJ{K:Ld}(q:X1 K g KL n=P):aaC K KL (.ref g::KL)=P:=by
 unfold X1 at q;split at q
 .rename_i dd f e b
  split at q
  .simp only[VZ,beq_iff_eq,af0]at q;let(((((_,_),_),_),WT),a):=q;ext aaC;dsimp only;rw[b];dsimp only;rw[WT,a,show aaC K KL KL=P from by ext aaC;rw[eW,XD],eW,X7,X7,YI]
  .ext q
 .ext q
section
variable{X:Cx}{B C fI:Vm}{pos S U:Pos}{Y:WB}{Z:bg WB}{t:TA}{b:Str}
def HW(h:H a=R o):bE H a o=H:=by
 funext c;by_cases z:c=a
 .rw[z,aJ,h]
 .rw[aG z]
def Rh(C:I)(t:TA):TE:=λf H Q=>t f H λg a=>∃e y,g=[.ref e,.str y]/\a e=R (.ext (ML C e))/\Q .Xo a
def Ju{pl:Sem Bool}(V:Gl X b)(hm:X.mg b=lD (.ref B))(D:acd X.K B (.type "type")=Vi)(hf:ace X.K (.ref B) (.type "type") "__init__"=lD (.val (.builtin "ValueError.__init__")))
  (k:Y0 X.K (.ref B) "__getattribute__"=lD (lD (.builtin "type.__getattribute__"))) (E:XC X.K C B fI) (ha:PA X (Y::Z) t)
  (dI:VT (Y::Z) X.env=(Vq,eval Y X.env)::VT Z X.env:=by rfl) (l:(backTo pos (VT Z X.env)).any (·.1)=Vq:=by rfl) (m:(b==("__debug__":Str))=Vq:=by decide)
  (c:eval (.Call (.Attribute (.Name b S) "__init__" U) (Y::Z) [] pos) X.env=(do
   let ov<-eval (.Name b S) X.env
   standAt U.atName
   let(f,first)<-holding [ov] (getMethod ov "__init__" pl)
   callWith pos f first (backTo pos (VT (Y::Z) X.env)) (backToKw pos (keywordEach [] X.env))):=by rfl):
  PE X (.Call (.Attribute (.Name b S) "__init__" U) (Y::Z) [] pos) (Rh C t):=by
 intro a s J H Q I h;show aaq (pl:=pl) (iH I V hm ?_ m) c;show PySem.W.method_cls I.kIn k (PySem.W.cls_value I.kIn D hf () ?_);let F:=ha pos a {s with toks:=s.toks+1} J H _ (I.tok _) h;rw[dI]at F⊢;show Calls.callWith_builtin (by show(Vq||(backTo pos (VT Z X.env)).any (·.1))=Vq;rw[l]<;>rfl) (Calls.evalArgs_plain (cR F λus A #[vs,G,i,r,e,y,ev,n,q]=>?_));subst ev;let(P,u2,rfl,r1,r2):=yD r;obtain rfl:P=.ref e:=r1;let(tk,rfl):=r2;let((fs,t0,g1,g2,g3),_,gk):=(show ObjOk X.prog X.w G A.heap e (.ext (ML C e))from i.WT e _ n);let(nm,q',N,bs,sn,sub,ab,col,dd,k0,k1,k2,k3,k5,lk,WT,hin):=E.obj;let T:=aa8 i.kIn (zJ E.base);let(h2,g,d,j,os):=A;show Fx Xj T (i.kIn _ _ lk) g1 g2 (λh' p v e2 e3 e4=>?_) (by show 1<=VF;decide);show#[.Xo,G,?_,W,q];let w:=i.write (x:=e) (e:=e) (o:=.ext (ML C e)) (h':=h') (t':=j) (by rw[n];show True.intro) (.inl W) (λb u hb z=>e4 b u hb z) #[_,v] #[#[p,_,v,e2,by rw[e3 1 ()];show g3],#[_,v],λh1 h2 #[f1,R1,O,Mz0,L] hk=>#[f1,R1,hk _ O,Mz0,L]];rw[HW n]at w;show w
def Si(C:I)(f:Str)(i h:TE):TS:=λD a H=>h a H λv j=>i a j λx g=>∃e,x=.ref e/\g e=R (.ext (ML C e))/\∀p,g p=M->p≠e->D.nx a (bE (bE g e (.ext (SU C e p))) p (.xd [(f,v)]))
def LG(Q:XC X.K C B fI)(V:V3 X.K (.ref C) f=lD Vg)(ha:PE X o ta)(c:PE X value tv)(d:Xm value (lD (.Attribute o f pos')) pos.line X.env=pure Vq):PS X (.Assign [.Attribute o f pos'] value pos) (Si C f ta tv):=by
 intro l s G H D I h;show acX (cR (c l s G H _ I h) λu s1 #[v,H1,I1,rv,q]=>cR (ha l s1 G H1 _ I1 q) λov p a=>?_) d;let(x,T,A,rx,e,ex,j,q2):=a;subst ex;obtain rfl:=rx;let((fs,t0,R,g2,g3),_,gk):=(show ObjOk X.prog X.w T p.heap e (.ext (ML C e))from A.WT e _ j);let(nm,q',N,bs,sn,sub,ab,col,dd,k0,k1,k2,k3,k5,lk,WT,hin):=Q.obj;obtain⟨F,hc,L,M⟩:∃F,aaX X.K C=lD F/\F.mro=.ref C:: .ref B::KL/\F.hasDict=Vi:=by ext aaX;rw[lk];show#[_,W,W,W]
 show L5 A.kIn hc L M Q.sa V R λh' tk' O e2 E=>?_;let pe:=WL (cv R);let r:=A.WT.fresh (Vy _);show#[G,_,?_,q2 p.heap.objs.size r pe];let m:∀b o,p.heap.get? b=lD o->b≠p.heap.objs.size:=λb o z=>VW (cv z);show A.un #[λb o z n _ _=>E b o (λy=>by rw[y,j]at n;ext n) z,λb o z n _ _=>#[o.slots,E b o (λy=>by rw[y,j]at n;ext n) z],λb o z n _=>?_,λb o z _=>?_,λb xs z=>?_,λb o u z=>?_,λb ps z=>#[#v[],?_]] ?_
 .rw[aG (m b o z),aG (λy=>by rw[y,j]at n;ext n)];show n
 .by_cases y:b=e
  .subst y;show#[_,O]
  .show#[o,E b o y z]
 .rw[aG (λy=>by rw[y,r]at z;ext z),aG (λy=>by rw[y,j]at z;ext z)];show z
 .rw[aG (λy=>by rw[y,r]at z;ext z),aG (λy=>by rw[y,j]at z;ext z)];show z
 .rw[aG (λy=>by rw[y,r]at z;ext z),aG (λy=>by rw[y,j]at z;ext z),z];simp
 .intro a o z
  by_cases P:a=p.heap.objs.size
  .subst P
   rw[aJ]at z;ext z;show#[_,e2,λg=>?_];show ZU (match g==f with|true=>lD v|false=>Yi g []) (if g=f then lD u else Vg);cases i:g==f with
   |true=>rw[ag (beq_iff_eq.mp i)];show rv
   |false=>rw[av (λw=>by rw[beq_iff_eq.mpr w]at i;ext i)];show True.intro
  .rw[aG P]at z
   by_cases J:a=e
   .subst J;rw[aJ]at z;ext z;show#[#[fs,_,O,g2,g3],#[_,O],λh1 h2 #[f1,t1,z1,z2,z3] hk=>#[f1,t1,hk _ z1,z2,z3]]
   .rw[aG J]at z
    let own:∀b,T b=lD (.own a)->b≠e/\b≠p.heap.objs.size:=λb y=>#[(λk=>by rw[k,j]at y;ext y),(λk=>by rw[k,r]at y;ext y)];show(A.WT a o z).ZL (λb w i y=>E b w (λk=>?_) y) (λb y=>by rw[aG (own b y).2,aG (own b y).1];show y) λb xs y=>by rw[aG (λk=>by rw[k,r]at y;ext y),aG (λk=>by rw[k,j]at y;ext y)];show y
    rcases i with i|i
    .show J (i.symm.trans k)
    .show(own b i).1 k
end
end L9
namespace L9
open PySem PySem.Spec PyProof.Rows L2 L4
def RM(H:Hp)(e:I):Hp:=λa=>if a=e then M else H a
theorem tS:RM H e e=M:=ag W
theorem kL(h:a≠e):RM H e a=H a:=av h
def AG{K:Ld}(X:K.In h)(G:h.Ns N C)(e:VH K N n=R (R v)):C n=R v:=by
 let(o,r,p,f,j,_,g):=G;unfold VH at e;split at e
 .rename_i l m b a
  let:=(X _ _ a).symm.trans f;ext this;ext j;split at e
  .rename_i q i;ext e;rw[<-g];unfold nsFind findBy;rw[<-afh,i];rfl
  .split at e<;>ext e
 .ext e
def P8{K:Ld}(i:Yw K (.ref f)=P)(l:K.lookup f=R o):o.cls=.type "function":=by unfold Yw WO at i;dsimp only at i;rw[l]at i;show VR (beq_iff_eq.mp i)
section
variable{X:Cx}{Z:bg (Vm×Obj)}{Y:L2.St}{H:Hp}{s:Vp}{U:Heap}{e:Vm}{o:HO}
def LU(I:L2.Inv X Z Y H s)(k:∀b u,s.heap.get? b=R u->U.get? b=R u)(n:s.heap.get? e=M)(new:ObjOk X.prog X.w (bE H e o) U e o):L2.Inv X Z Y (bE H e o) {s with heap:=U,toks:=t'}:=by
 let f:=uF I.WT n;let ne:∀b u,s.heap.get? b=R u->b≠e:=λb u z y=>by rw[y,n]at z;ext z
 show I.un #[λb u z _ _ _=>k b u z,λb u z _ _ _=>#[u.slots,k b u z],λb u z q _=>by rw[aG (ne b u z)];show q,λb u z _=>#[u,k b u z],λb xs z=>?_,λb u v z=>?_,λb g z=>#[#v[],?_]] ?_
 .rw[aG (λy=>by rw[y,f]at z;ext z)];show z
 .rw[aG (λy=>by rw[y,f]at z;ext z)];show z
 .rw[aG (λy=>by rw[y,f]at z;ext z),z];simp
 .intro a u z
  by_cases y:a=e
  .subst y;rw[aJ]at z;ext z;show new
  .rw[aG y]at z;show(I.WT a u z).ZL (λb w _ q=>k b w q) (λb q=>by rw[aG (λw=>by rw[w,f]at q;ext q)];show q) λb xs q=>by rw[aG (λw=>by rw[w,f]at q;ext q)];show q
def M7(I:L2.Inv X Z Y H s)(f:H e=R (.ext C)):L2.Inv X Z Y (RM H e) s:=by
 let:=I.un (t':=s.toks) (H':=RM H e) #[λb u z _ _ _=>z,λb u z _ _ _=>#[u.slots,z],λb u z q _=>?_,λb u z _=>#[u,z],λb xs z=>?_,λb u v z=>?_,λb g z=>#[#v[],?_]] ?_
 .show this
 .by_cases y:b=e
  .rw[y];show tS
  .rw[kL y];show q
 .rw[kL (λy=>by rw[y,f]at z;ext z)];show z
 .rw[kL (λy=>by rw[y,f]at z;ext z)];show z
 .rw[kL (λy=>by rw[y,f]at z;ext z),z];simp
 .intro a u z
  let y:a≠e:=λy=>by rw[y,tS]at z;ext z
  rw[kL y]at z;show(I.WT a u z).ZL (λb w _ q=>q) (λb q=>by rw[kL (λw=>by rw[w,f]at q;ext q)];show q) λb xs q=>by rw[kL (λw=>by rw[w,f]at q;ext q)];show q
end
def Dp(C:I)(sp:Sp)(E:XK)(g:TA):TS:=λ_ f H=>g f H λh b=>h.length<=VF/\∀e,b e=M->sp (.ref e::(h++[])) (bE b e (.ext (ML C e))) (λv a=>v=.Xo/\∃p,a e=R (.ext (SU C e p))/\E (.ref C) (R p) (RM a e)) E0
def Fz{K:Ld}
  (c:XC K C Bz0 fI) (U:K.lookup fI=lD oI) (d:Yw K (.ref fI)=Vi) (FI:FnOk Pz0 w K mg base dX k fI fdI ps sp) (bI:Binds K fdI ps [])
  (hr:XN (k+1) (eB (gR Pz0 w) Pz0 w K mg base N qual scope f cd A outer s0 H0 E).A)
  (hg:Gl (eB (gR Pz0 w) Pz0 w K mg base N qual scope f cd A outer s0 H0 E) x) (hm:mg x=lD (.ref C)) (ha:PA (eB (gR Pz0 w) Pz0 w K mg base N qual scope f cd A outer s0 H0 E) (e0::es) ta)
  (J:(x==("__debug__":Str))=Vq:=by decide)
  (Y:VT (e0::es) (eB (gR Pz0 w) Pz0 w K mg base N qual scope f cd A outer s0 H0 E).env=(Vq,eval e0 (eB (gR Pz0 w) Pz0 w K mg base N qual scope f cd A outer s0 H0 E).env)::VT es (eB (gR Pz0 w) Pz0 w K mg base N qual scope f cd A outer s0 H0 E).env:=by rfl)
  (F:(backTo YO (VT es (eB (gR Pz0 w) Pz0 w K mg base N qual scope f cd A outer s0 H0 E).env)).any (·.1)=Vq:=by rfl):
  PS (eB (gR Pz0 w) Pz0 w K mg base N qual scope f cd A outer s0 H0 E) (.Raise (lD (.Call (.Name x np) (e0::es) [] YO)) Vg pos) (Dp C sp E ta):=by
 intro l s σ H D I h;let(nm,qn,Nn,bs,sn,sub,ab,col,dd,k0,k1,k2,k3,k5,S,WT,G):=c.obj;let a:=I.ok.mod.kin;let oC:=a _ _ S;let R:=Heap.Ns.of_isNs (aet a WT);let ni:=AG a R G;let oF:=a _ _ U;let T:=aa8 a (zJ c.base);show zH (nm:=nm) (q:=qn) (N:=Nn) (bs:=bs) (hdct:=Vi) (sn:=sn) (sub:=sub) (ab:=ab) (col:=col) (dd:=dd) (k0:=k0) (k1:=k1) (k2:=k2) (k3:=k3) (k5:=k5) Xj (by left) Xj (T.hasType Xj.hasBase) (I.ok.hd W)
  (by rw[Y];show(Zs _).trans F) ni (P8 d U) (iH I hg hm #[W,?_] J)
 let go:=ha YO l s σ H _ I h;rw[Y]at go⊢;show Calls.evalArgs_plain (cR go λg j a=>?_);let(vs,H1,i,r,hl,q):=a;show#[W,by rw[<-r.length];show hl,i.bk _ _ oC,R.keeps i.bk,i.bk _ _ oF,T.keeps i.bk,λh' e m=>?_];let(t,y,y2,y3):=m.there;let hn:=uF i.WT m.new;let X:=q e hn;let M:=LU (t':=j.toks) (o:=.ext (ML C e)) i m.keeps m.new #[#[_,t,y,W,W],#[_,y],λh1 h2 #[f1,t1,z1,z2,z3] hk=>#[f1,t1,hk _ z1,z2,z3]];let Q:Vals (V.ref e::(vs++[])) (Vh.ref e::(g++[])):=.cons W (r.append .nil);let n:(Vh.ref e::g++[]).length=ps.length:=by let z:=Q.length;rw[FI.len _ _ _ _ X]at z;show z.symm
 let old:s0.heap.get? e=Vg:=by
  cases z:s0.heap.get? e with
  |none=>rfl
  |some o=>let(o',O):=i.base.there e o z (λy=>nomatch y);rw[m.new]at O;ext O
 let bi:=bI {heap:=h',gens:=j.gens,drawn:=j.drawn,toks:=j.toks,os:=j.os} (Vh.ref e::g) M.kIn n;rw[agL]at bi;show aah (ZY (FI.run _ (eB (gR Pz0 w) Pz0 w K mg base N qual scope f cd A outer s0 H0 E).stack _ _ #[Vh.ref e::g,[]] (Vh.ref e::(g++[])) _ _ E0 (hr.make C g []) (M.ag6.make C g []) bi Q X) λr s' b=>?_);cases r with
 |error e=>show b.elim
 |ok fl=>
  cases fl with
  |ret u=>let(v,H',L,rv,ev,p,Z,q3):=M.after b;subst ev;let((fs,a0,g1,g2,g3),_,_):=(show ObjOk _ _ H' s'.heap e (.ext (SU C e p))from L.WT e _ Z);show#[rv,_,L.kIn _ _ S,g1,W,#[fs,W,g3],?_];show IJ (hd:=Vg) (M7 L Z) #[_,_,g1,W,W,W,g2,g3] old (λT z=>nomatch z) tS (λT z=>nomatch z) q3
  |next=>show False.elim b
  |brk=>show False.elim b
  |cont=>show False.elim b
end L9
namespace L9
open PySem PySem.Spec PySem.W PyProof.Rows L2 L3 L4
section
variable{Y:VV}{w:Wh}{A:V7}{E:Vh->Vp->Prop}{h:Heap}{g:Array aaR}{d:afK}{t:Nat}{T:aej}{a C:Vm}{o:Obj}{K:Ld}{S:br Obj}{U:Str}{v:Vh}
  {L J:Str} {N1:Vm} {b1 N:bg Vh} {d1:Bool} {s1:bg Str} {u1:bg Vh} {a1:Bool} {c1:br Bool} {x1:br Vm} {i0 i1 i2 i3 i5:br Vh} {Z:String}
def Ba(X:K.In h)(I:Yq h a o C S)(b:findObj K C S U=R (.value v))
  (k:Q (.done (.ret v)) #[h,g,d,t,T]):wpAny (model Y w) A (Builtin.«object.__getattribute__» #[[.ref a,.str U tk],[]]) Q E #[h,g,d,t,T]:=by
 let f:=I.type (M:=model Y w);let e:=looks_find (M:=model Y w) X I b;show Vf (Vt (Vf (Vt (Vf (f.at (Vf (e.at ?_)))))));show Vt k
def F1(X:K.In h)(I:Yq h a o C S)(n:h.get? C=R (excClassObj L J C N1 b1 N d1 s1 u1 a1 c1 x1 i0 i1 i2 i3 i5 Z))(m:N.contains (.type "BaseException")=P)
  (f:findIn K (.ref C) "__getattribute__"=R (R (.builtin "BaseException.__getattribute__"))) (e:findIn K (.ref C) "__getattr__"=R Vg) (l:findObj K C S U=R (.value v)) (j:handedIn v=P)
  (k:Q v #[h,g,d,t+1,T]):wpAny (model Y w) A (getAttr (.ref a) U expr) Q E #[h,g,d,t,T]:=by
 let y:=Yo.ga.bind (.ref a);let b:(Vh.builtin "BaseException.__getattribute__"==Vh.builtin "object.__getattribute__")=Vq:=by left
 let u:(onTheHeap (Vh.ref C)&&Vh.builtin "BaseException.__getattribute__"==Vh.builtin "object.__getattribute__")=Vq:=by rw[b];rfl
 let r:=I.type (M:=model Y w);let q:=looks_findIn (M:=model Y w) X f;let p:=looks_findIn (M:=model Y w) X e;unfold getAttr getAttrBy
 repeat (any_goals (first|assumption|specialize r.at ?_|specialize q.at ?_|specialize p.at ?_|wp_step))
 rw[show(expr&&onTheHeap (Vh.builtin "BaseException.__getattribute__"))=Vq from by ext expr<;>rfl,av Vu];ext boundAndCalled
 repeat (any_goals (first|assumption|wp_step))
 show Yc Yo.ga.plain F.entry_bexc_ga (ur n m I.at_ I.cls (Ba X I l ?_));let i:=handedOut_of j;show wpAny _ _ (handedOut v) _ _ _;rw[i];show Vt k
end
def Sx(K:Ld)(g:TE)(f:Str):TE:=λb H Q=>g b H λx a=>∃e h C m p fs v,x=.ref e/\a e=R (.frz h (.own e))/\h.cls=.ref C/\h.dict=R p/\notCls h=P/\ZT K C m/\hasDictIn K C=P/\findIn K (.ref C) f=R M/\
 a p=R (.xd fs)/\fs.lookup f=R v/\Q v a
def DD(S:PE X o ta)(Y:attributeBase o f X.env (eval o X.env)=eval o X.env):PE X (.Attribute o f pos) (Sx X.K ta f):=by intro a s A H Q I h;show Cv Y (cR (S a s A H _ I h) λu n a=>?_);let(x,y,b,w,e,F,C,m,p,fs,v,Z,ea,U,T,hn,L,R1,ha,N,l,q):=a;subst Z;obtain rfl:=w;let z:=(b.WT e _ ea).1;let(mA,G,i):=(show ObjOk X.prog X.w y n.heap p (.xd fs)from b.WT p _ N);let(u',M,r):=ZU.some_of (by rw[<-l];show i f);let(E,O,P):=vJ G;let(_,_,_,_,_,_,_,_,_,_,_,_,_,_,_,_,J):=L.cl;let(j,g,d,t,os):=n;show F1 b.kIn (#[z,U,hn,by rw[T];show O]:Yq j e F C (lD E)) (b.kIn _ _ J) L.be L.ga L.gt (findObj_own R1 ha W (by rw[P,M])) (v7 r) #[v,y,b.tok _,r,q]
def wW(C:I)(f:Str):Sp:=λa H Q _=>∃e v,a=[.ref e,v]/\T0 v/\H e=R (.ext (ML C e))/\∀p,H p=M->p≠e->Q .Xo (bE (bE H e (.ext (SU C e p))) p (.xd [(f,v)]))
def SL:D->Bool
 |.none=>P
 |.int i=>decide (i.natAbs.log2<1920)
 |_=>Vq
end L9
namespace L3
open PySem PySem.Spec PyProof.Rows L2
mutual
def UH:Vo->Bool
 |.tuple ds=>Pk ds
 |.int _=>Vi
 |.str _=>Vi
 |.bool _=>Vi
 |.none=>Vi
 |_=>Vq
def Pk:bg Vo->Bool
 |[]=>Vi
 |d::r=>UH d&&Pk r
end
section
variable{K:Ld}{E:XK}{B:cJ}{Y:Hp}{O Z:cJ}{X:L2.St}{H U:Hp}{T:bx}
def Mr(h:SqT K H a xs)(l:H a=R (.lst ys)):SqT K (λ_=>M) a xs:=by
 rcases h with(h|⟨o,h⟩)|h
 .rw[l]at h;ext h
 .rw[l]at h;ext h
 .show .inr h
mutual
theorem NX(f:∀b,O b->¬Z b->∃ys,H b=lD (.lst ys)):∀{v:V} {d:D},DV Z K H v d->UH d=Vi->DV O K H v d
 |_,_,.Xo,_=>.Xo
 |_,_,.bl b,_=>.bl b
 |_,_,.int i,_=>.int i
 |_,_,.str x,_=>.str x
 |_,_,.tup (a:=a) h hs,e=>.tup ⟨h.1,λz=>by
   by_cases y:Z a
   .exact h.2 y
   .obtain⟨ys,q⟩:=f a z y;exact Mr h.1 q⟩ (AA f hs e)
 |_,_,.lst h hs,e=>by cases e
theorem AA(a:∀b,O b->¬Z b->∃ys,H b=lD (.lst ys)):∀{vs:bg V} {ds:bg D},Xn Z K H vs ds->Pk ds=Vi->Xn O K H vs ds
 |_,_,.nil,_=>.nil
 |_,_,.cons h hs,e=>by have f:=Bool.and_eq_true_iff.mp e;exact .cons (NX a h f.1) (AA a hs f.2)
end
end
end L3
namespace PyProof.Rows
open PySem
section
variable{Y:VV}{w:Wh}{A:V7}{E:Vh->Vp->Prop}{s:Vp}
def uh(b:h.get? a=R (seqObj "list" o.toArray n)):∃e,(sortedHeap h a o out).get? a=R (seqObj "list" out e):=by let f:=get?_update_seq b (λ_=> #v[]);show#[_,get?_update_seq (bP _ (bP _ f)) _]
theorem rb(f:b≠a)(e:h.get? b=R o):(sortedHeap h a C out).get? b=R o:=
 (da _ _ (ej f)).trans (bP _ (bP _ ((da _ _ (ej f)).trans e)))
def AR{l:I}{c:bg Vh}{j:bg Int}{Q:Vh->Vp->Prop}(p:s.heap.IsTuple l c.toArray)(y:IntsAre c j)(i:c.length<64)
  (h:∀(a d:Heap) (out:Array Vh) (e:Nat) (f:bg Int),(∀b o,s.heap.get? b=R o->a.get? b=R o)->d.get? a.objs.size=R (seqObj "list" out e)->(∀b o,a.get? b=R o->d.get? b=R o)->IntsAre out.toList f->f.Perm j->f.Pairwise (·<=·)->Q (.ref a.objs.size) {s with heap:=d}):
  wpAny (model Y w) A (call (.builtin "sorted") [.ref l]) Q E s:=by
 let(o,q,v,n,u):=p;show Calls.call_function_entry kind_sorted plain_sorted entry_sorted (args_sorted1 _) (Vf (m:=checkCount "sorted" 1 1 _) (Vt (Vf (wpAny_collect_seq l (.inr W) q v u (λa r=>Vf (anS ?_)) (by rw[VJ,Yb];ext)))));let g:(a.push (seqObj "list" c.toArray 0)).get? a.objs.size=R (seqObj "list" c.toArray 0):=cx _ W;show Vf (Xy (Yl slot_list_sort #[_,g,W] entry_list_sort (list_sort_tree g y i λout f F C B=>#[_,W,Vt #[_,W,?_]]) (args_list_sort _)));let(e,t):=uh (out:=out) g;show h a _ out e f r t (λb G z=>rb (VW (cv z)) (bP _ z)) F C B
end
end PyProof.Rows
namespace L9
open PySem PySem.Spec PyProof.Rows L2 L3
section
variable{K:Ld}{E:XK}
def ye:YG X (.builtin "sorted") (λxs H Q=>∃(p:Vm) (f:bg Int),xs=[.ref p]/\SqT X.K H p (f.map V.int)/\f.length<64/\∀(l:Vm) (a:bg Int),H l=M->a.Perm f->a.Pairwise (·<=·)->Q (.ref l) (bE H l (.lst (a.map V.int)))):=by
 intro j s C H xs F Q I r h;let(p,f,rfl,v,A,q):=h;let(u,rfl,o):=kY r;ext o;let(L,N,pl,G):=I.tuple v;let w:=N.length;rw[Vj]at w;show AR pl (n9 N) () λB J g e a y z i S m t=>?_;let b:=m.length_eq;let n:=I.kept (t':=s.toks) y;show#[.ref B.objs.size,_,n.laid i (Vy _) ?_,W,q _ a (n.WT.fresh (Vy _)) m t];show#[?_,g.toList,e,kg S,z];rw[Vj,b];let:(64:Nat)<=VF:=by decide
 ext
theorem wy:YG X (.builtin "sorted") (λxs H Q=>(∃(p:I) (a:G Int),xs=[.ref p]/\SqL X.K H p (a.map V.int)/\a.length<64/\∀(l:I) (b:G Int),H l=M->b.Perm a->b.Pairwise (·<=·)->Q (.ref l) (bE H l (.lst (b.map V.int))))\/
  (∃(p:I) (a:G Int),xs=[.ref p]/\SqT X.K H p (a.map V.int)/\a.length<64/\∀(l:I) (b:G Int),H l=M->b.Perm a->b.Pairwise (·<=·)->Q (.ref l) (bE H l (.lst (b.map V.int))))):=L2.YG.or Am ye
def iE:G D->br RV
 |[.tuple ds]=>(match qA ds with
  |some a=>if a.length<64 then R (.ow ((lA a).map .int))else M
  |none=>M)
 |ds=>yu ds
def Cm:JL K (λxs H Q=>(∃(p:I) (b:G Int),xs=[.ref p]/\SqL K H p (b.map V.int)/\b.length<64/\∀(l:I) (f:G Int),H l=M->f.Perm b->f.Pairwise (·<=·)->Q (.ref l) (bE H l (.lst (f.map V.int))))\/
  (∃(p:I) (b:G Int),xs=[.ref p]/\SqT K H p (b.map V.int)/\b.length<64/\∀(l:I) (f:G Int),H l=M->f.Perm b->f.Pairwise (·<=·)->Q (.ref l) (bE H l (.lst (f.map V.int))))) iE:=by
 intro O H xs ds v Q n h e q;unfold iE at e;split at e
 .split at e
  .rename_i b j
   split at e
   .rename_i w
    ext e;cases h with
    |cons r o=>ext o;let(a,y,rfl,i,t):=KK r;rw[rS t j]at i;show .inr #[a,b,W,i.1,w,λl f m g dI=>?_];let u:=mz (g.trans (gc b).symm) dI (fH b);subst u;show q.new (tQ _) l m
   .ext e
  .ext e
 .show .inl (vC O H xs ds v Q n h e q)
def Mq:WC "range"=R (.type "range"):=by left
end
end L9
namespace LD
open PySem PyProof.Rows L2 L3
mutual
def kd:Vo->Bool
 |.none=>Vi
 |.int _=>Vi
 |.str x=>Vo.strOk x
 |.tuple xs=>kds xs
 |_=>Vq
def kds:bg Vo->Bool
 |[]=>Vi
 |x::r=>kd x&&kds r
end
def keyD:Vo->Bool
 |.tuple xs=>kds xs&&decide ((Vo.tuple xs).depth<=8)
 |_=>Vq
mutual
theorem kd_lay:∀d:Vo,kd d=Vi->d.canLay0=Vi
 |.none,_=>rfl
 |.int _,_=>rfl
 |.str x,h=>by unfold Vo.canLay0;unfold kd at h;exact h
 |.tuple xs,h=>by unfold Vo.canLay0;unfold kd at h;exact Ed xs h
 |.bool _,h|.list _,h|.dict _,h=>by simp[kd]at h
theorem Ed:∀xs:bg Vo,kds xs=Vi->Vo.canLayAll0 xs=Vi
 |[],_=>rfl
 |x::r,h=>by unfold kds at h;rw[VZ]at h;unfold Vo.canLayAll0;rw[kd_lay x h.1,Ed r h.2];rfl
end
mutual
theorem kd_eqv:∀d e:Vo,kd d=Vi->kd e=Vi->Vo.eqv d e=Vi->d=e
 |.none,e,_,h,q=>by cases e<;>simp_all [kd,Vo.eqv]
 |.int i,e,_,h,q=>by cases e<;>simp_all [kd,Vo.eqv]
 |.str x,e,_,h,q=>by cases e<;>simp_all [kd,Vo.eqv]
 |.tuple xs,e,g,h,q=>by
  cases e with
  |tuple a=>rw[Vo.eqv]at q;unfold kd at g h;rw[kds_eqv xs a g h q]
  |_=>simp_all [kd,Vo.eqv]
 |.bool _,_,h,_,_|.list _,_,h,_,_|.dict _,_,h,_,_=>by simp[kd]at h
theorem kds_eqv:∀xs ys:bg Vo,kds xs=Vi->kds ys=Vi->Vo.eqvAll xs ys=Vi->xs=ys
 |[],[],_,_,_=>rfl
 |[],_::_,_,_,q=>by simp[Vo.eqvAll]at q
 |_::_,[],_,_,q=>by simp[Vo.eqvAll]at q
 |x::xs,y::ys,g,h,q=>by unfold kds at g h;rw[Vo.eqvAll]at q;rw[VZ]at g h q;rw[kd_eqv x y g.1 h.1 q.1,kds_eqv xs ys g.2 h.2 q.2]
end
def G5[Decidable (d=e)](hd:kd d=P)(a:kd e=P):Vo.eqv d e=decide (d=e):=by
 by_cases q:d=e
 .subst q;rw[ax W];show SeqAt.eqv_refl d (kd_lay d hd)
 .rw[aP q]
  cases z:Vo.eqv d e with
  |false=>rfl
  |true=>show a6 (kd_eqv d e hd a z) q
def keyD_kd(h:keyD d=P):kd d=P/\d.depth<=8:=by
 cases d with
 |tuple xs=>unfold keyD at h;rw[VZ]at h;show#[by ext kd;show h.1,a5 h.2]
 |_=>simp[keyD]at h
mutual
def ue(w:Wh):Vo->Int
 |.none=>reduceHash 0xFCA86420
 |.int i=>hashInt i
 |.str x=>hashStr w x
 |.tuple xs=>reduceHash (Builtin.Tuple.tupleHashOf (tI w xs))
 |_=>0
def tI(w:Wh):bg Vo->bg Int
 |[]=>[]
 |x::r=>ue w x::tI w r
end
mutual
def Tw:Vo->Nat
 |.tuple xs=>LJ xs+1
 |_=>1
def LJ:bg Vo->Nat
 |[]=>0
 |x::r=>Tw x+LJ r
end
section
variable{prog:VV}{w:Wh}{E:Vh->Vp->Prop}
mutual
theorem D7:∀(d:Vo) (v:Vh) (f:bg Vm) (A:V7) (s:Vp) (Q:Int->Vp->Prop),kd d=Vi->agU s.heap v d f->A.units+d.depth<cLine->Q (ue w d) {s with toks:=s.toks+Tw d}->wpAny (model prog w) A (pyHash v) Q E s
 |.none,_,_,A,s,Q,_,r,hu,h=>by cases r;exact aek (T:= "NoneType") rfl F.slot_NoneType_hash F.entry_NoneType_hash (F.args_NoneType_hash_1 _) (ajv _) (.inr (by ext)) (Vf (Vt (Vf (wpAny_mkInt (Vt ⟨_,_,rfl,h⟩)))))
 |.int i,_,_,A,s,Q,_,r,_,h=>by cases r;exact ajc h
 |.str x,_,_,A,s,Q,_,r,_,h=>by cases r;exact ajd h
 |.tuple xs,_,_,A,s,Q,hk,r,hu,h=>by
  cases r with
  | @tuple a o vs n _ _ h1 h2 h3 h4=>
   refine aek (T:= "tuple") ⟨_,h1,h2⟩ F.slot_tuple_hash F.entry_tuple_hash (F.args_tuple_hash_1 _) (ajv _) (.inr (by ext)) ?_;show wpAny _ _ (Builtin.Tuple.tupleItemsOf (.ref a)>>=_) _ _ s;refine Vf (wpAny_tupleItemsOf h1 h3 ?_);refine Vf ?_;rw[<-afj];unfold kd at hk;refine vk xs vs.toList _ A.in1 s #v[] _ hk h4 (by simp only[Vo.depth,V7.in1_units]at hu⊢;ext) λb e=>?_;show wpAny _ _ (retInt (Builtin.Tuple.tupleHashOf b.toList)) _ _ _;rw[e];refine Vf (wpAny_mkInt (Vt ⟨_,_,rfl,?_⟩));unfold ue Tw at h
   simpa [Zv]using h
 |.bool _,_,_,_,_,_,h,_,_,_|.list _,_,_,_,_,_,h,_,_,_|.dict _,_,_,_,_,_,h,_,_,_=>by simp[kd]at h
theorem vk:∀(xs:bg Vo) (vs:bg Vh) (g:bg Vm) (A:V7) (s:Vp) (b:Array Int) (Q:Array Int->Vp->Prop),kds xs=Vi->aer s.heap vs xs g->A.units+Vo.depthAll xs<cLine->
  (∀b':Array Int,b'.toList=b.toList++tI w xs->Q b' {s with toks:=s.toks+LJ xs})->
  wpAny (model prog w) A (forIn vs b λx r=>do let h<-pyHash x;pure PUnit.unit;pure (ForInStep.yield (r.push h))) Q E s
 |[],_,_,A,s,b,Q,_,x,_,h=>by cases x;exact Vt (h b (by simp[tI]))
 |k::xs,_,_,A,s,b,Q,hk,x,hu,h=>by
  cases x with
  |cons e a=>
   unfold kds at hk;simp only[VZ,Vo.depthAll]at hk hu;rw[aaz];refine Vf (Vf (D7 k _ _ A s _ hk.1 e (by ext) ?_));refine Vf (Vt (Vt ?_));refine vk xs _ _ A _ _ Q hk.2 a (by ext) λb' f=>?_;have:=h b' (by simp[f,tI]);unfold LJ at this
   simpa [Zv]using this
end
theorem zk:∀(n:Nat) (d:Vo) (v:B) (j:G I) (A:V7) (s:Vp) (Q:Bool->Vp->Prop),kd d=P->agU s.heap v d j->d.depth<=n->Q P s->wpAny (model prog w) A (eqIsQuiet n v) Q E s
 |n,.none,_,_,A,s,Q,_,r,_,h=>by ext r;rw[acQ _ W];show Vt h
 |n,.int i,_,_,A,s,Q,_,r,_,h=>by ext r;rw[acQ _ W];show Vt h
 |n,.str i,_,_,A,s,Q,_,r,_,h=>by ext r;rw[acQ _ W];show Vt h
 |0,.tuple xs,_,_,A,s,Q,C,r,u,h=>by simp only[Vo.depth]at u;ext
 |n+1,.tuple xs,_,_,A,s,Q,C,r,u,h=>by
  cases r with
  | @tuple a o U m _ _ h1 T S N=>
   let g:s.TypeIs (.ref a) "tuple":=#[_,h1,T];simp only[Vo.depth]at u;ext eqIsQuiet;show Vf (abm g F.slot_tuple_eq.lookup ?_);show Vf (aaT g isSubtype_tuple_tuple ?_);simp only[adJ,Yj,if_false];show Vf (Xe h1 S ?_);show Vf ?_;rw[<-afj];unfold kd at C;show wpAny_forIn_list _ (λb r e=>r.1=M/\e=s/\∃ys bs,kds ys=P/\aer s.heap b ys bs/\Vo.depthAll ys<=n) _ ?_ ?_ _ _ #[W,W,xs,_,C,N,by ext]
   .rintro v b r e ⟨f,rfl,ys,bs,q,L,J⟩
    cases L with
    | @cons _ _ y t _ _ g1 g2=>unfold kds at q;simp only[VZ,Vo.depthAll]at q J;show Vf (zk n y v _ A e _ q.1 g1 () ?_);simp only[adJ,Yj,if_false];show Vt #[W,W,t,_,q.2,g2,by ext]
   .rintro⟨p,l⟩ e ⟨f,rfl,_⟩;simp only at f;subst f;show Vt h
 |_,.bool _,_,_,_,_,_,h,_,_,_|_,.list _,_,_,_,_,_,h,_,_,_|_,.dict _,_,_,_,_,_,h,_,_,_=>by simp[kd]at h
end
mutual
theorem vY{h h':Heap}{x:Vm}{e:Obj}{es:Array Zm}{l:Nat}(f:h.get? x=lD e)(i:e.data=.dict es l)(g:Heap.SameBut x h h'):∀(d:Vo) (v:Vh) (j:bg Vm),kd d=Vi->agU h v d j->agU h' v d j
 |.none,_,_,_,r=>by cases r;exact .none
 |.int _,_,_,_,r=>by cases r;exact .int _ _
 |.str _,_,_,_,r=>by cases r;exact .str _ _
 |.tuple xs,_,_,k,r=>by
  cases r with
  | @tuple a o vs n _ _ h1 h2 h3 h4=>
   have b:a≠x:=by rintro rfl;rw[f]at h1;cases h1;rw[i]at h3;exact nomatch h3
   unfold kd at k;exact .tuple ((g.2 a b).trans h1) h2 h3 (tm f i g xs _ _ k h4)
 |.bool _,_,_,h,_|.list _,_,_,h,_|.dict _,_,_,h,_=>by simp[kd]at h
theorem tm{h h':Heap}{x:Vm}{a:Obj}{es:Array Zm}{l:Nat}(b:h.get? x=lD a)(f:a.data=.dict es l)(e:Heap.SameBut x h h'):∀(ds:bg Vo) (vs:bg Vh) (g:bg Vm),kds ds=Vi->aer h vs ds g->aer h' vs ds g
 |[],_,_,_,r=>by cases r;exact .nil
 |d::ds,_,_,k,r=>by
  cases r with
  |cons j i=>unfold kds at k;rw[VZ]at k;exact .cons (vY b f e d _ _ k.1 j) (tm b f e ds _ _ k.2 i)
end
abbrev KD:={d:Vo//keyD d=P}
noncomputable instance kdDec:DecidableEq KD:=λ_ _=>Classical.propDecidable _
def iW(prog:VV)(w:Wh):HeapKind prog w KD where
 is:=λh k a=>∃as,agU h (.ref a) k.1 as
 hash:=λk=>ue w k.1
 draws:=λk=>Tw k.1
 room:=λA=>A.units+8<cLine
 inj:=λ#[_,r] #[_,f]=>Subtype.ext (agU.unique r _ _ f).1
 keeps:=λ{h l k a d o m n} #[as,r] j hd i=>#[as,vY j hd i k.1 _ _ (keyD_kd k.2).1 r]
 pyHash:=λ{A E s k a Q} g #[as,r] q=>D7 k.1 _ as A s Q (keyD_kd k.2).1 r (by let:=(keyD_kd k.2).2;ext) q
 eqBool:=λ{A E s x y a b Q} g #[as,r] #[bs,f] q=>SeqAt.eqAt_reads x.1 y.1 A s _ _ as bs r f (kd_lay _ (keyD_kd x.2).1) (kd_lay _ (keyD_kd y.2).1) (by let:=(keyD_kd x.2).2;ext) prog w E Q (by
  haveI:Decidable (x.1=y.1):=Classical.propDecidable _
  rw[G5 (keyD_kd x.2).1 (keyD_kd y.2).1];by_cases e:x=y
  .rw[ax e]at q;rw[ax (eH Subtype.val e)];show q
  .rw[aP e]at q;rw[aP λz=>e (Subtype.ext z)];show q)
 quiet:=λ{A E s k a Q} #[as,r] q=>zk 8 k.1 _ as A s Q (keyD_kd k.2).1 r (keyD_kd k.2).2 q
def U4(a:I)(xs:G (KD×I×V))(w:Wh)(h:Heap):Prop:=
 (xs.length<=VF/\(a==XZ)=Vq/\(xs.map (·.1)).Nodup)/\∃o b f,h.get? a=R o/\o.ExactDict/\o.data=.dict b f/\Paired (λ(x:KD×I×V) (e:Zm)=>e.hash=ue w x.1.1/\e.key=.ref x.2.1/\RelV x.2.2 e.val) xs b.toList
abbrev DkO(a:I)(xs:G (KD×I×V)):HO:=.exw (U4 a xs)
abbrev PrD(O:cJ)(K:Ld)(H:Hp):G (KD×I×V)->G (D×D)->Prop:=
 Paired λx a=>x.1.1=a.1/\L3.DV O K H (.ref x.2.1) a.1/\L3.DV O K H x.2.2 a.2
end LD
namespace L10
open PySem L2 L3
inductive AV where
 |fz (d:D)
 |rf (i:Nat)
inductive SV where
 |fz (d:D)
 |rf (i:Nat)
 |tp (l:G AV)
def AV.sv:AV->SV
 |.fz d=>.fz d
 |.rf i=>.rf i
inductive Cell where
 |lst (xs:G SV)
 |dct (V1:G (db×SV))
 |obj (C:Str) (fs:G (Str×SV))
 |dd (V1:G (D×D))
 |dead
abbrev bh:=G Cell
abbrev bH:=G (br SV)
inductive RS(α:Type) where
 |ok (a:α) (Z:bh)
 |er (x:Xc) (Z:bh)
 |bad
def RS.bind(r:RS α)(f:α->bh->RS β):RS β:=match r with
 |.ok a Z=>f a Z
 |.er x Z=>.er x Z
 |.bad=>.bad
def RS.WE(Z:bh):br α->RS α
 |some a=>.ok a Z
 |none=>.bad
theorem RS.bind_ok(a:α)(Z:bh)(f:α->bh->RS β):(RS.ok a Z).bind f=f a Z:=W
abbrev fm:=@RS.bind_ok
def Lv(α:G I)(Z:bh):cJ:=λb=>∃(i:Nat) (c:Cell),α[i]?=R b/\Z[i]?=R c/\c≠Cell.dead
def ow(B:cJ)(α:G I)(Z:bh):cJ:=λb=>B b\/Lv α Z b
section
variable(O:cJ)(K:Ld)(H:Hp)(Y:bg Vm)
def AOk(v:V):AV->Prop
 |.fz d=>DV O K H v d
 |.rf i=>∃a,Y[i]?=R a/\v=.ref a
def Y5(v:V):SV->Prop
 |.fz d=>DV O K H v d
 |.rf i=>∃a,Y[i]?=R a/\v=.ref a
 |.tp l=>∃a xs,v=.ref a/\aaG O K H a xs/\Paired (AOk O K H Y) xs l
abbrev Yx:G V->G SV->Prop:=Paired (Y5 O K H Y)
def COk(a:I):Cell->Prop
 |.lst xs=>∃e,H a=R (.lst e)/\Yx O K H Y e xs
 |.dct b=>∃ws:G (db×V),H a=R (.dK ws)/\Paired (λ(p:db×V) (q:db×SV)=>p.1=q.1/\Y5 O K H Y p.2 q.2) ws b
 |.obj C fs=>∃f g ws,VH K VD C=R (R (.ref f))/\H a=R (.ins f g ws)/\Paired (λ(p:Str×V) (q:Str×SV)=>p.1=q.1/\Y5 O K H Y p.2 q.2) ws fs
 |.dd b=>∃xs,H a=R (LD.DkO a xs)/\LD.PrD O K H xs b
 |.dead=>True
def YE(a:L2.St)(b:bH):Prop:=a.length=b.length/\∀(i:Nat) (x:SV),b[i]?=R (R x)->∃v,a[i]?=R (R v)/\Y5 O K H Y v x
end
structure We(B:cJ)(K:Ld)(H:Hp)(α:G I)(Z:bh):Prop where
 len:α.length=Z.length
 nd:∀(i j:Nat) (a:I),α[i]?=R a->α[j]?=R a->i=j
 bn:∀a,B a->H a≠M
 ba:∀a,B a->∀i:Nat,α[i]?≠R a
 al:∀(i:Nat) (a:I),α[i]?=R a->H a≠M
 cel:∀(i:Nat) (a:I) (c:Cell),α[i]?=R a->Z[i]?=R c->COk (ow B α Z) K H α a c
structure Xt(α:G I)(Z:bh)(H:Hp)(α':G I)(Z':bh)(H':Hp):Prop where
 pre:∀(i:Nat) (a:I),α[i]?=R a->α'[i]?=R a
 kp:∀b o,H b=R o->¬Lv α Z b->H' b=R o
 lv:∀b,Lv α' Z' b->Lv α Z b\/H b=M
section
variable{B O R:cJ}{K:Ld}{E:XK}{H L S Q:Hp}{α Y X T:bg Vm}{Z U J N:bh}{t:L2.St}{ρ:bH}{v:V}
theorem Xt.refl:Xt α Z H α Z H:=#[λ_ _ h=>h,λ_ _ h _=>h,λ_ h=>.inl h]
def Xt.trans(a:Xt α Z H X J S)(b:Xt X J S T N Q):Xt α Z H T N Q:=by
 let e:∀b o,H b=lD o->¬Lv α Z b->¬Lv X J b:=λb o h n z=>(a.lv b z).elim n λq=>by rw[h]at q;ext q
 show#[λi p h=>b.pre i p (a.pre i p h),λp o h n=>b.kp p o (a.kp p o h n) (e p o h n),λp h=>?_];rcases b.lv p h with h|h
 .show a.lv p h
 .cases q:H p with
  |none=>show .inr W
  |some o=>show .inl (Classical.byContradiction λn=>?_);rw[a.kp p o q n]at h;ext h
theorem Xt.same(s:Xl H L):Xt α Z H α Z L:=#[λ_ _ h=>h,λb o h _=>s b o h,λ_ h=>.inl h]
theorem Xt.ev(e:Xt α Z H Y U L):Ev (ow B α Z) H (ow B Y U) L:=λb o h n=>
 #[e.kp b o h λz=>n (.inr z),λz=>z.elim (λq=>n (.inl q)) λq=>(e.lv b q).elim (λq=>n (.inr q)) λq=>by rw[h]at q;ext q]
def AOk.ev(e:Ev O H R L)(p:∀(i:Nat) (a:I),α[i]?=lD a->Y[i]?=lD a)(h:AOk O K H α v x):AOk R K L Y v x:=by
 cases x with
 |fz d=>show DV.ev e h
 |rf i=>let(a,f,b):=h;show#[a,p i a f,b]
def Y5.ev(e:Ev O H R L)(p:∀(i:Nat) (a:I),α[i]?=lD a->Y[i]?=lD a)(h:Y5 O K H α v x):Y5 R K L Y v x:=by
 cases x with
 |fz d=>show DV.ev e h
 |rf i=>let(a,f,b):=h;show#[a,p i a f,b]
 |tp l=>let(a,xs,f,b,g):=h;show#[a,xs,f,b.ev e,Paired.ZW g λ_ _ q=>q.ev e p]
theorem Y5.Ym(e:Xt α Z H Y U L)(h:Y5 (ow B α Z) K H α v x):Y5 (ow B Y U) K L Y v x:=h.ev e.ev e.pre
theorem Yx.Ym(e:Xt α Z H Y U L)(h:Yx (ow B α Z) K H α vs xs):Yx (ow B Y U) K L Y vs xs:=Paired.ZW h λ_ _ q=>q.Ym e
theorem YE.Ym(e:Xt α Z H Y U L)(h:YE (ow B α Z) K H α t ρ):YE (ow B Y U) K L Y t ρ:=#[h.1,λi x q=>let#[v,h1,a]:=h.2 i x q;#[v,h1,a.Ym e]]
def COk.ev(e:Ev O H R L)(p:∀(i:Nat) (a:I),α[i]?=lD a->Y[i]?=lD a)(d:∀o,H a=lD o->L a=lD o)(h:COk O K H α a c):COk R K L Y a c:=by
 cases c with
 |lst xs=>let(l,f,b):=h;show#[l,d _ f,Paired.ZW b λ_ _ q=>q.ev e p]
 |dct n=>let(ws,f,b):=h;show#[ws,d _ f,Paired.ZW b λ_ _ q=>#[q.1,q.2.ev e p]]
 |obj C fs=>let(j,m,ws,g,f,b):=h;show#[j,m,ws,g,d _ f,Paired.ZW b λ_ _ q=>#[q.1,q.2.ev e p]]
 |dd n=>let(xs,f,b):=h;show#[xs,d _ f,Paired.ZW b λ_ _ q=>#[q.1,q.2.1.ev e,q.2.2.ev e]]
 |dead=>trivial
theorem We.noO(s:We B K H α Z):ra (ow B α Z) H:=λa h z=>z.elim (λq=>s.bn a q h) λ#[i,c,q,_]=>s.al i a q h
theorem We.owd(s:We B K H α Z):∀a,ow B α Z a->H a≠M:=λa z h=>s.noO a h z
def We.grow(s:We B K H α Z)(e:Xl H L):We B K L α Z:=by let n:∀a,H a≠M->L a≠M:=λa h z=>h (e.free z);show#[s.len,s.nd,λa h=>n a (s.bn a h),s.ba,λi a h=>n a (s.al i a h),λi a c f b=>(s.cel i a c f b).ev (Ev.grow e) (λ_ _ h=>h) λo h=>e _ _ h]
def We.at(s:We B K H α Z){i:Nat}(h:Z[i]?=lD c):∃a,α[i]?=lD a:=by let:i<Z.length:=(Vk.mp h).1;rw[<-s.len]at this;show#[_,Vv this]
theorem We.ahg(s:We B K H α Z){i:Nat}(h:α[i]?=lD a):¬B a:=λz=>s.ba a z i h
def AU{i:Nat}{c m:Cell}(h:Z[i]?=lD c)(n:c≠.dead)(g:m≠.dead){b:I}:Lv α (Z.set i m) b↔Lv α Z b:=by
 constructor
 .rintro⟨j,d,f,a,l⟩
  rcases cS a with⟨rfl,rfl⟩|⟨_,a⟩
  .show#[j,c,f,h,n]
  .show#[j,d,f,a,l]
 .rintro⟨j,d,f,a,l⟩
  by_cases e:j=i
  .subst e;show#[j,m,f,by rw[W4 (Vk.mp h).1],g]
  .show#[j,d,f,by rw[Wm (λz=>e z.symm)];show a,l]
def QU(h:Z[i]?=lD c)(e:c≠.dead)(a:o≠.dead):ow B α (Z.set i o)=ow B α Z:=by funext b;show propext #[λz=>z.imp id (AU h e a).mp,λz=>z.imp id (AU h e a).mpr]
theorem Xt.put(d:α[i]?=lD a)(h:Z[i]?=lD c)(g:c≠.dead)(f:c'≠.dead):Xt α Z H α (Z.set i c') (bE H a o):=
 #[λ_ _ h=>h,λb j q n=>by let z:b≠a:=λe=>n #[i,c,by rw[e];show d,h,g];rw[aG z];show q,λb z=>.inl ((AU h g f).mp z)]
def We.put(s:We B K H α Z)(k:α[i]?=lD a)(h:Z[i]?=lD c)(p:c≠.dead)(f:c'≠.dead)(new:COk (ow B α Z) K (bE H a o) α a c'):We B K (bE H a o) α (Z.set i c'):=by
 let e:Xt α Z H α (Z.set i c') (bE H a o):=Xt.put k h p f;let n:∀b,H b≠M->bE H a o b≠M:=λb h=>by
  by_cases z:b=a
  .subst z;rw[aJ];simp
  .rw[aG z];show h
 show#[by rw[WU];show s.len,s.nd,λb h=>n b (s.bn b h),s.ba,λj b h=>n b (s.al j b h),λj b d g m=>?_];rcases cS m with⟨rfl,rfl⟩|⟨l,m⟩
 .rw[k]at g;ext g;rw[QU h p f];show new
 .show(s.cel j b d g m).ev e.ev e.pre λu q=>by rw[aG (λz=>l (s.nd j i a (by rw[<-z];show g) k))];show q
theorem sK{i:Nat}{a:I}{c:Cell}{o:HO}(d:α[i]?=lD a)(h:Z[i]?=lD c)(b:c≠.dead):Ev (ow B α Z) H (ow B α Z) (bE H a o):=Ev.mut (.inr #[i,c,d,h,b]) o
def cP{α:Type}{l:G α}{x y:α}{i:Nat}(h:(l++[x])[i]?=lD y):l[i]?=lD y\/(i=l.length/\y=x):=by
 by_cases hi:i<l.length
 .rw[VN hi]at h;show .inl h
 .rw[V5 ()]at h
  cases q:i - l.length with
  |zero=>rw[q]at h;ext h;show .inr #[by ext,W]
  |succ n=>rw[q]at h;ext h
def jc{α:Type}{l:G α}{x y:α}{i:Nat}(h:l[i]?=lD y):(l++[x])[i]?=lD y:=by rw[VN (Vk.mp h).1];show h
def bc:(l++[x])[l.length]?=lD x:=by simp
def wN(g:α.length=Z.length)(h:Lv (α++[p]) (Z++[c]) b):Lv α Z b\/b=p:=by
 let(i,d,a,e,f):=h;rcases cP a with a|⟨l,j⟩
 .rcases cP e with e|⟨l,j⟩
  .show .inl #[i,d,a,e,f]
  .let:=(Vk.mp a).1;ext
 .show .inr j
theorem Xt.acU(g:α.length=Z.length)(s:Xl H L)(f:H p=M):Xt α Z H (α++[p]) (Z++[c]) L:=
 #[λi a h=>jc h,λb u q _=>s b u q,λb z=>(wN g z).imp id λe=>by rw[e];show f]
def We.acU(s:We B K H α Z)(e:Xl H L)(l:H p=M)(m:L p≠M)(new:COk (ow B (α++[p]) (Z++[c])) K L (α++[p]) p c):We B K L (α++[p]) (Z++[c]):=by
 let ev:Xt α Z H (α++[p]) (Z++[c]) L:=Xt.acU s.len e l;let n:∀b,H b≠M->L b≠M:=λb h z=>h (e.free z);show#[by rw[Vs,Vs,s.len];rfl,λi j a f g=>?_,λa h=>n a (s.bn a h),λa h i q=>?_,λi a h=>?_,λi a d f g=>?_]
 .rcases cP f with g1|⟨y,r⟩<;>rcases cP g with g2|⟨u,A⟩
  .show s.nd i j a g1 g2
  .show a6 (by rw[A];show l) (s.al i a g1)
  .show a6 (by rw[r];show l) (s.al j a g2)
  .omega
 .rcases cP q with q|⟨_,r⟩
  .show s.ba a h i q
  .subst r;show s.bn a h l
 .rcases cP h with h|⟨_,r⟩
  .show n a (s.al i a h)
  .subst r;show m
 .rcases cP g with g|⟨y,r⟩
  .rcases cP f with f|⟨y,_⟩
   .show(s.cel i a d f g).ev ev.ev ev.pre λo q=>e _ _ q
   .let:=(Vk.mp g).1;let:=s.len;ext
  .rcases cP f with f|⟨_,u⟩
   .let:=(Vk.mp f).1;let:=s.len;ext
   .subst r u;show new
def WS(K:Ld)(E:XK)(B:cJ)(H:Hp)(α:G I)(Z:bh)(P:A->G I->bh->Hp->Prop):RS A->Prop
 |.ok a U=>∀Y L,Xt α Z H Y U L->We B K L Y U->P a Y U L
 |.er x U=>∀c b Y L,Xt α Z H Y U L->We B K L Y U->XOk K (ow B Y U) L c b x->E c b L
 |.bad=>False
def WS.from(e:Xt α Z H X J S)(h:WS K E B H α Z g r):WS K E B S X J g r:=by
 cases r with
 |ok a N=>show λT Q f b=>h T Q (e.trans f) b
 |er x N=>show λc i T Q f b=>h c i T Q (e.trans f) b
 |bad=>show h
def WS.bind(h:WS K E B H α Z e (r.bind k)):WS K E B H α Z (λa X J S=>WS K E B S X J e (k a J)) r:=by
 cases r with
 |ok a J=>show λX S b _=>WS.from b h
 |er x J=>show h
 |bad=>show h
def WS.WE(h:WS K E B H α Z b ((RS.WE Z o).bind k)):∃a,o=lD a/\WS K E B H α Z b (k a Z):=by
 cases o with
 |none=>show h.elim
 |some a=>show#[a,W,h]
def WS.imp(h:WS K E B H α Z f r)(g:∀a Y U L,Xt α Z H Y U L->We B K L Y U->f a Y U L->P' a Y U L):WS K E B H α Z P' r:=by
 cases r with
 |ok a J=>show λX S e b=>g a X J S e b (h X S e b)
 |er x J=>show h
 |bad=>show h
theorem WS.now(s:We B K H α Z)(h:WS K E B H α Z b (.ok a Z)):b a α Z H:=h α H .refl s
end
abbrev dY:=bH->bh->RS SV
abbrev vd:=bH->bh->RS Bool
abbrev sS:=bH->bh->RS (G SV)
def dg(K:Ld)(E:XK)(t:TE)(f:dY):Prop:=
 ∀(B:cJ) (b:L2.St) (H:Hp) (α:G I) (Z:bh) (h:bH) (Q:VK),We B K H α Z->YE (ow B α Z) K H α b h->WS K E B H α Z (λx a g e=>∀v,Y5 (ow B a g) K e a v x->Q v e) (f h Z)->t b H Q
def u6(K:Ld)(E:XK)(t:TT)(f:vd):Prop:=
 ∀(B:cJ) (a:L2.St) (H:Hp) (α:G I) (Z:bh) (g:bH) (Q:Bool->Hp->Prop),We B K H α Z->YE (ow B α Z) K H α a g->WS K E B H α Z (λb _ _ e=>Q b e) (f g Z)->t a H Q
def uQ(K:Ld)(E:XK)(t:TA)(f:sS):Prop:=
 ∀(B:cJ) (b:L2.St) (H:Hp) (α:G I) (Z:bh) (h:bH) (Q:G V->Hp->Prop),We B K H α Z->YE (ow B α Z) K H α b h->WS K E B H α Z (λxs a g e=>∀i,Yx (ow B a g) K e a i xs->Q i e) (f h Z)->t b H Q
section
variable{B O N:cJ}{K:Ld}{E:XK}{H H' U H2:Hp}{α P Y M:bg Vm}{Z Z' Z1 T:bh}{X:L2.St}{ρ:bH}{v:V}
def OJ:br SV->br PV
 |some (.fz d)=>R (.fz d)
 |_=>Vg
def cj(ρ:bH):bx:=ρ.map OJ
def vZ{i:Nat}(h:(cj ρ)[i]?=R (R x)):∃d,x=.fz d/\ρ[i]?=R (R (.fz d)):=by
 unfold cj at h;rw[Vx]at h;cases q:ρ[i]? with
 |none=>rw[q]at h;ext h
 |some o=>
  rw[q]at h;let a:=VR h;unfold OJ at a;split at a
  .ext a;show#[_,W,W]
  .ext a
def IP(s:We B K H α Z)(a:YE (ow B α Z) K H α X ρ):Rl K (ow B α Z) H (ow B α Z) X H (cj ρ):=by
 show#[Xl.refl _,λ_ h=>h,s.owd,s.noO,by ext cj;rw[Vj];show a.1,λi x h=>?_,λi j ds l w h=>?_]
 .let(d,rfl,b):=vZ h;let(v,g,f):=a.2 i _ b;show#[v,g,f]
 .let(d,e,_):=vZ h;ext e
def lZ(Z:bh):RV->RS SV
 |.fz d=>.ok (.fz d) Z
 |.ow ds=>.ok (.rf Z.length) (Z++[.lst (ds.map .fz)])
abbrev PQ(B:cJ)(K:Ld)(Q:VK):SV->G I->bh->Hp->Prop:=λx P Z' H'=>∀v,Y5 (ow B P Z') K H' P v x->Q v H'
theorem mf(O:cJ)(α:G I):∀{a:G V} {ds:G D},Xn O K H a ds->Yx O K H α a (ds.map .fz)
 |_,_,.nil=>.nil
 |_,_,.cons h t=>.cons h (mf O α t)
theorem Ja:∀{a:G V} {ds:G D},Yx O K H α a (ds.map .fz)->Xn O K H a ds
 |_,[],.nil=>.nil
 |_,_::_,.cons h t=>.cons h (Ja t)
def uH(s:We B K H α Z)(w:WS K E B H α Z (PQ B K Q) (lZ Z (.ow ds)))(e:Xl H H')(a:H p=Vg)(h:H' p=R (.lst o))(hd:Xn N K H' o ds)(f:∀b,ow B α Z b->N b)(g:N p):Q (.ref p) H':=by
 let sub:∀b,ow B (α++[p]) (Z++[.lst (ds.map .fz)]) b->N b:=λb z=>z.elim (λq=>f b (.inl q)) λq=>(wN s.len q).elim (λq=>f b (.inr q)) λq=>by rw[q];show g
 show w (α++[p]) H' (Xt.acU s.len e a) (s.acU e a (by rw[h];simp) #[o,h,mf _ _ (hd.ev (Ev.sub sub))]) (.ref p) #[p,by rw[<-s.len];show bc,W]
def Jc(s:We B K H α Z)(w:WS K E B H α Z (PQ B K Q) (lZ Z o)):Fin (ow B α Z) K H Q o:=by
 cases o with
 |fz d=>show λv H' e a=>w α H' (Xt.same e) (s.grow e) v a
 |ow ds=>show λp g H' e f h a=>uH s w e f h a (λb z=>.inl z) (.inr W)
def ah(f:FE):dY:=λρ Z=>match f (cj ρ)with
 |.ok (.fz d,_)=>.ok (.fz d) Z
 |.ok (.ow ds,_)=>lZ Z (.ow ds)
 |.ok (.pl _,_)=>.bad
 |.er x=>.er x Z
 |.bad=>.bad
def az(h:EO K E t f):dg K E t (ah f):=by
 intro B X H α Z ρ Q s g w;show h (ow B α Z) H (ow B α Z) X H (cj ρ) Q (IP s g) ?_;unfold ah at w;cases q:f (cj ρ)with
 |bad=>rw[q]at w;show w.elim
 |er x=>rw[q]at w;show λc u H' e k=>w c u α H' (Xt.same e) (s.grow e) k
 |ok r=>
  let(pv,b):=r;rw[q]at w;intro N v H' e R p;cases pv with
  |fz d=>show w α H' (Xt.same R.same) (s.grow R.same) v (DV.ev (Ev.sub R.bo) p)
  |ow ds=>let(a,y,rfl,n,m,l,j,o):=p;show uH s w R.same m l j R.bo n
  |pl i=>show w.elim
def bN(f:FT):vd:=λρ Z=>match f (cj ρ)with
 |.ok (b,_)=>.ok b Z
 |.er x=>.er x Z
 |.bad=>.bad
def lC(h:TTO K E t f):u6 K E t (bN f):=by
 intro B X H α Z ρ Q s g w;show h (ow B α Z) H (ow B α Z) X H (cj ρ) Q (IP s g) ?_;unfold bN at w;cases q:f (cj ρ)with
 |bad=>rw[q]at w;show w.elim
 |er x=>rw[q]at w;show λc i H' e k=>w c i α H' (Xt.same e) (s.grow e) k
 |ok r=>let(b,a):=r;rw[q]at w;show λN H' e R=>w α H' (Xt.same R.same) (s.grow R.same)
def aC(i:Nat):dY:=λρ Z=>match ρ[i]? with
 |some (R x)=>.ok x Z
 |_=>.bad
def aY:dg K E (qG i) (aC i):=by
 intro B X H α Z ρ Q s a w;unfold aC at w;cases q:ρ[i]? with
 |none=>rw[q]at w;show w.elim
 |some o=>
  cases o with
  |none=>rw[q]at w;show w.elim
  |some x=>rw[q]at w;let(v,e,b):=a.2 i x q;show#[v,e,WS.now s w v b]
def gI(K:Ld)(C:Str)(fs:G Str):Prop:=∃a,VH K VD C=R (R (.ref a))/\Cls K a/\∀f∈fs,ZV K a f
def bC(C f:Str)(e:dY):dY:=λρ Z=>(e ρ Z).bind λx Z1=>match x with
 |.rf i=>(match Z1[i]? with
  |some (.obj D fs)=>if D=C then RS.WE Z1 (fs.lookup f)else .bad
  |_=>.bad)
 |_=>.bad
theorem vR:∀{ws:G (Str×V)} {fs:G (Str×SV)},Paired (λ(p:Str×V) (q:Str×SV)=>p.1=q.1/\Y5 O K H α p.2 q.2) ws fs->fs.lookup f=R x->∃v,ws.lookup f=R v/\Y5 O K H α v x
 |_,_,.nil,h=>by ext h
 |(a,v)::ws,(b,y)::fs,.cons #[h1,e] t,h=>by
  ext h1;rw[VU]at h⊢;split at h
  .ext h;show#[v,W,e]
  .show vR t h
theorem vL:∀{ws:G (Str×V)} {fs:G (Str×SV)},Paired (λ(p:Str×V) (q:Str×SV)=>p.1=q.1/\Y5 O K H α p.2 q.2) ws fs->fs.lookup f=Vg->ws.lookup f=Vg
 |_,_,.nil,h=>rfl
 |(a,v)::ws,(b,y)::fs,.cons #[h1,e] t,h=>by
  ext h1;rw[VU]at h⊢;split at h
  .ext h
  .show vL t h
def cF(p:gI K C L)(o:f∈L)(k:dg K E ta fa):dg K E (QG K ta f) (bC C f fa):=by
 intro B X H α Z ρ Q s j w;show k B X H α Z ρ _ s j (w.bind.imp λx Y Z1 U I e b v m=>?_);cases x with
 |fz d=>show b.elim
 |tp l=>show b.elim
 |rf i=>
  let(a,k,rfl):=m;dsimp only at b;cases q:Z1[i]? with
  |none=>rw[q]at b;show b.elim
  |some c=>
   rw[q]at b;cases c with
   |obj D fs=>
    dsimp only at b;by_cases z:D=C
    .subst z
     rw[ag W]at b;let(G,dx,ws,y,t,r):=e.cel i a _ k q;cases S:fs.lookup f with
     |none=>rw[S]at b;show b.elim
     |some x=>rw[S]at b;let(u,n,h):=vR r S;let(J,g,F,A):=p;rw[y]at g;ext g;show#[a,G,dx,ws,u,W,t,F,A f o,n,WS.now e b u h]
    .rw[av z]at b;show b.elim
   |_=>show b.elim
def a8{α a:Type}(f:α->br a):G α->br (G a)
 |[]=>R []
 |x::r=>match f x with
  |some y=>(match a8 f r with
   |some b=>R (y::b)
   |none=>Vg)
  |none=>Vg
def F9:Nat->bh->SV->br D
 |_,_,.fz d=>R d
 |0,_,_=>Vg
 |n+1,Z,.rf i=>match Z[i]? with
  |some (.lst xs)=>(a8 (F9 n Z) xs).map .list
  |_=>Vg
 |n+1,Z,.tp l=>(a8 (λx=>F9 n Z x.sv) l).map .tuple
theorem dQ{α a:Type}{f:α->br a}{R:V->α->Prop}{S:V->a->Prop}(h:∀v x y,R v x->f x=lD y->S v y):∀{c:G V} {xs:G α} {g:G a},Paired R c xs->a8 f xs=lD g->Paired S c g
 |_,_,_,.nil,e=>by ext e;show .nil
 |_,_,_,.cons (b:=x) (l₂:=xs) r t,e=>by
  unfold a8 at e;cases q:f x with
  |none=>rw[q]at e;ext e
  |some y=>
   rw[q]at e;dsimp only at e;cases i:a8 f xs with
   |none=>rw[i]at e;ext e
   |some g=>rw[i]at e;ext e;show .cons (h _ _ _ r q) (dQ h t i)
theorem lj:∀{a:G V} {ds:G D},Paired (DV O K H) a ds->Xn O K H a ds
 |_,_,.nil=>.nil
 |_,_,.cons h t=>.cons h (lj t)
theorem Oc:Ev O H noO H:=Ev.sub λ_ z=>z.elim
theorem mJ(s:We B K H α Z):∀(n:Nat) {v:V} {x:SV} {d:D},Y5 (ow B α Z) K H α v x->F9 n Z x=lD d->DV noO K H v d
 |n,v,.fz o,d,h,e=>by
  let g:lD o=lD d:=by ext n<;>show e
  ext g;show DV.ev Oc h
 |0,v,.rf i,d,h,e=>by ext e
 |0,v,.tp l,d,h,e=>by ext e
 |n+1,v,.rf i,d,h,e=>by
  let(a,m,rfl):=h;unfold F9 at e;cases q:Z[i]? with
  |none=>rw[q]at e;ext e
  |some c=>
   rw[q]at e;cases c with
   |lst xs=>
    dsimp only at e;cases j:a8 (F9 n Z) xs with
    |none=>rw[j]at e;ext e
    |some ds=>rw[j]at e;ext e;let(p,f,b):=s.cel i a _ m q;show .lst #[ZN.of f,λz=>z.elim] (lj (dQ (R:=Y5 (ow B α Z) K H α) (λv x y r e=>mJ s n r e) b j))
   |_=>ext e
 |n+1,v,.tp l,d,h,e=>by
  let(a,xs,rfl,f,b):=h;unfold F9 at e;cases j:a8 (λx=>F9 n Z x.sv) l with
  |none=>rw[j]at e;ext e
  |some ds=>rw[j]at e;ext e;show .tup (f.ev Oc) (lj (dQ (λv x y r e=>mJ s n (by ext x<;>show r) e) b j))
def zK:SV->br D
 |.fz d=>R d
 |_=>Vg
def sh(Z:bh):SV->br D
 |.fz d=>R d
 |.rf i=>match Z[i]? with
  |some (.lst xs)=>(a8 zK xs).map .list
  |_=>Vg
 |.tp _=>Vg
def Jz(s:We B K H α Z)(h:Y5 (ow B α Z) K H α v x)(e:sh Z x=R d):DX (ow B α Z) K H v d:=by
 cases x with
 |fz g=>ext e;show DV.x h
 |tp l=>ext e
 |rf i=>
  let(a,n,rfl):=h;unfold sh at e;dsimp only at e;cases q:Z[i]? with
  |none=>rw[q]at e;ext e
  |some c=>
   rw[q]at e;cases c with
   |lst xs=>
    dsimp only at e;cases j:a8 zK xs with
    |none=>rw[j]at e;ext e
    |some ds=>
     rw[j]at e;ext e;let(m,f,b):=s.cel i a _ n q;show#[a,m,W,ZN.of f,lj (dQ (λv x y r e=>?_) b j)];cases x with
     |fz d=>ext e;show r
     |rf i=>ext e
     |tp l=>ext e
   |_=>ext e
def wR:D->Bool
 |.none=>Vi
 |.bool _=>Vi
 |.int _=>Vi
 |.str _=>Vi
 |_=>Vq
def Nt(h:wR d=Vi)(a:DV O K H v d):DV N K H' v d:=by
 cases a with
 |Xo=>show .Xo
 |bl b=>show .bl b
 |int i=>show .int i
 |str x=>show .str x
 |tup _ _=>ext h
 |lst _ _=>ext h
def zQ(Z:bh):RV->RS SV
 |.fz d=>if wR d=Vi then .ok (.fz d) Z else .bad
 |.ow _=>.bad
def IK(s:We B K H α Z)(w:WS K E B H α Z (PQ B K Q) (zQ Z o)):Fin noO K H Q o:=by
 cases o with
 |fz d=>
  let w:WS K E B H α Z (PQ B K Q) (if wR d=Vi then RS.ok (SV.fz d) Z else RS.bad):=w;by_cases z:wR d=Vi
  .rw[ag z]at w;show λv H' e a=>w α H' (Xt.same e) (s.grow e) v (Nt z a)
  .rw[av z]at w;show w.elim
 |ow ds=>show w.elim
theorem GJ:ra noO H:=λ_ _ z=>z
def qp(f:D->D->br RV)(x y:SV)(Z:bh):RS SV:=match sh Z x,sh Z y with
 |some g,R a=>(RS.WE Z (f g a)).bind λe Z1=>lZ Z1 e
 |_,_=>(RS.WE Z (F9 6 Z x)).bind λg Z1=>(RS.WE Z1 (F9 6 Z1 y)).bind λa T=>(RS.WE T (f g a)).bind λe b=>zQ b e
def BC(n:oA K r f)(s:We B K H α Z)(m:Y5 (ow B α Z) K H α x a)(l:Y5 (ow B α Z) K H α y b)(w:WS K E B H α Z (PQ B K Q) (qp f a b Z)):r x y H Q:=by
 let e:WS K E B H α Z (PQ B K Q) ((RS.WE Z (F9 6 Z a)).bind λq Z1=>(RS.WE Z1 (F9 6 Z1 b)).bind λi T=>(RS.WE T (f q i)).bind λp o=>zQ o p)->r x y H Q:=λw=>by let(q,g,w):=w.WE;let(i,h,w):=w.WE;let(p,j,w):=w.WE;show n noO H x y q i p Q GJ (DV.x (mJ s 6 m g)) (DV.x (mJ s 6 l h)) j (IK s w)
 unfold qp at w;cases g:sh Z a with
 |none=>rw[g]at w;show e w
 |some q=>
  cases h:sh Z b with
  |none=>rw[g,h]at w;show e w
  |some i=>rw[g,h]at w;let(p,j,w):=w.WE;show n _ H x y q i p Q s.noO (Jz s m g) (Jz s l h) j (Jc s w)
def k7(f:D->D->br RV)(a fb:dY):dY:=λρ Z=>(a ρ Z).bind λx Z1=>(fb ρ Z1).bind λy T=>qp f x y T
def ii(l:oA K r f)(c:dg K E J fa)(m:dg K E C fb):dg K E (OZ r J C) (k7 f fa fb):=by intro B X H α Z ρ Q s a w;show c B X H α Z ρ _ s a (w.bind.imp λx Y Z1 U o h e v i=>?_);show m B X U Y Z1 ρ _ h (a.Ym o) (e.bind.imp λy M T H2 n g b u j=>?_);show BC l g (i.Ym n) j b
def LM:SV->br Bool
 |.fz (.bool b)=>R b
 |_=>Vg
def K2(e:LM x=R b)(h:Y5 O K H α v x):v=.bl b:=by
 unfold LM at e;split at e
 .ext e;ext h;rfl
 .ext e
def b8(a:dY):vd:=λρ Z=>(a ρ Z).bind λx Z1=>RS.WE Z1 (LM x)
def jf(c:dg K E o C):u6 K E (CH o) (b8 C):=by
 intro B X H α Z ρ Q s e w;show c B X H α Z ρ _ s e (w.bind.imp λx Y Z1 U h f a v g=>?_);cases q:LM x with
 |none=>rw[q]at a;show a.elim
 |some b=>rw[q]at a;show#[b,K2 q g,WS.now f a]
theorem Oa(a:dg K E o C):u6 K E (tB o) (b8 C):=jf a
def oJ(a fb:vd):vd:=λρ Z=>(a ρ Z).bind λb Z1=>if b=Vi then fb ρ Z1 else .ok Vq Z1
def FD(a fb:vd):vd:=λρ Z=>(a ρ Z).bind λb Z1=>if b=Vi then .ok Vi Z1 else fb ρ Z1
def yJ(a:vd):vd:=λρ Z=>(a ρ Z).bind λb Z1=>.ok (!b) Z1
def My(j:u6 K E t f)(i:u6 K E u g):u6 K E (QD t u) (oJ f g):=by
 intro B X H α Z ρ Q s e w;show j B X H α Z ρ _ s e (w.bind.imp λb Y Z1 U l h a=>?_);cases b with
 |true=>show i B X U Y Z1 ρ Q h (e.Ym l) a
 |false=>show WS.now h a
def Qa(j:u6 K E t f)(i:u6 K E u g):u6 K E (TF t u) (FD f g):=by
 intro B X H α Z ρ Q s e w;show j B X H α Z ρ _ s e (w.bind.imp λb Y Z1 U l h a=>?_);cases b with
 |true=>show WS.now h a
 |false=>show i B X U Y Z1 ρ Q h (e.Ym l) a
def Nb(h:u6 K E t f):u6 K E (Px t) (yJ f):=by intro B X H α Z ρ Q s e w;show h B X H α Z ρ _ s e (w.bind.imp λb Y Z1 U i g a=>WS.now g a)
def g6:vd:=λ_ Z=>.ok Vi Z
theorem km:u6 K E GC g6:=λB X H α Z ρ Q s a w=>WS.now s w
def zt(a fb:dY):dY:=λρ Z=>(b8 a ρ Z).bind λb Z1=>if b=Vi then fb ρ Z1 else .ok (.fz (.bool Vq)) Z1
def rQ(d:dg K E C J)(g:dg K E o fb):dg K E (Da C o) (zt J fb):=by
 intro B X H α Z ρ Q s e w;show jf d B X H α Z ρ (λc U=>if c=Vi then o X U Q else Q (.bl Vq) U) s e (w.bind.imp λb Y Z1 U h f a=>?_);cases b with
 |true=>show g B X U Y Z1 ρ Q f (e.Ym h) a
 |false=>show WS.now f a _ (.bl Vq)
def Rs(c:vd)(a fb:dY):dY:=λρ Z=>(c ρ Z).bind λb Z1=>if b=Vi then a ρ Z1 else fb ρ Z1
def P1(h:u6 K E t c)(d:dg K E C J)(i:dg K E o fb):dg K E (Uj t C o) (Rs c J fb):=by
 intro B X H α Z ρ Q s a w;show h B X H α Z ρ _ s a (w.bind.imp λb Y Z1 U g f e=>?_);cases b with
 |true=>show d B X U Y Z1 ρ Q f (a.Ym g) e
 |false=>show i B X U Y Z1 ρ Q f (a.Ym g) e
def aV:sS:=λ_ Z=>.ok [] Z
def aq(b:dY)(a:sS):sS:=λρ Z=>(b ρ Z).bind λx Z1=>(a ρ Z1).bind λxs T=>.ok (x::xs) T
theorem bw:uQ K E kQ aV:=λB X H α Z ρ Q s a w=>WS.now s w [] .nil
def aD(c:dg K E o C)(j:uQ K E tr fr):uQ K E (fU o tr) (aq C fr):=by intro B X H α Z ρ Q s b w;show c B X H α Z ρ _ s b (w.bind.imp λx Y Z1 U m h f v i=>?_);show j B X U Y Z1 ρ _ h (b.Ym m) (f.bind.imp λxs M T H2 l g e n a=>?_);show WS.now g e (v::n) (.cons (i.Ym l) a)
def TW:SV->br AV
 |.fz d=>R (.fz d)
 |.rf i=>R (.rf i)
 |.tp _=>Vg
def TK(xs:G SV):br SV:=match a8 zK xs with
 |some ds=>R (.fz (.tuple ds))
 |none=>(a8 TW xs).map .tp
def mY(a:sS):dY:=λρ Z=>(a ρ Z).bind λxs Z1=>if xs.length<=1000 then RS.WE Z1 (TK xs)else .bad
def A1(r:Y5 O K H α v x)(e:zK x=R d):DV O K H v d:=by
 cases x with
 |fz d=>ext e;show r
 |rf i=>ext e
 |tp l=>ext e
def Qk(r:Y5 O K H α v x)(e:TW x=R d):AOk O K H α v d:=by
 cases x with
 |fz d=>ext e;show r
 |rf i=>ext e;show r
 |tp l=>ext e
def mG(c:uQ K E C J):dg K E (NV C) (mY J):=by
 intro B X H α Z ρ Q s m w;show c B X H α Z ρ _ s m (w.bind.imp λxs Y Z1 U n f a o g=>?_);by_cases hn:xs.length<=1000
 .rw[ag hn]at a
  show#[by rw[g.length];show wI hn,λp j=>?_];let b:Xl U (bE U p (.tup o)):=bq j _;let e:Xt Y Z1 U Y Z1 (bE U p (.tup o)):=Xt.same b;let i:aaG (ow B Y Z1) K (bE U p (.tup o)) p o:=#[SqT.of aJ,λz=>a6 z (f.noO p j)];unfold TK at a;cases q:a8 zK xs with
  |some ds=>rw[q]at a;show a Y _ e (f.grow b) _ (.tup i (lj (dQ (R:=Y5 (ow B Y Z1) K U Y) (λv x y r h=>(A1 r h).ev e.ev) g q)))
  |none=>
   rw[q]at a;dsimp only at a;cases t:a8 TW xs with
   |none=>rw[t]at a;show a.elim
   |some l=>rw[t]at a;show a Y _ e (f.grow b) _ #[p,o,W,i,dQ (R:=Y5 (ow B Y Z1) K U Y) (λv x y r h=>(Qk r h).ev e.ev e.pre) g t]
 .rw[av hn]at a;show a.elim
def uT(f:G D->br RV)(xs:G SV)(Z:bh):RS SV:=match a8 (sh Z) xs with
 |some ds=>(RS.WE Z (f ds)).bind λb Z1=>lZ Z1 b
 |_=>(RS.WE Z (a8 (F9 6 Z) xs)).bind λds Z1=>(RS.WE Z1 (f ds)).bind λb a=>zQ a b
def rR(f:G D->br RV)(a:sS):dY:=λρ Z=>(a ρ Z).bind λxs Z1=>uT f xs Z1
def iq(i:JL K r f)(c:uQ K E C J):dg K E (Gb r C) (rR f J):=by
 intro B X H α Z ρ Q s j w;show c B X H α Z ρ _ s j (w.bind.imp λxs Y Z1 U m b a p h=>?_);unfold uT at a;cases o:a8 (sh Z1) xs with
 |none=>rw[o]at a;let(ds,l,a):=a.WE;let(n,g,a):=a.WE;show i noO U p ds n Q GJ (dQ (R:=Y5 (ow B Y Z1) K U Y) (λv x y r e=>DV.x (mJ b 6 r e)) h l) g (IK b a)
 |some ds=>rw[o]at a;let(n,g,a):=a.WE;show i _ U p ds n Q b.noO (dQ (R:=Y5 (ow B Y Z1) K U Y) (λv x y r e=>Jz b r e) h o) g (Jc b a)
end
section
variable{B O O':cJ}{K:Ld}{E:XK}{H H' N M:Hp}{α L Y X:bg Vm}{Z S Z1 U:bh}{T:L2.St}{ρ:bH}{v:V}
theorem BT:∀{c:G V} {xs:G β} {i:Nat} {x:β},Paired f c xs->xs[i]?=lD x->∃v,c[i]?=lD v/\f v x
 |_,_,_,_,.nil,e=>by simp at e
 |_,_,0,_,.cons h _,e=>by simp at e;subst e;show#[_,W,h]
 |_,_,i+1,x,.cons _ t,e=>by let(v,b,a):=BT t (by simpa using e);show#[v,by simpa using b,a]
def OI{b:G V}(h:Paired a b xs)(e:nj xs i=lD x):∃v,nj b i=lD v/\a v x:=by
 unfold nj at e⊢;rw[h.length];cases q:Od xs.length i with
 |none=>rw[q]at e;ext e
 |some j=>rw[q]at e;show BT h e
def Gg:SV->br Int
 |.fz (.int i)=>R i
 |_=>Vg
def DQ(e:Gg x=R i)(h:Y5 O K H α v x):v=.int i:=by
 unfold Gg at e;split at e
 .ext e;ext h;rfl
 .ext e
def KR(x y:SV)(Z:bh):RS SV:=match x with
 |.fz _=>qp bv x y Z
 |.rf j=>(match Z[j]? with
  |some (.lst xs)=>(RS.WE Z (Gg y)).bind λi Z1=>RS.WE Z1 (nj xs i)
  |_=>.bad)
 |.tp l=>(RS.WE Z (Gg y)).bind λi Z1=>RS.WE Z1 ((nj l i).map AV.sv)
def jU(a fb:dY):dY:=λρ Z=>(a ρ Z).bind λx Z1=>(fb ρ Z1).bind λy U=>KR x y U
def lz(k:dg K E ta fa)(C:dg K E tb fb):dg K E (OZ (Tz K) ta tb) (jU fa fb):=by
 intro B T H α Z ρ Q s r w;show k B T H α Z ρ _ s r (w.bind.imp λx Y Z1 N G A t v e=>?_);show C B T N Y Z1 ρ _ A (r.Ym G) (t.bind.imp λy X U M F f b u n=>?_);let e:=e.Ym F;unfold KR at b;cases x with
 |fz d=>show BC cb f e n b
 |rf j=>
  let(a,k,rfl):=e;dsimp only at b;cases q:U[j]? with
  |none=>rw[q]at b;show b.elim
  |some c=>
   rw[q]at b;cases c with
   |lst xs=>
    let(i,h,b):=WS.WE b;cases J:nj xs i with
    |none=>rw[J]at b;show b.elim
    |some x=>rw[J]at b;let(vs,p,o):=f.cel j a _ k q;let(z,m,g):=OI o J;show .inl #[a,vs,i,z,W,DQ h n,SqL.of p,m,WS.now f b z g]
   |_=>show b.elim
 |tp l=>
  let(a,xs,rfl,p,o):=e;let(i,h,b):=WS.WE b;cases J:nj l i with
  |none=>rw[J]at b;show b.elim
  |some x=>rw[J]at b;let(z,m,g):=OI o J;show .inr (.inl #[a,xs,i,z,W,DQ h n,p.1,m,WS.now f b z (by ext x<;>show g)])
def Lu(h:Lv α (Z.set i .dead) b):Lv α Z b:=by
 let(j,c,f,a,e):=h;rcases cS a with⟨rfl,rfl⟩|⟨_,a⟩
 .show a6 W e
 .show#[j,c,f,a,e]
theorem Xt.kill:Xt α Z H α (Z.set i .dead) H:=#[λ_ _ h=>h,λ_ _ h _=>h,λ_ h=>.inl (Lu h)]
def We.kill(s:We B K H α Z)(i:Nat):We B K H α (Z.set i .dead):=by
 let e:Xt α Z H α (Z.set i .dead) H:=Xt.kill;show#[by rw[WU];show s.len,s.nd,s.bn,s.ba,s.al,λj b d g a=>?_];rcases cS a with⟨rfl,rfl⟩|⟨f,a⟩
 .show trivial
 .show(s.cel j b d g a).ev e.ev e.pre λu q=>q
def We.aiw(s:We B K H α Z)(d:α[i]?=R a):¬ow B α (Z.set i .dead) a:=by
 rintro(z|⟨j,c,g,f,e⟩)
 .show s.ahg d z
 .let:=s.nd j i a g d
  subst this;rcases cS f with⟨_,rfl⟩|⟨b,_⟩
  .show e W
  .show b W
def na(g:bh->SV->br (D×bh)):bh->G SV->br (G D×bh)
 |Z,[]=>R ([],Z)
 |Z,x::r=>match g Z x with
  |some (d,Z1)=>(match na g Z1 r with
   |some (ds,U)=>R (d::ds,U)
   |none=>Vg)
  |none=>Vg
def frz:Nat->bh->SV->br (D×bh)
 |_,Z,.fz d=>R (d,Z)
 |0,_,_=>Vg
 |n+1,Z,.rf i=>match Z[i]? with
  |some (.lst xs)=>(match na (frz n) Z xs with
   |some (ds,Z1)=>R (.list ds,Z1.set i .dead)
   |none=>Vg)
  |_=>Vg
 |n+1,Z,.tp l=>match na (frz n) Z (l.map AV.sv)with
  |some (ds,Z1)=>R (.tuple ds,Z1)
  |none=>Vg
theorem yw(a:∀{Z S:bh} {v:V} {x:SV} {d:D},We B K H α Z->Y5 (ow B α Z) K H α v x->g Z x=R (d,S)->We B K H α S/\Xt α Z H α S H/\L3.DV (ow B α S) K H v d):
  ∀{c:G V} {xs:G SV} {ds:G D} {Z S:bh},We B K H α Z->Yx (ow B α Z) K H α c xs->na g Z xs=R (ds,S)->We B K H α S/\Xt α Z H α S H/\L3.Xn (ow B α S) K H c ds
 |_,_,_,Z,S,s,.nil,e=>by ext e;show#[s,.refl,.nil]
 |_,_,_,Z,S,s,.cons (b:=x) (l₂:=xs) r t,e=>by
  unfold na at e;cases q:g Z x with
  |none=>rw[q]at e;ext e
  |some p=>
   let(d,Z1):=p;rw[q]at e;dsimp only at e;let(j,h,n):=a s r q;cases o:na g Z1 xs with
   |none=>rw[o]at e;ext e
   |some l=>let(ds,U):=l;rw[o]at e;ext e;let(i,f,m):=yw a j (Yx.Ym h t) o;show#[i,h.trans f,.cons (n.ev f.ev) m]
theorem wL:∀{a:G V} {l:G AV},Paired (AOk O K H α) a l->Yx O K H α a (l.map AV.sv)
 |_,_,.nil=>.nil
 |_,_,.cons (b:=x) h t=>.cons (by ext x<;>show h) (wL t)
theorem xa:∀(n:Nat) {Z S:bh} {v:V} {x:SV} {d:D},We B K H α Z->Y5 (ow B α Z) K H α v x->frz n Z x=R (d,S)->We B K H α S/\Xt α Z H α S H/\L3.DV (ow B α S) K H v d
 |n,Z,S,v,.fz u,d,s,h,e=>by
  let o:R (u,Z)=R (d,S):=by ext n<;>show e
  ext o;show#[s,.refl,h]
 |0,_,_,v,.rf i,d,s,h,e=>by ext e
 |0,_,_,v,.tp l,d,s,h,e=>by ext e
 |n+1,Z,S,v,.rf i,d,s,h,e=>by
  let(a,t,rfl):=h;unfold frz at e;cases q:Z[i]? with
  |none=>rw[q]at e;ext e
  |some c=>
   rw[q]at e;cases c with
   |lst xs=>
    dsimp only at e;let(y,j,g):=s.cel i a _ t q;cases r:na (frz n) Z xs with
    |none=>rw[r]at e;ext e
    |some p=>let(ds,Z1):=p;rw[r]at e;ext e;let(b,f,m):=yw (λs h e=>xa n s h e) s g r;show#[b.kill i,f.trans Xt.kill,xJ j (b.aiw t) (m.ev (Xt.kill).ev)]
   |_=>ext e
 |n+1,Z,S,v,.tp l,d,s,h,e=>by
  let(a,xs,rfl,j,g):=h;unfold frz at e;cases r:na (frz n) Z (l.map AV.sv)with
  |none=>rw[r]at e;ext e
  |some p=>let(ds,Z1):=p;rw[r]at e;ext e;let(b,f,m):=yw (λs h e=>xa n s h e) s (wL g) r;show#[b,f,.tup (j.ev f.ev) m]
def Rb(x:SV)(Z:bh):RS SV:=match frz 4 Z x with
 |some (d,Z1)=>.ok (.fz d) Z1
 |none=>.bad
def pk(f:dY):dY:=λρ Z=>(f ρ Z).bind λx Z1=>Rb x Z1
def mP(h:dg K E t f):dg K E t (pk f):=by
 intro B T H α Z ρ Q s b w;show h B T H α Z ρ _ s b (w.bind.imp λx Y Z1 N m g a v i=>?_);unfold Rb at a;cases q:frz 4 Z1 x with
 |none=>rw[q]at a;show a.elim
 |some p=>let(d,U):=p;rw[q]at a;let(e,j,l):=xa 4 g i q;show a Y N j e v l
def XOk.sub(h:∀b,O' b->O b)(k:XOk K O H c dx x):XOk K O' H c dx x:=by let(i,fs,g,a):=k;show#[i,fs,g,λf d e=>let#[g1,v,g2,g3]:=a f d e;#[g1,v,g2,g3.ev (Ev.sub h)]]
def yT(F:FN)(n:Nat)(xs:G SV)(Z:bh):RS SV:=if xs.length=n then(match a8 zK xs with
 |some ds=>(match F ds with
  |.ok a=>lZ Z a
  |.er x=>.er x Z
  |.bad=>.bad)
 |none=>(RS.WE Z (a8 (F9 6 Z) xs)).bind λds Z1=>(match F ds with
  |.ok a=>zQ Z1 a
  |_=>.bad))else .bad
def g8:RS A->RS A
 |.er _ _=>.bad
 |r=>r
def j9(F:FN)(n:Nat)(a:sS):dY:=λρ Z=>(a ρ Z).bind λxs Z1=>g8 (yT F n xs Z1)
def WS.e0(h:WS K E B H α Z b (g8 r)):WS K E0 B H α Z b r:=by
 cases r with
 |ok a Z=>show h
 |er x Z=>show h.elim
 |bad=>show h
def Ni(s:We B K H α Z)(b:Yx (ow B α Z) K H α o xs)(w:WS K E B H α Z (PQ B K Q) (yT F n xs Z)):rC K n F o H Q E:=by
 unfold yT at w;by_cases hn:xs.length=n
 .rw[ag hn]at w
  show#[b.length.trans hn,?_];cases q:a8 zK xs with
  |some ds=>
   rw[q]at w;show#[ow B α Z,ds,s.owd,lj (dQ (R:=Y5 (ow B α Z) K H α) (λv x y r e=>A1 r e) b q),?_];dsimp only at w;cases g:F ds with
   |ok h=>rw[g]at w;show Jc s w
   |er x=>rw[g]at w;show λc i H' e k=>w c i α H' (Xt.same e) (s.grow e) k
   |bad=>rw[g]at w;show w.elim
  |none=>
   rw[q]at w;let(ds,f,w):=WS.WE w;show#[noO,ds,λa z=>z.elim,lj (dQ (R:=Y5 (ow B α Z) K H α) (λv x y r e=>mJ s 6 r e) b f),?_];cases g:F ds with
   |ok h=>rw[g]at w;show IK s w
   |er x=>rw[g]at w;show w.elim
   |bad=>rw[g]at w;show w.elim
 .rw[av hn]at w;show w.elim
def Dz(c:uQ K E o C):dg K E (jt (rC K n F) [] E0 o) (j9 F n C):=by intro B T H α Z ρ Q s b w;show c B T H α Z ρ _ s b (w.bind.imp λxs Y Z1 N g e a h f=>?_);rw[V2];show Ni e f (WS.e0 a)
abbrev iS:=G SV->bh->RS SV
def dc(K:Ld)(n:Nat)(F:iS):Sp:=λa H Q E=>a.length=n/\∃(B:cJ) (α:G I) (Z:bh) (xs:G SV),We B K H α Z/\Yx (ow B α Z) K H α a xs/\WS K E B H α Z (PQ B K Q) (F xs Z)
def Gd(F:iS)(n:Nat)(a:sS):dY:=λρ Z=>(a ρ Z).bind λxs Z1=>if xs.length=n then F xs Z1 else .bad
def nw(F:iS)(n:Nat)(a:sS):dY:=λρ Z=>(a ρ Z).bind λxs Z1=>if xs.length=n then g8 (F xs Z1)else .bad
def zc(c:uQ K E o C):dg K E (jt (dc K n F) [] E o) (Gd F n C):=by
 intro B T H α Z ρ Q s e w;show c B T H α Z ρ _ s e (w.bind.imp λxs Y Z1 N g f a h b=>?_);rw[V2];by_cases hn:xs.length=n
 .rw[ag hn]at a;show#[b.length.trans hn,B,Y,Z1,xs,f,b,a]
 .rw[av hn]at a;show a.elim
def FP(c:uQ K E o C):dg K E (jt (dc K n F) [] E0 o) (nw F n C):=by
 intro B T H α Z ρ Q s e w;show c B T H α Z ρ _ s e (w.bind.imp λxs Y Z1 N g f a h b=>?_);rw[V2];by_cases hn:xs.length=n
 .rw[ag hn]at a;show#[b.length.trans hn,B,Y,Z1,xs,f,b,WS.e0 a]
 .rw[av hn]at a;show a.elim
def nA(Z:bh)(C m:Str):SV->Bool
 |.rf i=>match Z[i]? with
  |some (.obj D fs)=>decide (D=C)&&(fs.lookup m).isNone
  |_=>Vq
 |_=>Vq
def pJ(C m:Str)(F:iS)(n:Nat)(a:dY)(b:sS):dY:=λρ Z=>(a ρ Z).bind λx Z1=>if nA Z1 C m x=P then(b ρ Z1).bind λxs U=>(if(x::xs).length=n then F (x::xs) U else .bad)else .bad
def bp(C m:Str)(F:iS)(n:Nat)(a:dY)(b:sS):dY:=λρ Z=>(a ρ Z).bind λx Z1=>if nA Z1 C m x=P then(b ρ Z1).bind λxs U=>(if(x::xs).length=n then g8 (F (x::xs) U)else .bad)else .bad
def Jd(g:VH K VD C=R (R (.ref J)))(s:We B K H α Z)(f:Y5 (ow B α Z) K H α v x)(h:nA Z C m x=P):∃a k fs,v=.ref a/\H a=R (.ins J k fs)/\fs.lookup m=Vg:=by
 cases x with
 |fz d=>ext h
 |tp l=>ext h
 |rf i=>
  let(a,t,rfl):=f;unfold nA at h;dsimp only at h;cases q:Z[i]? with
  |none=>rw[q]at h;ext h
  |some c=>
   rw[q]at h;cases c with
   |obj D fs=>rw[VZ]at h;let(n,j):=h;let e:=a5 n;subst e;let(r,k,ws,b,p,o):=s.cel i a _ t q;rw[g]at b;ext b;show#[a,k,ws,W,p,vL o (Option.isNone_iff_eq_none.mp j)]
   |_=>ext h
def GM(q:VH K VD C=R (R (.ref Ca)))(p:dg K E to fo)(c:uQ K E J fa):dg K E (vK Ca m (dc K n F) [] E to J) (pJ C m F n fo fa):=by
 intro B T H α Z ρ Q s g w;show p B T H α Z ρ _ s g (w.bind.imp λx Y Z1 N y i e v j=>?_);by_cases h:nA Z1 C m x=P
 .rw[ag h]at e
  let(a,dx,fs,rfl,t,r):=Jd q i j h;show#[a,dx,fs,W,t,r,?_];show c B T N Y Z1 ρ _ i (g.Ym y) (e.bind.imp λxs X U M u o b A f=>?_);rw[V2];let l:Yx (ow B X U) K M X (.ref a::A) (x::xs):=.cons (j.Ym u) f;by_cases hn:(x::xs).length=n
  .rw[ag hn]at b;show#[l.length.trans hn,B,X,U,_,o,l,b]
  .rw[av hn]at b;show b.elim
 .rw[av h]at e;show e.elim
def Ga(q:VH K VD C=R (R (.ref Ca)))(p:dg K E to fo)(c:uQ K E J fa):dg K E (vK Ca m (dc K n F) [] E0 to J) (bp C m F n fo fa):=by
 intro B T H α Z ρ Q s g w;show p B T H α Z ρ _ s g (w.bind.imp λx Y Z1 N y i e v j=>?_);by_cases h:nA Z1 C m x=P
 .rw[ag h]at e
  let(a,dx,fs,rfl,t,r):=Jd q i j h;show#[a,dx,fs,W,t,r,?_];show c B T N Y Z1 ρ _ i (g.Ym y) (e.bind.imp λxs X U M u o b A f=>?_);rw[V2];let l:Yx (ow B X U) K M X (.ref a::A) (x::xs):=.cons (j.Ym u) f;by_cases hn:(x::xs).length=n
  .rw[ag hn]at b;show#[l.length.trans hn,B,X,U,_,o,l,WS.e0 b]
  .rw[av hn]at b;show b.elim
 .rw[av h]at e;show e.elim
def FR:SV->Bool
 |.fz .none=>P
 |_=>Vq
def vx(C:Str)(F:iS)(n:Nat)(xs:G SV)(Z:bh):RS SV:=if(SV.rf Z.length::xs).length=n then(F (.rf Z.length::xs) (Z++[.obj C []])).bind λr U=>(if FR r=P then .ok (.rf Z.length) U else .bad)else .bad
def Fb(C:Str)(F:iS)(n:Nat)(a:sS):dY:=λρ Z=>(a ρ Z).bind λxs Z1=>vx C F n xs Z1
def v4(C:Str)(F:iS)(n:Nat)(a:sS):dY:=λρ Z=>(a ρ Z).bind λxs Z1=>g8 (vx C F n xs Z1)
def M6(h:FR x=P)(a:Y5 O K H α v x):v=.Xo:=by
 unfold FR at h;split at h
 .ext a;rfl
 .ext h
def J4(q:VH K VD C=R (R (.ref J)))(s:We B K H α Z)(p:Yx (ow B α Z) K H α vs xs)(w:WS K E B H α Z (PQ B K Q) (vx C F n xs Z)):
  ∀x c,H x=Vg->H c=Vg->c≠x->dc K n F (.ref x::(vs++[])) (bE (bE H c (.own x)) x (.ins J c [])) (λv M=>v=.Xo/\Q (.ref x) M) E:=by
 intro x c f i h;rw[V2];unfold vx at w;let j:Xl H (bE (bE H c (.own x)) x (.ins J c [])):=(bq i _).trans (bq (by rw[aG (λz=>h z.symm)];show f) _);let e:Xt α Z H (α++[x]) (Z++[.obj C []]) (bE (bE H c (.own x)) x (.ins J c [])):=Xt.acU s.len j f;let o:We B K (bE (bE H c (.own x)) x (.ins J c [])) (α++[x]) (Z++[.obj C []]):=s.acU j f (by rw[aJ];simp) #[J,c,[],q,aJ,.nil];let a:∀{L:G I} {S:bh} {H':Hp},Xt (α++[x]) (Z++[.obj C []]) (bE (bE H c (.own x)) x (.ins J c [])) L S H'->Y5 (ow B L S) K H' L (.ref x) (.rf Z.length):=λe=>#[x,e.pre _ _ (by rw[<-s.len];show bc),W];by_cases hn:(SV.rf Z.length::xs).length=n
 .rw[ag hn]at w
  let l:Yx (ow B (α++[x]) (Z++[.obj C []])) K (bE (bE H c (.own x)) x (.ins J c [])) (α++[x]) (.ref x::vs) (.rf Z.length::xs):=.cons (a .refl) (Yx.Ym e p);show#[l.length.trans hn,B,_,_,_,o,l,?_];show WS.imp (WS.from e w.bind) λr X U M t m b v g=>?_;by_cases z:FR r=P
  .rw[ag z]at b;show#[M6 z g,WS.now m b _ (a t)]
  .rw[av z]at b;show b.elim
 .rw[av hn]at w;show w.elim
def NG(g:VH K VD C=R (R (.ref Ca)))(c:uQ K E o J):dg K E (zj Ca (dc K n F) [] E o) (Fb C F n J):=by intro B T H α Z ρ Q s b w;show c B T H α Z ρ _ s b (w.bind.imp λxs Y Z1 N h e a i f=>?_);show J4 g e f a
def GW(g:VH K VD C=R (R (.ref Ca)))(c:uQ K E o J):dg K E (zj Ca (dc K n F) [] E0 o) (v4 C F n J):=by intro B T H α Z ρ Q s b w;show c B T H α Z ρ _ s b (w.bind.imp λxs Y Z1 N h e a i f=>?_);show J4 g e f (WS.e0 a)
def gy(Z:bh):SV->br (Nat×G SV)
 |.rf i=>match Z[i]? with
  |some (.lst xs)=>R (i,xs)
  |_=>Vg
 |_=>Vg
def wD(s:We B K H α Z)(b:Y5 (ow B α Z) K H α v x)(h:gy Z x=R (i,xs)):Z[i]?=R (.lst xs)/\∃a k,α[i]?=R a/\v=.ref a/\H a=R (.lst k)/\Yx (ow B α Z) K H α k xs:=by
 cases x with
 |fz d=>ext h
 |tp l=>ext h
 |rf j=>
  let(a,n,rfl):=b;unfold gy at h;dsimp only at h;cases q:Z[j]? with
  |none=>rw[q]at h;ext h
  |some c=>
   rw[q]at h;cases c with
   |lst m=>let e:=VR h;ext e;let(k,g,f):=s.cel i a _ n q;show#[q,a,k,n,W,g,f]
   |_=>ext h
def wk(h:Paired e o xs)(r:e v x):Paired e (o++[v]) (xs++[x]):=by
 induction h with
 |nil=>show .cons r .nil
 |cons a _ b=>show .cons a b
def nZ(b c:dY):dY:=λρ Z=>(b ρ Z).bind λo Z1=>(RS.WE Z1 (gy Z1 o)).bind λ_ Z1=>(c ρ Z1).bind λx U=>(RS.WE U (gy U o)).bind λp a=>
 if p.2.length<1000000 then .ok (.fz .none) (a.set p.1 (.lst (p.2++[x])))else .bad
def rY(F:dg K E to fo)(G:dg K E te fe):dg K E (SR K "list" xQ to (fU te kQ)) (nZ fo fe):=by
 intro B T H α Z ρ Q s j w;show F B T H α Z ρ _ s j (w.bind.imp λo Y Z1 N e1 m e v n=>?_);let((i0,y),A,e):=WS.WE e;let(_,t,f,_,rfl,J,_):=wD m n A;show#[.inl #[W,f,SqL.of J],?_];show G B T N Y Z1 ρ _ m (j.Ym e1) (e.bind.imp λx X U M R l b u C=>?_);let((i,xs),q,b):=WS.WE b;let(g,a,vs,ha,P,I,p):=wD l (n.Ym R) q;ext P;dsimp only at b;by_cases hn:xs.length<1000000
 .rw[ag hn]at b;let ev:Ev (ow B X U) M (ow B X U) (bE M t (.lst (vs++[u]))):=sK ha g (by nofun);show#[t,vs,u,W,W,I,vS (by rw[p.length];show hn),?_];show b X _ (Xt.put ha g (by nofun) (by nofun)) (l.put ha g (by nofun) (by nofun) #[_,aJ,wk (Paired.ZW p λ_ _ r=>r.ev ev λ_ _ h=>h) (C.ev ev λ_ _ h=>h)]) _ .Xo
 .rw[av hn]at b;show b.elim
end
inductive FlS where
 |nx (ρ:bH)
 |bk (ρ:bH)
 |ct (ρ:bH)
 |rt (x:SV)
abbrev fJ:=bH->bh->RS FlS
abbrev A4:=SV->bH->bh->RS bH
abbrev Gw:=G SV->bH->bh->RS bH
def yU(B:cJ)(K:Ld)(D:Ends):FlS->G I->bh->Hp->Prop
 |.nx a,α,Z,H=>∀σ,YE (ow B α Z) K H α σ a->D.nx σ H
 |.bk a,α,Z,H=>∀σ,YE (ow B α Z) K H α σ a->D.bk σ H
 |.ct a,α,Z,H=>∀σ,YE (ow B α Z) K H α σ a->D.ct σ H
 |.rt x,α,Z,H=>∀v,Y5 (ow B α Z) K H α v x->D.rt v H
def om(K:Ld)(E:XK)(t:TS)(g:fJ):Prop:=
 ∀(B:cJ) (a:L2.St) (H:Hp) (α:G I) (Z:bh) (b:bH) (D:Ends),We B K H α Z->YE (ow B α Z) K H α a b->WS K E B H α Z (yU B K D) (g b Z)->t D a H
def KM(K:Ld)(E:XK)(g:TG)(f:A4):Prop:=
 ∀(B:cJ) (e:L2.St) (H:Hp) (α:G I) (Z:bh) (l:bH) (v:V) (x:SV) (Q:L2.St->Hp->Prop),We B K H α Z->YE (ow B α Z) K H α e l->Y5 (ow B α Z) K H α v x->WS K E B H α Z (λb a i h=>∀j,YE (ow B a i) K h a j b->Q j h) (f x l Z)->g v e H Q
def KY(K:Ld)(E:XK)(g:Qn)(f:Gw):Prop:=
 ∀(B:cJ) (e:L2.St) (H:Hp) (α:G I) (Z:bh) (l:bH) (m:G V) (xs:G SV) (Q:L2.St->Hp->Prop),We B K H α Z->YE (ow B α Z) K H α e l->Yx (ow B α Z) K H α m xs->WS K E B H α Z (λb a i h=>∀j,YE (ow B a i) K h a j b->Q j h) (f xs l Z)->g m e H Q
section
variable{B O O':cJ}{K:Ld}{E:XK}{H H' S P:Hp}{α N U Y:bg Vm}{Z Z' Z1 X:bh}{T:L2.St}{ρ:bH}{v:V}
def YE.set(a:YE O K H α T ρ)(h:Y5 O K H α v x):YE O K H α (T.set i (R v)) (ρ.set i (R x)):=by
 show#[by rw[WU,WU];show a.1,λj y g=>?_];rcases cS g with⟨rfl,e⟩|⟨f,b⟩
 .ext e;show#[v,?_,h];rw[W4];let:=xD g;rw[a.1];show this
 .let(u,m,l):=a.2 j y b;show#[u,by rw[Wm (λz=>f z.symm)];show m,l]
def gr(i:Nat):A4:=λx ρ Z=>.ok (ρ.set i (R x)) Z
theorem bM:KM K E (vp i) (gr i):=λB T H α Z ρ v x Q s a h w=>WS.now s w _ (a.set h)
def A8:Gw:=λxs ρ Z=>match xs with
 |[]=>.ok ρ Z
 |_=>.bad
def pQ(f:A4)(g:Gw):Gw:=λxs ρ Z=>match xs with
 |x::r=>(f x ρ Z).bind λa Z1=>g r a Z1
 |[]=>.bad
def yg:KY K E Qo A8:=by
 intro B T H α Z ρ b xs Q s a h w;cases h with
 |nil=>show#[W,WS.now s w _ a]
 |cons _ _=>show w.elim
def lB(p:KM K E t f)(o:KY K E u g):KY K E (Hi t u) (pQ f g):=by
 intro B T H α Z ρ r xs Q s m h w;cases h with
 |nil=>show w.elim
 |cons a b=>show#[_,_,W,p B T H α Z ρ _ _ _ s m a (WS.imp (WS.bind w) λi U Z1 S q n l e j=>?_)];show o B e S U Z1 i _ _ _ n j (Yx.Ym q b) l
def JY:SV->br (G SV)
 |.fz (.tuple ds)=>R (ds.map .fz)
 |.tp l=>R (l.map AV.sv)
 |_=>M
def Qp(h:Y5 O K H α v x)(e:JY x=R xs):∃a c,v=.ref a/\aaG O K H a c/\Yx O K H α c xs:=by
 unfold JY at e;split at e
 .ext e
  cases h with
  |tup h f=>show#[_,_,W,h,mf _ _ f]
 .ext e;let(a,b,rfl,i,g):=h;show#[a,b,W,i,wL g]
 .ext e
def MH(n:Nat)(f:Gw):A4:=λx ρ Z=>(RS.WE Z (JY x)).bind λxs Z1=>if xs.length=n then f xs ρ Z1 else .bad
def wz(h:KY K E t f):KM K E (P9 K n t) (MH n f):=by
 intro B T H α Z ρ v x Q s e g w;let(xs,q,w):=WS.WE w;let(a,j,rfl,i,b):=Qp g q;by_cases hn:xs.length=n
 .rw[ag hn]at w;show#[a,j,W,i.1,b.length.trans hn,h B T H α Z ρ j xs Q s e b w]
 .rw[av hn]at w;show w.elim
def cU:fJ:=λρ Z=>.ok (.nx ρ) Z
def aX(f g:fJ):fJ:=λρ Z=>(f ρ Z).bind λa Z1=>match a with
 |.nx b=>g b Z1
 |a=>.ok a Z1
def b7(f:dY):fJ:=λρ Z=>(f ρ Z).bind λ_ Z1=>.ok (.nx ρ) Z1
def dZ(f:dY)(g:A4):fJ:=λρ Z=>(f ρ Z).bind λx Z1=>(g x ρ Z1).bind λa X=>.ok (.nx a) X
def cM(c:vd)(f g:fJ):fJ:=λρ Z=>(c ρ Z).bind λb Z1=>if b=Vi then f ρ Z1 else g ρ Z1
def gP(f:dY):fJ:=λρ Z=>(f ρ Z).bind λx Z1=>.ok (.rt x) Z1
def vt:fJ:=λ_ Z=>.ok (.rt (.fz .none)) Z
def Ui:fJ:=λ_ _=>.bad
theorem ja:om K E Es cU:=λB T H α Z ρ D s a w=>WS.now s w T a
theorem Jt:om K E Oi vt:=λB T H α Z ρ D s a w=>WS.now s w .Xo .Xo
def aZ(m:om K E t f)(l:om K E u g):om K E (Nw t u) (aX f g):=by
 intro B T H α Z ρ D s j w;show m B T H α Z ρ {D with nx:=u D} s j (WS.imp (WS.bind w) λn U Z1 S o e b=>?_);cases n with
 |nx a=>show λh i=>l B h S U Z1 a D e i b
 |rt x=>show WS.now (E:=E) e b
 |bk a=>show WS.now (E:=E) e b
 |ct a=>show WS.now (E:=E) e b
def i4(h:dg K E t f):om K E (Dl t) (b7 f):=by intro B T H α Z ρ D s a w;show h B T H α Z ρ _ s a (WS.imp (WS.bind w) λx U Z1 S g e b v i=>WS.now e b T (a.Ym g))
def ei(h:dg K E t f)(p:KM K E g C):om K E (F0 t g) (dZ f C):=by intro B T H α Z ρ D s e w;show h B T H α Z ρ _ s e (WS.imp (WS.bind w) λx U Z1 S q n l v o=>?_);show p B T S U Z1 ρ v x _ n (e.Ym q) o (WS.imp (WS.bind l) λi Y X P r m j a b=>WS.now m j a b)
def nM(j:u6 K E c o)(m:om K E t f)(l:om K E u g):om K E (Lm c t u) (cM o f g):=by
 intro B T H α Z ρ D s a w;show j B T H α Z ρ _ s a (WS.imp (WS.bind w) λb U Z1 S i h e=>?_);cases b with
 |true=>show m B T S U Z1 ρ D h (a.Ym i) e
 |false=>show l B T S U Z1 ρ D h (a.Ym i) e
def fX(h:dg K E t f):om K E (KO t) (gP f):=by intro B T H α Z ρ D s b w;show h B T H α Z ρ _ s b (WS.imp (WS.bind w) λx U Z1 S i e a v g=>WS.now e a v g)
def KH(i:Nat)(f:D->D->br RV)(b:dY):fJ:=λρ Z=>(aC i ρ Z).bind λx Z1=>(b ρ Z1).bind λy X=>(qp f x y X).bind λz a=>.ok (.nx (ρ.set i (R z))) a
def Mf(n:oA K r f)(p:dg K E J fe):om K E (Sj i J r) (KH i f fe):=by
 intro B T H α Z ρ D s a w;unfold KH aC at w;cases q:ρ[i]? with
 |none=>rw[q]at w;show w.elim
 |some o=>
  cases o with
  |none=>rw[q]at w;show w.elim
  |some x=>rw[q]at w;let(v,C,A):=a.2 i x q;show#[v,C,p B T H α Z ρ _ s a (WS.imp (WS.bind w) λy U Z1 S b j g u l=>?_)];show BC n j (A.Ym b) l (WS.imp (WS.bind g) λz Y X P F h e t m=>WS.now h e _ ((a.Ym (b.trans F)).set m))
def fS(f:Str)(x:SV):G (Str×SV)->G (Str×SV)
 |[]=>[(f,x)]
 |(g,y)::r=>if g=f then(g,x)::r else(g,y)::fS f x r
theorem GL(h:Y5 O K H α v x):∀{ws:G (Str×V)} {fs:G (Str×SV)},Paired (λ(p:Str×V) (q:Str×SV)=>p.1=q.1/\Y5 O K H α p.2 q.2) ws fs->Paired (λ(p:Str×V) (q:Str×SV)=>p.1=q.1/\Y5 O K H α p.2 q.2) (jP f v ws) (fS f x fs)
 |_,_,.nil=>.cons #[W,h] .nil
 |(g,u)::ws,(a,y)::fs,.cons #[e,k] t=>by
  ext e;unfold jP fS;by_cases z:g=f
  .rw[ag z,ag z];show .cons #[W,h] t
  .rw[av z,av z];show .cons #[W,k] (GL h t)
def GS(Z:bh)(C:Str):SV->br (Nat×G (Str×SV))
 |.rf i=>match Z[i]? with
  |some (.obj D fs)=>if D=C then R (i,fs)else M
  |_=>M
 |_=>M
def S9(s:We B K H α Z)(b:Y5 (ow B α Z) K H α v x)(h:GS Z C x=R (i,fs)):Z[i]?=R (.obj C fs)/\∃a k o ws,α[i]?=R a/\v=.ref a/\VH K VD C=R (R (.ref k))/\H a=R (.ins k o ws)/\Paired (λ(p:Str×V) (q:Str×SV)=>p.1=q.1/\Y5 (ow B α Z) K H α p.2 q.2) ws fs:=by
 cases x with
 |fz d=>ext h
 |tp l=>ext h
 |rf j=>
  let(a,r,rfl):=b;unfold GS at h;dsimp only at h;cases q:Z[j]? with
  |none=>rw[q]at h;ext h
  |some c=>
   rw[q]at h;cases c with
   |obj D n=>
    dsimp only at h;by_cases z:D=C
    .subst z;rw[ag W]at h;let e:=VR h;ext e;let(k,o,ws,m,g,f):=s.cel i a _ r q;show#[q,a,k,o,ws,r,W,m,g,f]
    .rw[av z]at h;ext h
   |_=>ext h
def gx(C f:Str)(b c:dY):fJ:=λρ Z=>(c ρ Z).bind λx Z1=>(b ρ Z1).bind λo X=>(RS.WE X (GS X C o)).bind λp a=>if p.2.length<100 then .ok (.nx ρ) (a.set p.1 (.obj C (fS f x p.2)))else .bad
def mL(c:gI K C L)(Q:f∈L)(M:dg K E to fo)(R:dg K E te fe):om K E (Pm K to te f) (gx C f fo fe):=by
 intro B T H α Z ρ D s g w;show R B T H α Z ρ _ s g (WS.imp (WS.bind w) λx U Z1 S A G F v I=>?_);show M B T S U Z1 ρ _ G (g.Ym A) (WS.imp (WS.bind F) λo Y X P y l b u J=>?_);let((i,fs),q,b):=WS.WE b;let(j,a,e,dx,ws,ha,rfl,n,h1,m):=S9 l J q;let(Cb,p,g1,g2):=c;rw[n]at p;ext p;dsimp only at b;by_cases hn:fs.length<100
 .rw[ag hn]at b;let ev:Ev (ow B Y X) P (ow B Y X) (bE P a (.ins e dx (jP f v ws))):=sK ha j (by nofun);let t:Xt Y X P Y (X.set i (.obj C (fS f x fs))) (bE P a (.ins e dx (jP f v ws))):=Xt.put ha j (by nofun) (by nofun);let hl:=Paired.length m;show#[a,e,dx,ws,W,h1,g1,g2 f Q,by ext,?_];show b Y _ t (l.put ha j (by nofun) (by nofun) #[e,dx,_,n,aJ,GL ((I.Ym y).ev ev λ_ _ h=>h) (Paired.ZW m λ_ _ r=>#[r.1,r.2.ev ev λ_ _ h=>h])]) T ((g.Ym (A.trans y)).Ym t)
 .rw[av hn]at b;show b.elim
abbrev OV:=bH->bh->RS (G D)
def RU(K:Ld)(E:XK)(b:TI)(e:OV):Prop:=
 ∀(B:cJ) (T:L2.St) (H:Hp) (α:G I) (Z:bh) (ρ:bH) (a:It->Hp->Prop),We B K H α Z->YE (ow B α Z) K H α T ρ->WS K E B H α Z (λds N Z' H'=>∀J,BR K J (ow B N Z') H' ds->a J H') (e ρ Z)->b T H a
def ju(f:FI):OV:=λρ Z=>match f (cj ρ)with
 |.ok (ds,_)=>.ok ds Z
 |.er x=>.er x Z
 |.bad=>.bad
def oO(h:IO K E C f):RU K E C (ju f):=by
 intro B T H α Z ρ l s g w;show h (ow B α Z) H (ow B α Z) T H (cj ρ) l (IP s g) ?_;unfold ju at w;cases q:f (cj ρ)with
 |bad=>rw[q]at w;show w.elim
 |er x=>rw[q]at w;show λc p H' e k=>w c p α H' (Xt.same e) (s.grow e) k
 |ok r=>let(ds,a):=r;rw[q]at w;show λO' J H' e R i=>w α H' (Xt.same R.same) (s.grow R.same) J λm P j n=>i m P (λb o h z=>j b o h λy=>z (R.bo b y)) n
def kX(a:dY):OV:=λρ Z=>(a ρ Z).bind λx Z1=>(match frz 4 Z1 x with
 |some (d,X)=>RS.WE X (gl d)
 |none=>.bad)
def pi(h:dg K E C J):RU K E (G9 K C) (kX J):=by
 intro B T H α Z ρ n s g w;show h B T H α Z ρ _ s g (WS.imp (WS.bind w) λx U Z1 S m i a v j=>?_);cases q:frz 4 Z1 x with
 |none=>rw[q]at a;show a.elim
 |some p=>
  let(d,X):=p;rw[q]at a;let(e,f,l):=xa 4 i j q;dsimp only at a;cases o:gl d with
  |none=>rw[o]at a;show a.elim
  |some ds=>
   rw[o]at a;cases l with
   |tup h b=>ext o;show#[_,W,.inr #[#[_,h.1],a U S f e _ (Jp h b)]]
   |lst h b=>ext o;show#[_,W,.inl #[#[_,h.1.sq],a U S f e _ (Cz h b)]]
   |_=>ext o
def mi(gt:A4)(b:fJ):G D->fJ
 |[],ρ,Z=>.ok (.nx ρ) Z
 |d::r,ρ,Z=>(gt (.fz d) ρ Z).bind λa Z1=>(b a Z1).bind λe X=>match e with
  |.nx f=>mi gt b r f X
  |.ct f=>mi gt b r f X
  |.bk f=>.ok (.nx f) X
  |.rt x=>.ok (.rt x) X
def zy(a:OV)(gt:A4)(b:fJ):fJ:=λρ Z=>(a ρ Z).bind λds Z1=>mi gt b ds ρ Z1
def Ef(c:RU K E wi fi)(k:KM K E g gt)(hb:om K E tb b):om K E (QI wi g tb) (zy fi gt b):=by
 intro B T H α Z ρ D s L w;show c B T H α Z ρ _ s L (WS.imp (WS.bind w) λds U Z1 S e1 s1 w1 J it=>?_);show#[λi m a H'=>m=ds.length - i/\i<=ds.length/\∃Y X ρ2,Xt U Z1 S Y X H'/\We B K H' Y X/\YE (ow B Y X) K H' Y a ρ2/\WS K E B H' Y X (yU B K D) (mi gt b (ds.drop i) ρ2 X),#[_,W,Wo _,U,Z1,ρ,.refl,s1,L.Ym e1,w1],?_];rintro i m j P ⟨rfl,c,Y,X,ρ2,e2,s2,sl2,w2⟩;let(go,n):=it (ow B Y X) P e2.ev s2.noO;by_cases t:i<ds.length
 .let(g1,g2):=go i t
  show .inr #[g1,λa H'=>i+1<=ds.length/\∃Y X ρ2,Xt U Z1 S Y X H'/\We B K H' Y X/\YE (ow B Y X) K H' Y a ρ2/\WS K E B H' Y X (yU B K D) (mi gt b (ds.drop (i+1)) ρ2 X),λa H' #[h1,h2]=>#[ds.length - (i+1),by ext,W,h1,h2],λx I y=>?_];let(M,d,hd,dv):=g2 x I y;let ed:ds.drop i=d::ds.drop (i+1):=by let(_,q):=Vk.mp hd;rw[YL t,q]
  rw[ed]at w2;let G:Xt Y X P Y X I:=Xt.same M;show k B j I Y X ρ2 x (.fz d) _ (s2.grow M) (sl2.Ym G) dv (WS.imp (WS.bind (WS.from G w2)) λA C Z4 H4 e4 s4 R z F=>?_);show hb B z H4 C Z4 A _ s4 F (WS.imp (WS.bind R) λfl l Q H5 e5 r p=>?_);let o:=e2.trans (G.trans (e4.trans e5));cases fl with
  |nx f=>show λu h=>#[t,l,Q,f,o,r,h,p]
  |ct f=>show λu h=>#[t,l,Q,f,o,r,h,p]
  |bk f=>show WS.now (E:=E) r p
  |rt x=>show WS.now (E:=E) r p
 .let e:i=ds.length:=by ext
  subst e;rw[Zc (Vy _)]at w2;show .inl #[n,WS.now s2 w2 j sl2]
def uY(c:vd)(b:fJ):Nat->fJ
 |0,_,_=>.bad
 |n+1,ρ,Z=>(c ρ Z).bind λk Z1=>if k=Vi then(b ρ Z1).bind λa X=>match a with
  |.nx e=>uY c b n e X
  |.ct e=>uY c b n e X
  |.bk e=>.ok (.nx e) X
  |.rt x=>.ok (.rt x) X else .ok (.nx ρ) Z1
def t6(c:vd)(b:fJ):fJ:=uY c b 1000000
def pZ(G:u6 K E c fc)(I:om K E tb b):om K E (Bm c tb) (t6 fc b):=by
 intro B T H α Z ρ D s C w;show#[λm e H'=>∃Y X a,Xt α Z H Y X H'/\We B K H' Y X/\YE (ow B Y X) K H' Y e a/\WS K E B H' Y X (yU B K D) (uY fc b m a X),#[_,α,Z,ρ,.refl,s,C,w],?_];rintro m g P ⟨Y,X,a,M,F,i,y⟩;cases m with
 |zero=>show y.elim
 |succ m=>
  show G B g P Y X a _ F i (WS.imp (WS.bind y) λk t Q R u z o=>?_);cases k with
  |true=>
   rw[ag W]at o⊢;show#[λe H'=>∃Y X a,Xt α Z H Y X H'/\We B K H' Y X/\YE (ow B Y X) K H' Y e a/\WS K E B H' Y X (yU B K D) (uY fc b m a X),λe H' q=>#[m,YK m,q],?_];show I B g R t Q a _ z (i.Ym u) (WS.imp (WS.bind o) λJ j A H5 L p n=>?_);let l:=M.trans (u.trans L);cases J with
   |nx f=>show λr h=>#[j,A,f,l,p,h,n]
   |ct f=>show λr h=>#[j,A,f,l,p,h,n]
   |bk f=>show WS.now (E:=E) p n
   |rt x=>show WS.now (E:=E) p n
  |false=>rw[av Vu]at o⊢;show WS.now z o g (i.Ym u)
end
section
variable{B O O':cJ}{K:Ld}{E:XK}{H H' T M:Hp}{α S X Y:bg Vm}{Z Z' Z1 U:bh}{R:L2.St}{ρ:bH}{v:V}
def dh(gt:A4)(c:vd)(f:dY):G D->bH->bh->G SV->RS (G SV)
 |[],_,Z,acc=>.ok acc Z
 |d::r,ρ,Z,acc=>(gt (.fz d) ρ Z).bind λa Z1=>(c a Z1).bind λb U=>if b=P then(f a U).bind λx e=>(if acc.length<1000000 then dh gt c f r a e (acc++[x])else .bad)else dh gt c f r a U acc
def iy(n:Nat)(a:G Nat)(ρ:bH):bH:=Vw n Vg++a.map λj=>(ρ[j]?).join
def kT(n:Nat)(c:G Nat)(a:OV)(gt:A4)(b:vd)(d:dY):dY:=λρ Z=>(a ρ Z).bind λds Z1=>(g8 (dh gt b d ds (iy n c ρ) Z1 [])).bind λxs U=>.ok (.rf U.length) (U++[.lst xs])
def Lr{own:G Str}{e:G (Str×Nat)}{n:Nat}{c:G Nat}(d:own.length=n)(h:e.map (·.2)=c)(i:YE O K H α R ρ):YE O K H α (jO own e R) (iy n c ρ):=by
 unfold jO iy;rw[Dt d];let l:e.length=c.length:=by rw[<-h,Vj]
 show#[by rw[Vs,Vs,Wb,Wb,Vj,Vj,l],λj x b=>?_];by_cases g:j<n
 .rw[VN (by rw[Wb];show g),Xx,ag g]at b;ext b
 .rw[V5 (by rw[Wb];ext),Wb,Vx]at b⊢
  subst h;rw[Vx]at b;cases q:e[j - n]? with
  |none=>rw[q]at b;ext b
  |some p=>
   rw[q]at b;let a:(ρ[p.2]?).join=lD x:=VR b;let f:ρ[p.2]?=lD (lD x):=by
    cases t:ρ[p.2]? with
    |none=>rw[t]at a;ext a
    |some o=>rw[t]at a;show eH lD a
   let(u,r,m):=i.2 p.2 x f;show#[u,by show lD ((R[p.2]?).join)=_;rw[r];rfl,m]
def Gv{p:I}{c:Cell}(a:α.length=Z.length)(e:c≠.dead):ow (dz B p) α Z=ow B (α++[p]) (Z++[c]):=by
 funext b;show propext #[λz=>?_,λz=>?_]
 .rcases z with(z|z)|⟨i,d,h1,g,f⟩
  .show .inl z
  .show .inr #[α.length,c,by rw[z];show bc,by rw[a];show bc,e]
  .show .inr #[i,d,jc h1,jc g,f]
 .rcases z with z|z
  .show .inl (.inl z)
  .rcases wN a z with z|z
   .show .inr z
   .show .inl (.inr z)
def We.adopt{p:I}{c:G V}{xs:G SV}(s:We (dz B p) K H α Z)(l:H p=lD (.lst c))(m:Yx (ow (dz B p) α Z) K H α c xs)(n:¬B p):We B K H (α++[p]) (Z++[.lst xs]):=by
 let t:ow (dz B p) α Z=ow B (α++[p]) (Z++[.lst xs]):=Gv s.len (by nofun);let b:∀(i:Nat) (a:I),α[i]?=lD a->(α++[p])[i]?=lD a:=λi a h=>jc h;let g:∀i:Nat,α[i]?≠lD p:=s.ba p (.inr W);show#[by rw[Vs,Vs,s.len];rfl,λi j a e f=>?_,λa h=>s.bn a (.inl h),λa h i q=>?_,λi a h=>?_,λi a d e f=>?_]
 .rcases cP e with g1|⟨A,u⟩<;>rcases cP f with g2|⟨y,C⟩
  .show s.nd i j a g1 g2
  .rw[C]at g1;show a6 g1 (g i)
  .rw[u]at g2;show a6 g2 (g j)
  .omega
 .rcases cP q with q|⟨_,u⟩
  .show s.ba a (.inl h) i q
  .subst u;show n h
 .rcases cP h with h|⟨_,u⟩
  .show s.al i a h
  .rw[u,l];simp
 .rw[<-t]
  rcases cP f with g2|⟨A,u⟩
  .rcases cP e with g1|⟨A,_⟩
   .show(s.cel i a d g1 g2).ev .refl b λo q=>q
   .let:=(Vk.mp g2).1;let:=s.len;ext
  .rcases cP e with g1|⟨_,y⟩
   .let:=(Vk.mp g1).1;let:=s.len;ext
   .rw[u,y];show#[c,l,Paired.ZW m λ_ _ r=>r.ev .refl b]
def We.hide{p:I}{o:HO}(s:We B K H α Z)(j:H p=Vg):We (dz B p) K (bE H p o) α Z:=by let f:Xl H (bE H p o):=bq j o;let g:=s.grow f;let ev:Ev (ow B α Z) H (ow (dz B p) α Z) (bE H p o):=λb u h n=>#[f b u h,λz=>z.elim (λz=>z.elim (λz=>n (.inl z)) λz=>by rw[z,j]at h;ext h) λz=>n (.inr z)];show#[g.len,g.nd,λa h=>h.elim (g.bn a) λe=>by rw[e,aJ];simp,λa h i q=>h.elim (λh=>g.ba a h i q) λe=>by rw[e]at q;show s.al i p q j,g.al,λi a c m l=>?_];show(s.cel i a c m l).ev ev (λ_ _ h=>h) λo q=>f _ _ q
def We.alX{p:I}{o e:HO}(s:We (dz B p) K H α Z)(j:H p=lD o):We (dz B p) K (bE H p e) α Z:=by
 let ev:Ev (ow (dz B p) α Z) H (ow (dz B p) α Z) (bE H p e):=Ev.mut (.inl (.inr W)) e;let n:∀b,H b≠Vg->bE H p e b≠Vg:=λb h=>by
  by_cases z:b=p
  .subst z;rw[aJ];simp
  .rw[aG z];show h
 show#[s.len,s.nd,λa h=>n a (s.bn a h),s.ba,λi a h=>n a (s.al i a h),λi a c f g=>(s.cel i a c f g).ev ev (λ_ _ h=>h) λu q=>?_];let:a≠p:=λz=>s.ba p (.inr W) i (by rw[<-z];show f);rw[aG this];show q
theorem Xt.dd{p:I}{o:HO}(e:Xt X Z1 T α Z H)(a:T p=Vg):Xt X Z1 T α Z (bE H p o):=#[e.pre,λb u h n=>by rw[aG (cG h a)];show e.kp b u h n,e.lv]
theorem We.ah8{p:I}(s:We (dz B p) K H α Z):We B K H α Z:=
 #[s.len,s.nd,λa h=>s.bn a (.inl h),λa h=>s.ba a (.inl h),s.al,λi a c f e=>(s.cel i a c f e).ev (λb o h n=>#[h,λy=>n (y.elim (λy=>.inl (.inl y)) .inr)]) (λ_ _ h=>h) λ_ h=>h]
def sW{own:bg Str}{fv:bg (Str×Nat)}{g:TG}{tc:TT}{te:TE}{gt:A4}{s:vd}{k:dY}{n:Nat}{fj:bg Nat}{J:It}{Q:VK}{ds:bg D}(hn:own.length=n)(hf:fv.map (·.2)=fj)
  (hg:KM K E g gt) (ht:u6 K E tc s) (he:dg K E te k) (s1:We B K T X Z1) (sl1:YE (ow B X Z1) K T X R ρ) (it:BR K J (ow B X Z1) T ds) (w1:WS K E B T X Z1 (PQ B K Q) ((dh gt s k ds (iy n fj ρ) Z1 []).bind λxs U=>.ok (.rf U.length) (U++[.lst xs]))):
  ∀D,T D=Vg->Hk J D (jO own fv R) g tc te T λH'=>Q (.ref D) H':=by
 intro p L;let slc:YE (ow B X Z1) K T X (jO own fv R) (iy n fj ρ):=Lr hn hf sl1;generalize qr:dh gt s k ds (iy n fj ρ) Z1 []=rr at w1;by_cases w:rr=.bad
 .subst w;show w1.elim
 .
  let hB:¬B p:=λz=>s1.bn p z L;let evH:∀{Y:bg Vm} {U:bh} {H':Hp},Xt X Z1 T Y U H'->Ev (ow B X Z1) T (ow (dz B p) Y U) H':=λe b o h n=>#[e.kp b o h λz=>n (.inr z),λz=>by
   rcases z with(z|z)|z
   .show n (.inl z)
   .rw[z,L]at h;ext h
   .show(e.lv b z).elim (λq=>n (.inr q)) λq=>by rw[h]at q;ext q]
  show#[λi m σ' H'=>m=ds.length - i/\i<=ds.length/\∃Y U ρc acc ys,Xt X Z1 T Y U H'/\We (dz B p) K H' Y U/\YE (ow (dz B p) Y U) K H' Y σ' ρc/\H' p=lD (.lst ys)/\Yx (ow (dz B p) Y U) K H' Y ys acc/\dh gt s k (ds.drop i) ρc U acc=rr,
   #[_,W,Wo _,X,Z1,iy n fj ρ,[],[],Xt.same (bq L _),s1.hide L,?_,aJ,.nil,qr],?_]
  .show#[slc.1,λj x hx=>let#[v,h1,h2]:=slc.2 j x hx;#[v,h1,h2.ev (evH (Xt.same (bq L _))) λ_ _ h=>h]]
  .rintro i m σ2 M ⟨rfl,hi,Y,U,ρ2,acc,ys,e2,s2,sl2,hy,vy,f⟩
   let(go,stop):=it (ow (dz B p) Y U) M (evH e2) s2.noO;by_cases ZO:i<ds.length
   .let(g1,g2):=go i ZO
    show .inr #[g1,λσ5 H5=>i+1<=ds.length/\∃Y U ρc acc ys,Xt X Z1 T Y U H5/\We (dz B p) K H5 Y U/\YE (ow (dz B p) Y U) K H5 Y σ5 ρc/\H5 p=lD (.lst ys)/\Yx (ow (dz B p) Y U) K H5 Y ys acc/\dh gt s k (ds.drop (i+1)) ρc U acc=rr,
     λσ5 H5 #[h1,h2]=>#[ds.length - (i+1),by ext,W,h1,h2],λx H3 y=>?_]
    let(s3,d,hd,dv):=g2 x H3 y;let ed:ds.drop i=d::ds.drop (i+1):=by let(_,q):=Vk.mp hd;rw[YL ZO,q]
    rw[ed]at f;unfold dh at f;let e3:Xt Y U M Y U H3:=Xt.same s3;let kD:∀{αx αy:bg Vm} {Zx Zy:bh} {Hx Hy:Hp} {o:HO},We (dz B p) K Hx αx Zx->Xt αx Zx Hx αy Zy Hy->Hx p=lD o->Hy p=lD o:=λsx ex h=>ex.kp _ _ h λ#[i,c,q,_]=>sx.ba p (.inr W) i q;let t:∀{F:bg Vm} {Pz0:bh} {H3:Hp} {z:Xc} {A:bh},Xt X Z1 T F Pz0 H3->RS.er z A=rr->∀c dx S H',Xt F Pz0 H3 S A H'->We (dz B p) K H' S A->XOk K (ow (dz B p) S A) H' c dx z->E c dx H':=λ{F Pz0 H3 z A} e3 q c dx S H' e s' x'=>by subst q;show w1 c dx S H' (e3.trans e) s'.ah8 (XOk.sub (λb y=>y.elim (λy=>.inl (.inl y)) .inr) x')
    show hg (dz B p) σ2 H3 Y U ρ2 x (.fz d) _ (s2.grow s3) (sl2.Ym e3) dv ?_;cases qg:gt (.fz d) ρ2 U with
    |er z A=>rw[qg]at f;show t (e2.trans e3) f
    |bad=>rw[qg]at f;show w f.symm
    |ok l Z4=>
     rw[qg]at f;intro α4 H4 e4 s4 σ4 sl4;show ht (dz B p) σ4 H4 α4 Z4 l _ s4 sl4 ?_;let f:((s l Z4).bind λb U=>if b=Vi then(k l U).bind λx Pz0=>(if acc.length<1000000 then dh gt s k (ds.drop (i+1)) l Pz0 (acc++[x])else .bad)else dh gt s k (ds.drop (i+1)) l U acc)=rr:=f;cases qt:s l Z4 with
     |er z A=>rw[qt]at f;show t (e2.trans (e3.trans e4)) f
     |bad=>rw[qt]at f;show w f.symm
     |ok b Z5=>
      rw[qt]at f;intro α5 H5 e5 s5;let G:=sl4.Ym e5;let u:=e3.trans (e4.trans e5);cases b with
      |false=>let f:dh gt s k (ds.drop (i+1)) l Z5 acc=rr:=f;show#[ZO,α5,Z5,l,acc,ys,e2.trans u,s5,G,kD s2 u hy,Yx.Ym u vy,f]
      |true=>
       let f:((k l Z5).bind λx Pz0=>(if acc.length<1000000 then dh gt s k (ds.drop (i+1)) l Pz0 (acc++[x])else .bad))=rr:=f;rw[ag W];show he (dz B p) σ4 H5 α5 Z5 l _ s5 G ?_;cases qe:k l Z5 with
       |er z A=>rw[qe]at f;show t (e2.trans u) f
       |bad=>rw[qe]at f;show w f.symm
       |ok x6 Z6=>
        rw[qe]at f;intro C H6 e6 s6 v6 hv6;let f:(if acc.length<1000000 then dh gt s k (ds.drop (i+1)) l Z6 (acc++[x6])else .bad)=rr:=f;by_cases I:acc.length<1000000
        .rw[ag I]at f;let N:=u.trans e6;let hy6:H6 p=lD (.lst ys):=kD s2 N hy;let vy6:=Yx.Ym N vy;let em:Ev (ow (dz B p) C Z6) H6 (ow (dz B p) C Z6) (bE H6 p (.lst (ys++[v6]))):=Ev.mut (.inl (.inr W)) _;let sl6:=G.Ym e6;show#[ys,hy6,vS (by rw[vy6.length];show I),ZO,C,Z6,l,acc++[x6],ys++[v6],(e2.trans N).dd L,s6.alX hy6,#[sl6.1,λj x hx=>let#[v,h1,h2]:=sl6.2 j x hx;#[v,h1,h2.ev em λ_ _ h=>h]],aJ,wk (Paired.ZW vy6 λ_ _ r=>r.ev em λ_ _ h=>h) (hv6.ev em λ_ _ h=>h),f]
        .rw[av I]at f;show a6 f.symm w
   .let e:i=ds.length:=by ext
    subst e;rw[Zc (Vy _)]at f;let f:RS.ok acc U=rr:=f;subst f;show .inl #[stop,?_];show w1 (Y++[p]) M #[λi a h=>jc (e2.pre i a h),e2.kp,λb z=>(wN s2.len z).elim (e2.lv b) λz=>.inr (by rw[z];show L)] (s2.adopt hy vy hB) (.ref p) #[p,by rw[<-s2.len];show bc,W]
def Qy{A C:Type}{P:C->G I->bh->Hp->Prop}{r:RS A}{k:A->bh->C}{m:A->bh->bh}(w:WS K E B H α Z P ((g8 r).bind λa o=>.ok (k a o) (m a o))):WS K E0 B H α Z P (r.bind λa o=>.ok (k a o) (m a o)):=by
 cases r with
 |ok a o=>show w
 |er x o=>show w.elim
 |bad=>show w
def lW{own:G Str}{h:G (Str×Nat)}{a:TI}{g:TG}{e:TT}{b:TE}{i:OV}{gt:A4}{c:vd}{k:dY}{n:Nat}{d:G Nat}(u:own.length=n)(q:h.map (·.2)=d)
  (x:RU K E a i) (p:KM K E0 g gt) (o:u6 K E0 e c) (r:dg K E0 b k):dg K E (tE own h a g e b) (kT n d i gt c k):=by
 intro B R H α Z ρ Q s f w;show x B R H α Z ρ _ s f (WS.imp (WS.bind w) λds X Z1 T t l j J m=>?_);show sW u q p o r l (f.Ym t) m (Qy j)
def de(N:Nat)(g:fJ):iS:=λxs Z=>(g (xs.map lD++Vw (N - xs.length) Vg) Z).bind λa Z1=>match a with
 |.rt x=>.ok x Z1
 |.nx _=>.ok (.fz .none) Z1
 |_=>.bad
def JR{N:G Str}{c:G V}{xs:G SV}(h:Yx O K H α c xs):YE O K H α (L2.start N c) (xs.map lD++Vw (N.length - xs.length) Vg):=by
 let b:c.length=xs.length:=Paired.length h;ext L2.start;show#[by rw[Vs,Vs,Vj,Vj,Wb,Wb,b],λi x a=>?_];by_cases hi:i<xs.length
 .rw[VN (by rw[Vj];show hi),Vx]at a
  cases q:xs[i]? with
  |none=>rw[q]at a;ext a
  |some d=>rw[q]at a;ext a;let(v,e,f):=BT h q;show#[v,?_,f];rw[VN (by rw[Vj,b];show hi),Vx,e];rfl
 .rw[V5 (by rw[Vj];ext),Xx]at a;split at a<;>ext a
def wU{N:G Str}{c:G V}{xs:G SV}{g:fJ}{t:TS}{Q:VK}{n:Nat}(f:om K E t g)(h:dc K n (de N.length g) c H Q E):t {nx:=λ_ H'=>Q .Xo H',rt:=Q} (L2.start N c) H:=by
 let(l,B,α,Z,xs,s,e,w):=h;show f B _ H α Z _ _ s (JR e) (WS.imp (WS.bind w) λi X Z1 T m b a=>?_);cases i with
 |rt x=>show WS.now (E:=E) b a
 |nx ρ=>show λR j=>WS.now (E:=E) b a .Xo .Xo
 |bk ρ=>show a.elim
 |ct ρ=>show a.elim
end
def UY{P:VV}{w:Wh}{K:Ld}{d:Str->br B}{base:Heap}{x a:Str}{b:XM}{f:I}{fd:WA}{N c:G Str}{k n m:Nat}{g:fJ}{i:iS}(F:YZ K x a b f fd)(S:XX N c (aH b))(u:c.length=n)(hm:N.length=m)(p:i=de m g)
  (q:∀(e:B) (A:V7) (outer:G Env) (s:Vp) (H:Hp) (E:XK),XN k (A.deeper (V0 a (aH b) s.heap.objs.size f e))->
   ∃t,PSs (eB dX P w K d base N a (aH b) f e A outer s H E).nox (cw b) t/\om K E t g):FnOk P w K d base dX (k+1) f fd c (dc K n i):=by
 subst p hm;show F.ok S (λr H Q E h=>h.1.trans u.symm) (λe A outer s H r Q E o h=>?_);let(t,j,l):=q e A outer s H E o;show#[t,j,wU (xs:=[]) l h]
def Uk{P:VV}{w:Wh}{K:Ld}{d:Str->br Vh}{base:Heap}{x a:Str}{b:XM}{f:Vm}{fd:WA}{N c:bg Str}{k n m:Nat}{g:fJ}{l:iS}(F:YZ K x a b f fd)(S:XX N c (aH b))(D:c.length=n)(hm:N.length=m)(v:l=de m g)
  (z:∀(e:Vh) (A:V7) (outer:bg Env) (s:Vp) (H:Hp) (E:XK),XN k (A.deeper (V0 a (aH b) s.heap.objs.size f e))->
   ∃t,PSs (eB (L4.gR P w) P w K d base N a (aH b) f e A outer s H E) (cw b) t/\om K E t g):FnOk P w K d base (L4.gR P w) (k+1) f fd c (dc K n l):=by
 subst v hm;let(G,C,kV,y,B,I,e,ct,o,rfl,p,j):=F.ex;show Io p j S (λJ H Q E h=>h.1.trans D.symm) λA outer s H J Q E u i=>?_;let(t,q,r):=z e A outer s H E u;show#[t,q,wU (xs:=[]) r i]
abbrev GX(P:VV)(w:Wh)(K:Ld)(b:Str->br B)(base:Heap)(k:Nat)(x:Str)(a:G Str)(n:Nat)(F:iS):Prop:=oM P w K b base k x a (dc K n F)
end L10
namespace PySem.W
open PySem PySem.Calls PyProof.Rows PyProof.V PySem.Spec
section
variable{Y:VV}{w:Wh}{A:V7}{E:Vh->Vp->Prop}{s:Vp}{T:String}{r d:Vm}{n:Nat}{P:Nat->Vh->Prop}{X:Heap->Prop}
def collect_kdl(K:KdlSrc Y w T r d n P X)(m:A.handled=M)(WT:X s.heap)(u:n<=VF)
  (q:∀c k acc,(∀b o,s.heap.get? b=lD o->c.get? b=lD o)->aaU P acc n->Q acc.toList {s with heap:=c,toks:=k}):wpAny (model Y w) A (collect (.ref r)) Q E s:=by
 let i:=K.there _ WT;ext collect;show Vf (wpAny_runValue (Zd F.entry_proto_collect ?_));rw[V7.under_plainId F.plain_proto_collect _];show Vf (WN ?_);show Vt #[YF F.plain_list_iadd _,Zd F.entry_list_iadd ?_];rw[V7.under_plainId F.plain_list_iadd _];let p:(s.heap.push {cls:=.type "list",data:=.seq ([]:G B).toArray}).get? s.heap.objs.size=lD {cls:=.type "list",data:=.seq ([]:G B).toArray}:=cx _ W;show kdl_extend (R:=wants (λv j=>wpAny (model Y w) A (match v with|.ref a=>(load a>>=λo=>match o.data with|.seq xs _=>pure xs.toList|_=>unsupported "internal:collect")|_=>unsupported "internal:collect") Q E j) E) (s:={s with heap:=s.heap.push {cls:=.type "list",data:=.seq ([]:G B).toArray}}) K m (K.keep _ _ WT λb _ o e=>bP _ e) _ (WL i.1) (WL i.2) _ 0 p (λc k h t l f g=>?_) u;show Vf (ahT f ?_);show Vt (q c k h (λb o e=>l b o (VW (cv e)) (bP _ e)) g)
end
end PySem.W
namespace PyProof.Rows
open PySem
section
variable{Y:VV}{w:Wh}{A:V7}{E:Vh->Vp->Prop}{s:Vp}{T:String}{r d:Vm}{n:Nat}{P:Nat->Vh->Prop}{X:Heap->Prop}
def BW(K:PySem.W.KdlSrc Y w T r d n P X)(p:A.handled=M)(WT:X s.heap)(l:n<64)(t:∀acc:Array Vh,aaU P acc n->IntsAre acc.toList ns)
  (h:∀(a c:Heap) (g:Nat) (out:Array Vh) (e:Nat) (f:G Int),(∀b o,s.heap.get? b=R o->a.get? b=R o)->c.get? a.objs.size=R (seqObj "list" out e)->(∀b o,a.get? b=R o->c.get? b=R o)->IntsAre out.toList f->f.Perm ns->f.Pairwise (·<=·)->Q (.ref a.objs.size) {s with heap:=c,toks:=g}):
  wpAny (model Y w) A (call (.builtin "sorted") [.ref r]) Q E s:=by
 show Calls.call_function_entry kind_sorted plain_sorted entry_sorted (args_sorted1 _) (Vf (Vt (Vf (PySem.W.collect_kdl K p WT (by rw[Yb];ext) (λa g acc m C=>Vf (anS ?_ (hsz:=by rw[Wz,C.1,Yb];ext)))))));let i:(a.push (seqObj "list" acc.toList.toArray 0)).get? a.objs.size=R (seqObj "list" acc.toList.toArray 0):=cx _ W;let j:=t acc C;show Vf (Xy (Yl slot_list_sort #[_,i,W] entry_list_sort (list_sort_tree i j (by rw[Wz,C.1];show l) λout f y v u=>#[_,W,Vt #[_,W,?_]]) (args_list_sort _)));let(e,q):=uh i;show h a _ g out e f m q (λb B z=>rb (VW (cv z)) (bP _ z)) y v u
end
end PyProof.Rows
namespace L10
open PySem PySem.Spec PyProof.Rows L2 L3
def Tv(p d:I):HO:=.ext λh=>h.IsValuesView p d
theorem Te(x:h.IsValuesView p d):ObjOk g w H h p (Tv p d):=#[x,let#[o,a,_]:=x;#[o,a],λf e #[o,a,b] k=>#[o,k o a,b]]
def Oe:V->G V->Hp->VK->Prop:=λx b H Q=>∃a e,x=.ref a/\b=[]/\H a=R (.dK e)/\∀p,H p=M->Q (.ref p) (bE H p (Tv p a))
def vV:Sb X "dict.values" Oe:=by intro g s m H x xs v n Q I i f h;let(a,r,rfl,rfl,e,q):=h;ext i;ext f;let(z,l,p,j,dd):=Af I.WT e;show call_meetsIn ZS dd.typeIs PySem.F.entry_dict_values (PySem.F.args_dict_values_1 _) (meets_dict_values (dm X.prog X.w) a l) #[#[p,dd],?_];show#[.ref s.heap.objs.size,_,I.laid (λb o e=>bP _ e) (Vy _) (Te #[_,cx _ W,W,W]),W,q _ (I.WT.fresh (Vy _))]
def Iu:G V->Hp->VK->Prop:=λxs H Q=>∃p a b,xs=[.ref p]/\H p=R (Tv p a)/\H a=R (.dK b)/\∀l,H l=M->Q (.ref l) (bE H l (.lst (b.map (·.2))))
theorem DZ:∀{b:G (o×V)} {a:G (o×B)},KV b a->Vals (b.map (·.2)) (a.map (·.2))
 |_,_,.nil=>.nil
 |_,_,.cons h t=>.cons h.2 (DZ t)
def tW(n:X.calm=P):YG X (.type "list") Iu:=by intro g s C H xs E Q I r h;let(p,a,N,rfl,w,e,q):=h;let(u,rfl,l):=kY r;ext l;let(z,G,S,b,dd):=Af I.WT e;let(K,B):=dd.dictAt;let(i,_,_):=I.WT p _ w;show PySem.W.kdl_call (PySem.W.kdl_values) (I.ok.hd n) #[i,B] (by rw[<-b.length];show z) λJ F f c m t L=>?_;let A:=PySem.W.kdl_vals_eq f.toList (by rw[Wz];show L.1) λj v y=>L.2 j v (by rw[<-XJ];show y);show#[.ref s.heap.objs.size,_,I.laid (o:=.lst (N.map (·.2))) m (Vy _) #[by rw[Vj];show z,f.toList,c,by rw[A];show DZ b,by rw[aeu];show t],W,q _ (I.WT.fresh (Vy _))]
def HL:G V->Hp->VK->Prop:=λxs H Q=>∃(p:I) (e:G (db×V)) (a:G Int),xs=[.ref p]/\H p=R (.dK e)/\e.map (·.1)=a.map Sum.inl/\a.length<64/\∀(l:I) (b:G Int),H l=M->b.Perm a->b.Pairwise (·<=·)->Q (.ref l) (bE H l (.lst (b.map V.int)))
theorem sL:∀{c:G (db×B)} {a:G Int} {us:G B},c.map (·.1)=a.map Sum.inl->us.length=c.length->(∀(j:Nat) (u:B),us[j]?=R u->∃k x,c[j]?=R (k,x)/\(dm prog w).is k u=P)->IntsAre us a
 |[],[],[],_,_,_=>.nil
 |[],[],_::_,_,h,_=>by simp at h
 |[],_::_,_,h,_,_=>by simp at h
 |_::_,[],_,h,_,_=>by simp at h
 |_::_,_::_,[],_,h,_=>by simp at h
 |(k,y)::c,n::a,u::us,h1,m,l=>by rw[VP,VP,ao3]at h1;let(i,x,e,f):=l 0 u W;ext e;let g:=h1.1;subst g;let(t,rfl):=Vh.isInt_shape (show Vh.isInt n u=P from f);show .cons _ _ (sL h1.2 (by simpa using m) λj b e=>l (j+1) b (by simpa using e))
def uE(E:X.calm=Vi):YG X (.builtin "sorted") HL:=by
 intro i s O H xs P Q I r h;let(p,V1,l,rfl,e,J,F,q):=h;let(u,rfl,t):=kY r;ext t;let(z,C,vs,b,dd):=Af I.WT e;let(U,M):=dd.dictAt;let m:vs.map (·.1)=l.map Sum.inl:=by rw[<-b.keys];show J
 let S:vs.length=l.length:=by let:=eH Zu m;simpa using this
 show BW (PySem.W.kdl_dict C) (I.ok.hd E) M () (λN Y=>sL m (by rw[Wz];show Y.1) λj v K=>Y.2 j v (by rw[<-XJ];show K)) λG T R f L w A B g Y n y=>?_;let a:=n.length_eq;let o:=I.kept (t':=s.toks) A;show#[.ref G.objs.size,_,o.laid g (Vy _) ?_,W,q _ w (o.WT.fresh (Vy _)) n y];show#[?_,f.toList,L,kg Y,B];rw[Vj,a];let:(64:Nat)<=VF:=by decide
 ext
end L10
namespace PySem
open Sem (wp)
namespace F
def lk_tuple_keys:typeLookup (.type "tuple") "keys"=pure M:=by rw[abn,ZF];kernel_rfl
def lk_tuple_hook:typeLookup (.type "tuple") "__getattr__"=pure M:=by rw[abn,ZF];kernel_rfl
def sub_ae:isSubtype (.type "AttributeError") (.type "AttributeError")=pure P:=by rw[alO];kernel_rfl
end F
section
variable{Y:VV}{w:Wh}{A:V7}{E:Vh->Vp->Prop}{h:Heap}{g:Array aaR}{d:afK}{t:Nat}{X:aej}{a:Vm}{o:Obj}
def B8{α:Type}{name f:Str}{Q:α->Vp->Prop}{E:B->Vp->Prop}(hm:f.length<=VF)(l:A.handled=M)(i:∀e c k,(∀b o,h.get? b=R o->c.get? b=R o)->(#[c,g,d,k,X]:Vp).TypeIs e "AttributeError"->E e #[c,g,d,k,X]):
  wpAny (model Y w) A (raiseAttrError (.ref a) name f:Sem α) Q E #[h,g,d,t,X]:=by
 let j:¬f.length>VF:=Nat.not_lt.mpr hm;unfold raiseAttrError newExc newTuple
 repeat (any_goals (first|assumption|wp_step))
 show adG (a:=P) F.sub_ae ?_
 repeat (any_goals (first|assumption|wp_step))
 show aht l (i _ _ _ (λb o e=>?_) ?_)
 .show(da _ _ (ej (VW (cv (bP _ e))))).trans (bP _ (bP _ e))
 .show#[_,dt _ (cx _ W) W,W]
def pY{f:Tok}{Q:Fin->Vp->Prop}{E:B->Vp->Prop}{p:Array B}{n:Nat}{i:Array (br B)}(j:h.get? a=R #[.type "tuple",M,.seq p n,i])(m:A.handled=M)(l:∀e c k,(∀b o,h.get? b=R o->c.get? b=R o)->(#[c,g,d,k,X]:Vp).TypeIs e "AttributeError"->E e #[c,g,d,k,X]):
  wpAny (model Y w) A (Builtin.«object.__getattribute__» #[[.ref a,.str "keys" f],[]]) Q E #[h,g,d,t,X]:=by
 let q:(#[h,g,d,t,X]:Vp).TypeIs (.ref a) "tuple":=#[_,j,W];let r:=F.lk_tuple_keys
 repeat (any_goals (first|assumption|wp_step))
 show B8 (by left) m l
def uU{f:Tok}{Q:B->Vp->Prop}{E:B->Vp->Prop}{u:Array B}{n:Nat}{l:Array (br B)}(i:h.get? a=R #[.type "tuple",M,.seq u n,l])(q:A.handled=M)(m:∀e c k,(∀b o,h.get? b=R o->c.get? b=R o)->(#[c,g,d,k,X]:Vp).TypeIs e "AttributeError"->E e #[c,g,d,k,X]):
  wpAny (model Y w) A (getAttrBy (.ref a) (.str "keys" f) Vq) Q E #[h,g,d,t,X]:=by
 let r:(#[h,g,d,t,X]:Vp).TypeIs (.ref a) "tuple":=#[_,i,W];let z:=F.slot_tuple_getattribute.lookup;let y:=F.slot_tuple_getattribute.bind (.ref a);let v:=F.lk_tuple_hook
 repeat (any_goals (first|assumption|wp_step))
 show Yc F.slot_tuple_getattribute.plain F.entry_tuple_ga (F.slot_tuple_getattribute.check _ _ _ _ _ _ _ _ r (F.args_tuple_getattribute_2 _ _) (pY i q λe c k p j=>?_));let fs:=F.sub_ae;show wpAny (model Y w) A (getattributeRaised (Vh.ref a) (Vh.str (Str.ofString "keys") f) (Vh.type "tuple") e M Vq Vq) Q E _;ext getattributeRaised;show Vf (aaT j fs ?_)
 repeat (any_goals (first|assumption|wp_step))
 show m e c k p j
def rA(f:h.get? a=R #[.type "tuple",M,.seq J n,C])(l:A.handled=M)(i:∀c k,(∀b o,h.get? b=R o->c.get? b=R o)->Q M #[c,g,d,k,X]):
  wpAny (model Y w) A (getAttr? (.ref a) "keys") Q E #[h,g,d,t,X]:=by
 unfold getAttr? getAttrBy?;let fs:=F.sub_ae;show Vf ?_
 repeat (any_goals (first|assumption|(specialize uU f l λe c k j m=>?_)|wp_step))
 show i c k j
namespace F
theorem entry_upd_loop:entryFor table "dict.update.loop"=R Builtin.«dict.update.loop»:=entryFor_of_tree (by kernel_rfl)
def plain_upd_loop:plainId "dict.update.loop"=P:=by left
end F
end
section
variable{prog:VV}{w:Wh}{A:V7}{E:Vh->Vp->Prop}{s:Vp}{K:Type}[DecidableEq K]{knd:KeyKind prog w K}{I dd Z:Vm}{items:Array Vh}{ks:bg (K×Vh)}{R:abQ->Vp->Prop}
def Cc(a:G (K×B))(k:K)(v:B):(stored a k v).length<=a.length+1:=by
 ext stored;split
 .rw[Vj];ext
 .rw[Vs];show Vy _
theorem ri:∀(a c:G (K×B)),(merged c a).length<=c.length+a.length
 |[],c=>Vy _
 |p::r,c=>by let e:=ri r (stored c p.1 p.2);let b:=Cc c p.1 p.2;show(merged (stored c p.1 p.2) r).length<=_;rw[VI];ext
def A3(a:G (K×B)):(merged [] a).length<=a.length:=by let:=ri a [];simpa using this
def Jv{Q:Heap}(D:A.handled=Vg)(H:Z≠I)(P:I≠dd)(O:Z≠dd)(d:∀(i:Nat) (v:Vh),items[i]?=lD v->∃q key k x,v=.ref q/\q≠dd/\q≠I/\ks[i]?=lD (k,x)/\knd.is k key=Vi/\Q.IsTuple q #v[key,x])(hs:ks.length=items.size)(hz:items.size<=VF)
  (V:∀c l,c.DictOf knd dd (merged [] ks)->(∀b o,b≠dd->b≠I->Q.get? b=lD o->c.get? b=lD o)->R (.ok (.ret .none)) {s with heap:=c,toks:=l}):
  ∀(m i:Nat) (h:Heap) (l:Nat),items.size - i=m->i<=items.size->h.IsTupleIter I Z i->h.IsTuple Z items->h.DictOf knd dd (merged [] (ks.take i))->(∀b o,b≠dd->b≠I->Q.get? b=lD o->h.get? b=lD o)->
   codeAny (model prog w) A (.builtin "dict.update.loop" #[[.ref dd,.ref I,rawInt i,.none],[]]) R {s with heap:=h,toks:=l}:=by
 let W:=Walks.tuple (prog:=prog) (w:=w) (A:=A.in1) D I Z H items;intro m
 induction m with
 |zero=>
  intro i h l hm hi B u t r;let e:i=items.size:=by ext
  subst e;show Zd F.entry_upd_loop ?_;rw[V7.under_plainId F.plain_upd_loop _];show Vf (W.done _ _ _ #[B,u] λc f g=>?_);rw[List.take_of_length_le ()]at t;show Vf (Vt (Vt ?_));show V c f (t.at λo e=>g dd o (by simp;show λz=>P z.symm) e) λb o j a e=>g b o (by simp;show a) (r b o j a e)
 |succ m ih=>
  intro i h l hm hi B u t r;let X:i<items.size:=by ext
  show Zd F.entry_upd_loop ?_;rw[V7.under_plainId F.plain_upd_loop _];show Vf (W.item i _ _ _ X #[B,u] λv c f hv U g=>?_);let(q,key,k,x,rfl,G,n,L,J,ht):=d i v hv;let C:=ht.at λo e=>g q o (by simp;show n) (r q o G n e);let T:=t.at λo e=>g dd o (by simp;show λz=>P z.symm) e;let y:=λb o j a e=>g b o (by simp;show a) (r b o j a e);let(oq,p,N,nq,M):=C;let(cq,dq,dtq,Y):=oq;ext N;ext M;let hT:({s with heap:=c,toks:=f}:Vp).TypeIs (.ref q) "tuple":=#[_,p,rfl];show Vf (Xy (Vf ?_));show abV ?_;ext Builtin.Dict.pairItems;show Vf (aa6 hT ?_);rw[ag ()];show Vf ?_;unfold seqItems?;show Vf (ahT p (Vt (Vt ?_)));show Xy (wpAny_dictSet_pairs J T (λa d2 s2=>?_) ?_)
  .show Vt #[YF F.plain_upd_loop _,?_];let S:∀b o,b≠dd->c.get? b=lD o->a.get? b=lD o:=λb o hb e=>(s2.2 b hb).trans e;show ih (i+1) a (f+1) () X (U.1.at λo e=>S I o P e) (U.2.at λo e=>S Z o O e) ?_ λb o j a e=>S b o j (y b o j a e);rw[merged_take_succ [] ks i (k,x) L];show d2
  .let:(merged [] (ks.take i)).length<=(ks.take i).length:=A3 _;rw[Xg]at this;ext
end
end PySem
namespace PySem
open Sem (wp)
open PyProof.Rows
section
variable{U:VV}{w:Wh}{A:V7}{E:Vh->Vp->Prop}{s:Vp}{K:Type}[DecidableEq K]{X:KeyKind U w K}{Z:Vm}{Y:Array Vh}{T:bg (K×Vh)}{R:abQ->Vp->Prop}
def rq(B:A.handled=Vg)(z:s.heap.get? Z=lD #[.type "tuple",Vg,.seq Y n,sl])(H:T.length=Y.size)(D:Y.size<=VF)
  (I:∀(i:Nat) (v:Vh),Y[i]?=lD v->∃q key k x,v=.ref q/\T[i]?=lD (k,x)/\X.is k key=P/\s.heap.IsTuple q #v[key,x])
  (h:∀c d,c.DictOf X s.heap.objs.size (merged [] T)->(∀b o,s.heap.get? b=lD o->c.get? b=lD o)->Q (.ref s.heap.objs.size) {s with heap:=c,toks:=d}):
  wpAny (model U w) A (call (.type "dict") [.ref Z]) Q E s:=by
 show alP (Q₁:=λobj f=>obj=.ref s.heap.objs.size/\f={s with heap:=s.heap.push {cls:=.type "dict",data:=.dict #v[]}}) F.kt_called_dict (F.kt_typeCall_dict_1 _) F.entry_dict_init (kt_code_dict_new _ #[W,W]) ?_;rintro obj f ⟨rfl,rfl⟩;let a:(s.heap.push {cls:=.type "dict",data:=.dict #v[]}).DictOf X s.heap.objs.size []:=Heap.DictOf.new s.heap;let g:(s.heap.push {cls:=.type "dict",data:=.dict #v[]}).get? Z=lD #[.type "tuple",Vg,.seq Y n,sl]:=bP _ z;let J:({s with heap:=s.heap.push {cls:=.type "dict",data:=.dict #v[]}}:Vp).TypeIs (.ref Z) "tuple":=#[_,g,W];show#[a.typeIs,F.args_dict_init_2 _ _,?_];unfold Builtin.«dict.__init__»;show Vf ?_;ext Builtin.Dict.selfAndRest;show Vf (wpAny_notOrdered_dict a.typeIs ?_);show Vt ?_;show wpAny _ _ (Builtin.Dict.updateFrom "dict.__init__" s.heap.objs.size (.ref Z) [] .none) _ _ _;ext Builtin.Dict.updateFrom;show Vf (aa6 J ?_);rw[ag ()];show Vf (rA g B λc C m=>?_);rw[ag (show(Vg:br Vh).isNone=P from rfl)];show Vf (acu ?_);let l:=m _ _ g;let t:c.IsTuple Z Y:=#[_,l,W,n,W];show Vf (abv t ?_);show Vt #[YF F.plain_upd_loop _,?_];let RK:s.heap.objs.size<c.objs.size:=by let(o,_,_,p,_):=a;show cv (m _ _ p)
 let j:=cv z;show Jv (A:=A.in1) (knd:=X) B (VW (Zj j RK)) (WL RK) (VW j) (λi v e=>?_) H D (λu r N G=>?_) Y.size 0 _ C () (Wo _) #[_,cx _ W,W,W] #[_,bP _ l,W,n,W] ?_ λb o _ _ e=>e
 .let(q,key,k,x,rfl,M,u,o,p,L):=I i v e;let y:=cv p;show#[q,key,k,x,W,VW y,VW (Zj y RK),M,u,o,bP _ (m _ _ (bP _ p)),L]
 .show#[W,h u r N λb o e=>?_];let lb:=cv e;show G b o (VW lb) (VW (Zj lb RK)) (bP _ (m _ _ (bP _ e)))
 .let:=a.at (h':=c.push {cls:=.type "tuple_iterator",data:=.fields #v[.ref Z,.int 0 0]}) λo e=>bP _ (m _ _ e);show this
end
end PySem
namespace L10
open PySem PySem.Spec PyProof.Rows L2 L3
inductive ade(K:Ld)(H:Hp):G V->G (db×V)->Prop
 |nil:ade K H [] []
 |cons {q:I} {k:db} {v:V} {vs:G V} {V1:G (db×V)}:SqT K H q [kV k,v]->ade K H vs V1->ade K H (.ref q::vs) ((k,v)::V1)
def Hl(K:Ld):G V->Hp->VK->Prop:=λxs H Q=>∃p ys a,xs=[.ref p]/\SqT K H p ys/\ade K H ys a/\∀d,H d=M->Q (.ref d) (bE H d (.dK (qH [] a)))
theorem II(I:Inv X pins σ H s):∀{j:G V} {z:G (db×V)} {us:G B},ade X.K H j z->Vals j us->∃d:G (db×B),KV z d/\d.length=us.length/\∀(i:Nat) (v:B),us[i]?=R v->∃q key k x,v=.ref q/\d[i]?=R (k,x)/\(dm X.prog X.w).is k key=P/\s.heap.IsTuple q #v[key,x]
 |_,_,_,.nil,.nil=>#[[],.nil,W,λi v e=>by simp at e]
 |_,_,_,.cons (q:=q) (k:=k) (v:=v) h t,.cons r rs=>by
  let(d,p,o,n):=II I t rs;let(y,A,pl,_):=I.tuple h;ext r;obtain⟨g,f,rfl,m,l⟩:∃g f,y=[g,f]/\RelV (kV k) g/\RelV v f:=by
   cases A with
   |cons a b=>cases b with
    |cons b c=>ext c;show#[_,_,W,a,b]
  show#[(k,f)::d,.cons #[W,l] p,by rw[VI,VI,o],λi u e=>?_];cases i with
  |zero=>ext e;show#[q,g,k,f,W,W,vM m,pl]
  |succ i=>show n i u (by simpa using e)
def Bk(J:X.calm=Vi):YG X (.type "dict") (Hl X.K):=by
 intro f s L H xs N Q I r h;let(p,M,V1,rfl,z,A,q):=h;let(u,rfl,j):=kY r;ext j;let(U,Y,(o,B,(b,n,G),a),y):=I.aic z;let(S,g,w,t):=II I A Y;let(R,P,m,l):=o;ext b;ext G;ext a;let C:=Y.length;let E:=g.length;show rq (I.ok.hd J) B (by rw[VJ];show w) (by rw[VJ,<-C];show y) (λi v e=>t i v (by simpa using e)) λT O dd F=>?_;show#[.ref s.heap.objs.size,_,I.laid F (Vy _) ?_,W,q _ (I.WT.fresh (Vy _))];show A5 ?_ ?_ (KV.merge g .nil) dd
 .let:=nt V1 [];rw[Xb]at this;ext
 .show beq_eq_false_iff_ne.mpr (WL I.big)
end L10
namespace L10
open PySem PyProof.Rows L2 L3
def Rj:WC "dict"=R (.type "dict"):=by left
section
variable{B O O':cJ}{K:Ld}{E:XK}{H H' S R:Hp}{α α' X U:bg Vm}{Z Z' Z1 Y:bh}{T:L2.St}{ρ:bH}{v:V}
def vj:SV->br db
 |.fz (.int i)=>lD (.inl i)
 |.fz (.str x)=>lD (.inr x)
 |_=>M
def sj(e:vj x=lD k)(h:Y5 O K H α v x):v=kV k:=by
 unfold vj at e;split at e
 .ext e;ext h;rfl
 .ext e;ext h;rfl
 .ext e
abbrev wK(O:cJ)(K:Ld)(H:Hp)(α:G I):G (db×V)->G (db×SV)->Prop:=Paired (λ(p:db×V) (q:db×SV)=>p.1=q.1/\Y5 O K H α p.2 q.2)
def i8(Z:bh):SV->br (Nat×G (db×SV))
 |.rf i=>match Z[i]? with
  |some (.dct a)=>lD (i,a)
  |_=>M
 |_=>M
def oh(s:We B K H α Z)(b:Y5 (ow B α Z) K H α v x)(h:i8 Z x=lD (i,o)):Z[i]?=lD (.dct o)/\∃a ws,α[i]?=lD a/\v=.ref a/\H a=lD (.dK ws)/\wK (ow B α Z) K H α ws o:=by
 cases x with
 |fz d=>ext h
 |tp l=>ext h
 |rf j=>
  let(a,n,rfl):=b;unfold i8 at h;dsimp only at h;cases q:Z[j]? with
  |none=>rw[q]at h;ext h
  |some c=>
   rw[q]at h;cases c with
   |dct m=>let e:=VR h;ext e;let(ws,g,f):=s.cel i a _ n q;show#[q,a,ws,n,W,g,f]
   |_=>ext h
def kE(b:G (db×SV))(k:db):br SV:=(b.find? λa=>decide (a.1=k)).map (·.2)
def kW(b:G (db×SV))(k:db)(x:SV):G (db×SV):=
 if(b.any λa=>decide (a.1=k))=P then b.map (λa=>if a.1=k then(a.1,x)else a)else b++[(k,x)]
def oj(b:G (db×SV))(k:db):G (db×SV):=b.filter λa=>decide (a.1≠k)
theorem sB:∀{ws:G (db×V)} {c:G (db×SV)},wK O K H α ws c->(∀x,kE c k=lD x->∃v,lc ws k=lD v/\Y5 O K H α v x)/\(kE c k=M->lc ws k=M)
 |_,_,.nil=>#[λx e=>(by ext e),λ_=>W]
 |(a,u)::ws,(b,y)::c,.cons #[h1,f] t=>by
  ext h1;unfold kE lc;rw[Wn,Wn];by_cases e:a=k
  .simp only[ax e];show#[λx h=>#[u,W,by ext h;show f],λh=>by ext h]
  .simp only[aP e];show sB t
theorem S8:∀{ws:G (db×V)} {d:G (db×SV)},wK O K H α ws d->(ws.any λc=>decide (c.1=k))=d.any λc=>decide (c.1=k)
 |_,_,.nil=>rfl
 |(a,u)::ws,(b,y)::d,.cons #[h1,e] t=>by ext h1;rw[Zt,Zt,S8 t]
theorem QZ(f:Y5 O K H α v x):∀{ws:G (db×V)} {d:G (db×SV)},wK O K H α ws d->wK O K H α (ws.map (λc=>if c.1=k then(c.1,v)else c)) (d.map (λc=>if c.1=k then(c.1,x)else c))
 |_,_,.nil=>.nil
 |(a,u)::ws,(b,y)::d,.cons #[h1,g] t=>by
  ext h1;rw[VP,VP];by_cases e:a=k
  .rw[ag e,ag e];show .cons #[W,f] (QZ f t)
  .rw[av e,av e];show .cons #[W,g] (QZ f t)
def G8(h:wK O K H α ws o)(r:p.1=q.1/\Y5 O K H α p.2 q.2):wK O K H α (ws++[p]) (o++[q]):=by
 induction h with
 |nil=>show .cons r .nil
 |cons a _ b=>show .cons a b
def CQ(a:Y5 O K H α v x)(h:wK O K H α ws o):wK O K H α (jY ws k v) (kW o k x):=by
 unfold jY kW;rw[S8 h];split
 .show QZ a h
 .show G8 h #[W,a]
theorem ul:∀{ws:G (db×V)} {c:G (db×SV)},wK O K H α ws c->wK O K H α (oZ ws k) (oj c k)
 |_,_,.nil=>.nil
 |(a,u)::ws,(b,y)::c,.cons #[h1,f] t=>by
  ext h1;unfold oZ oj;rw[YJ,YJ];by_cases e:a=k
  .let z:decide (a≠k)=Vq:=aP λn=>n e;simp only[z];show ul t
  .let z:=ax e;simp only[z];show .cons #[W,f] (ul t)
def zg(neg:Bool)(a fd:dY):dY:=λρ Z=>(a ρ Z).bind λx Z1=>(fd ρ Z1).bind λo Y=>(RS.WE Y (vj x)).bind λk Y=>(RS.WE Y (i8 Y o)).bind λp Y=>.ok (.fz (.bool ((kE p.2 k).isSome !=neg))) Y
def J3(h:wK O K H α ws o):(lc ws k).isSome=(kE o k).isSome:=by
 let(b,a):=sB h;cases q:kE o k with
 |none=>rw[a q];rfl
 |some x=>let(u,e,_):=b x q;rw[e];rfl
def LZ(p:dg K E C fk)(hd:dg K E J fd):dg K E (SI C J) (zg Vq fk fd):=by intro B T H α Z ρ Q s e w;show p B T H α Z ρ _ s e (w.bind.imp λx X Z1 S t h g v m=>?_);show hd B T S X Z1 ρ _ h (e.Ym t) (g.bind.imp λo U Y R y f b u n=>?_);let(k,l,b):=WS.WE b;let((i,L),j,b):=WS.WE b;let(_,a,ws,A,rfl,r,q):=oh f n j;show#[a,lc ws k,W,by rw[sj l m];show adB.k r,?_];rw[J3 q];show WS.now f b _ ?_;rw[Bool.bne_false];show .bl _
def vB(fd a:dY):dY:=λρ Z=>(fd ρ Z).bind λo Z1=>(a ρ Z1).bind λx Y=>(RS.WE Y (vj x)).bind λk Y=>(RS.WE Y (i8 Y o)).bind λp Y=>RS.WE Y (kE p.2 k)
def zX(hd:dg K E td fd)(t:dg K E J fk):dg K E (ON td J) (vB fd fk):=by
 intro B T H α Z ρ Q s e w;show hd B T H α Z ρ _ s e (w.bind.imp λo X Z1 S G j g u r=>?_);show t B T S X Z1 ρ _ j (e.Ym G) (g.bind.imp λx U Y R F f b v p=>?_);let(k,m,b):=WS.WE b;let((i,L),l,b):=WS.WE b;let(_,a,ws,N,rfl,C,A):=oh f (r.Ym F) l;dsimp only at b;cases q:kE L k with
 |none=>rw[q]at b;show b.elim
 |some y=>rw[q]at b;let(z,n,h):=(sB A).1 y q;show#[a,z,W,by rw[sj m p,<-n];show adB.k C,WS.now f b z h]
def yY(fd e b:dY):fJ:=λρ Z=>(b ρ Z).bind λy Z1=>(fd ρ Z1).bind λo Y=>(e ρ Y).bind λx a=>(RS.WE a (vj x)).bind λk a=>(RS.WE a (i8 a o)).bind λp a=>if p.2.length<1000000 then .ok (.nx ρ) (a.set p.1 (.dct (kW p.2 k y)))else .bad
def JF(hd:dg K E td fd)(c:dg K E tk fk)(Q:dg K E tv fv):om K E (Ot td tk tv) (yY fd fk fv):=by
 intro B T H α Z ρ D s f w;show Q B T H α Z ρ _ s f (WS.imp (WS.bind w) λy X Z1 S q L I t m=>?_);show hd B T S X Z1 ρ _ L (f.Ym q) (WS.imp (WS.bind I) λo U Y R p J G u hu=>?_);show c B T R U Y ρ _ J (f.Ym (q.trans p)) (WS.imp (WS.bind G) λx b g j n A e z P=>?_);let(k,N,e):=WS.WE e;let((i,V1),M,e):=WS.WE e;let(l,a,ws,ha,rfl,g1,C):=oh A (hu.Ym n) M;dsimp only at e;by_cases hn:V1.length<1000000
 .rw[ag hn]at e;let ev:Ev (ow B b g) j (ow B b g) (bE j a (.dK (jY ws k t))):=sK ha l (by nofun);let F:Xt b g j b (g.set i (.dct (kW V1 k y))) (bE j a (.dK (jY ws k t))):=Xt.put ha l (by nofun) (by nofun);let hl:=Paired.length C;show#[a,_,W,by rw[sj N P];show agk.k g1 (vS ()),?_];show e b _ F (A.put ha l (by nofun) (by nofun) #[_,aJ,CQ ((m.Ym (p.trans n)).ev ev λ_ _ h=>h) (Paired.ZW C λ_ _ r=>#[r.1,r.2.ev ev λ_ _ h=>h])]) T ((f.Ym (q.trans (p.trans n))).Ym F)
 .rw[av hn]at e;show e.elim
def Ad(fd a:dY):dY:=λρ Z=>(fd ρ Z).bind λo Z1=>(RS.WE Z1 (i8 Z1 o)).bind λ_ Z1=>(a ρ Z1).bind λx Y=>(RS.WE Y (vj x)).bind λk Y=>(RS.WE Y (i8 Y o)).bind λp Y=>(RS.WE Y (kE p.2 k)).bind λy Y=>.ok y (Y.set p.1 (.dct (oj p.2 k)))
def IZ(hd:dg K E td fd)(L:dg K E tk fk):dg K E (Ig td tk) (Ad fd fk):=by intro B T H α Z ρ Q s j w;show hd B T H α Z ρ _ s j (w.bind.imp λo X Z1 S e1 m f u n=>?_);let((i0,anv),G,f):=WS.WE f;let(_,a,e,_,rfl,N,_):=oh m n G;show#[a,W,.inl #[e,.inl N],?_];show L B T S X Z1 ρ _ m (j.Ym e1) (f.bind.imp λx U Y R e2 l b v J=>?_);let(k,F,b):=WS.WE b;let((i,V1),C,b):=WS.WE b;let(g,a',ws,ha,P,M,p):=oh l (n.Ym e2) C;ext P;dsimp only at b;let(y,q,b):=WS.WE b;let(z,I,A):=(sB p).1 y q;let ev:Ev (ow B U Y) R (ow B U Y) (bE R a (.dK (oZ ws k))):=sK ha g (by nofun);let t:Xt U Y R U (Y.set i (.dct (oj V1 k))) (bE R a (.dK (oZ ws k))):=Xt.put ha g (by nofun) (by nofun);show#[ws,k,z,M,sj F J,I,?_];show b U _ t (l.put ha g (by nofun) (by nofun) #[_,aJ,ul (Paired.ZW p λ_ _ r=>#[r.1,r.2.ev ev λ_ _ h=>h])]) z (A.Ym t)
def ph(s:We B K H α Z)(a:H p=M)(w:WS K E B H α Z (PQ B K Q) (.ok (.rf Z.length) (Z++[c])))(f:∀e:Xt α Z H (α++[p]) (Z++[c]) (bE H p o),COk (ow B (α++[p]) (Z++[c])) K (bE H p o) (α++[p]) p c):Q (.ref p) (bE H p o):=by let b:Xl H (bE H p o):=bq a _;let e:Xt α Z H (α++[p]) (Z++[c]) (bE H p o):=Xt.acU s.len b a;show w _ _ e (s.acU b a (by rw[aJ];simp) (f e)) _ #[p,by rw[<-s.len];show bc,W]
def Dm(fd:dY):dY:=λρ Z=>(fd ρ Z).bind λo Z1=>(RS.WE Z1 (i8 Z1 o)).bind λp Z1=>.ok (.rf Z1.length) (Z1++[.lst (p.2.map (·.2))])
theorem zR:∀{ws:G (db×V)} {a:G (db×SV)},wK O K H α ws a->Yx O K H α (ws.map (·.2)) (a.map (·.2))
 |_,_,.nil=>.nil
 |_,_,.cons h t=>.cons h.2 (zR t)
def yL(hd:dg K E J fd):dg K E (Gb Iu (fU (Tf K "dict" Oe J) kQ)) (Dm fd):=by intro B T H α Z ρ Q s m w;show hd B T H α Z ρ _ s m (w.bind.imp λo X Z1 S F h f u t=>?_);let((i,N),q,f):=WS.WE f;let(C,a,ws,L,rfl,g,A):=oh h t q;show#[.inr (.inr (.inl #[W,.inl #[ws,g]])),a,ws,W,W,g,λp y=>?_];let b:Xl S (bE S p (Tv p a)):=bq y _;let n:=h.grow b;let j:=WS.from (Xt.same b) f;show#[p,a,ws,W,aJ,b _ _ g,λl z=>?_];show ph n z j λe=>#[_,aJ,zR (Paired.ZW A λ_ _ r=>#[r.1,(r.2.Ym (Xt.same b)).Ym e])]
def Bu:db->br Int
 |.inl i=>lD i
 |.inr _=>M
def vW(fd:dY):dY:=λρ Z=>(fd ρ Z).bind λo Z1=>(RS.WE Z1 (i8 Z1 o)).bind λp Z1=>(RS.WE Z1 (a8 Bu (p.2.map (·.1)))).bind λa Z1=>if a.length<64 then .ok (.rf Z1.length) (Z1++[.lst ((lA a).map λi=>SV.fz (.int i))])else .bad
theorem tG:∀{c:G db} {a:G Int},a8 Bu c=lD a->c=a.map Sum.inl
 |[],_,e=>by ext e;rfl
 |k::r,a,e=>by
  unfold a8 at e;cases k with
  |inr x=>ext e
  |inl i=>
   dsimp only[Bu]at e;cases q:a8 Bu r with
   |none=>rw[q]at e;ext e
   |some b=>rw[q]at e;ext e;rw[VP,<-tG q]
theorem zl:∀{ws:G (db×V)} {a:G (db×SV)},wK O K H α ws a->ws.map (·.1)=a.map (·.1)
 |_,_,.nil=>rfl
 |_,_,.cons h t=>by rw[VP,VP,h.1,zl t]
theorem CK(O:cJ)(K:Ld)(H:Hp)(α:G I):∀ns:G Int,Yx O K H α (ns.map V.int) (ns.map λi=>SV.fz (.int i))
 |[]=>.nil
 |n::r=>.cons (.int n) (CK O K H α r)
def zM(hd:dg K E J fd):dg K E (Gb HL (fU J kQ)) (vW fd):=by
 intro B T H α Z ρ Q s h w;show hd B T H α Z ρ _ s h (w.bind.imp λo X Z1 S F g b u n=>?_);let((i,N),m,b):=WS.WE b;let(A,a,ws,L,rfl,y,t):=oh g n m;let(f,j,b):=WS.WE b;by_cases hn:f.length<64
 .rw[ag hn]at b;show#[a,ws,f,W,y,by rw[zl t];show tG j,hn,λl C r q p=>?_];let z:=mz (q.trans (gc f).symm) p (fH f);subst z;show ph g r b λe=>#[_,aJ,CK _ _ _ _ _]
 .rw[av hn]at b;show b.elim
def uo:D->br (db×SV)
 |.tuple [.int i,d]=>lD (.inl i,.fz d)
 |.tuple [.str x,d]=>lD (.inr x,.fz d)
 |_=>M
def yt:SV->br (G (db×SV))
 |.fz (.tuple ds)=>a8 uo ds
 |_=>M
def Fo(e:yt x=lD o):∃ds,x=.fz (.tuple ds)/\a8 uo ds=lD o:=by
 unfold yt at e;split at e
 .show#[_,W,e]
 .ext e
def nK(c a:G (db×SV)):G (db×SV):=a.foldl (λb e=>kW b e.1 e.2) c
def yI(b:dY):dY:=λρ Z=>(b ρ Z).bind λx Z1=>(RS.WE Z1 (yt x)).bind λa Z1=>.ok (.rf Z1.length) (Z1++[.dct (nK [] a)])
theorem z4:∀{m:G V} {ds:G D} {k:G (db×SV)},L3.Xn O K H m ds->a8 uo ds=lD k->∃j,ade K H m j/\wK O K H α j k
 |_,_,_,.nil,e=>by ext e;show#[[],.nil,.nil]
 |_,_,_,.cons (d:=d) (ds:=ds) h t,e=>by
  unfold a8 at e;cases q:uo d with
  |none=>rw[q]at e;ext e
  |some p=>
   rw[q]at e;dsimp only at e;cases l:a8 uo ds with
   |none=>rw[l]at e;ext e
   |some k=>
    rw[l]at e;ext e;let(j,i,g):=z4 t l;unfold uo at q;split at q
    .ext q
     cases h with
     |tup h f=>cases f with
      |cons a b=>cases b with
       |cons b c=>ext c;ext a;show#[(.inl _,_)::j,.cons h.1 i,.cons #[W,b] g]
    .ext q
     cases h with
     |tup h f=>cases f with
      |cons a b=>cases b with
       |cons b c=>ext c;ext a;show#[(.inr _,_)::j,.cons h.1 i,.cons #[W,b] g]
    .ext q
theorem Eh:∀{e:G (db×V)} {f:G (db×SV)} {ws:G (db×V)} {c:G (db×SV)},wK O K H α e f->wK O K H α ws c->wK O K H α (qH ws e) (nK c f)
 |_,_,_,_,.nil,h=>h
 |(a,u)::e,(b,y)::f,_,_,.cons r t,h=>by let(i,g):=r;ext i;show wK O K H α (qH (jY _ a u) e) (nK (kW _ a y) f);show Eh t (CQ g h)
def Ke(n:dg K E C J):dg K E (Gb (Hl K) (fU C kQ)) (yI J):=by
 intro B T H α Z ρ Q s f w;show n B T H α Z ρ _ s f (w.bind.imp λx X Z1 S p g b u l=>?_);let(y,q,a):=WS.WE b;let(ds,rfl,q):=Fo q;let a:=a;cases l with
 |tup h m=>let(t,j,i):=z4 m q;show#[_,_,t,W,h.1,j,λd o=>ph g o a λe=>#[_,aJ,Eh (Paired.ZW i λ_ _ r=>#[r.1,r.2.Ym e]) .nil]]
end
end L10
namespace PySem
open PyProof.Rows
def m9:br Int->Int->br Int
 |none,x=>R x
 |some m,x=>R (if x>m then x else m)
def Ss:br (Int×Tok)->Array B
 |none=> #v[]
 |some (m,t)=> #v[.int m t,.int m t]
def O0(d:B):br (Int×Tok)->B
 |none=>d
 |some (m,t)=>.int m t
namespace F
def args_maxd(a b:B):checkBuiltinCall "max" #[[a],[("default",b)]]=pure ⟨⟩:=by kernel_rfl
end F
section
variable{prog:VV}{w:Wh}{A:V7}{E:Vh->Vp->Prop}{R:abQ->Vp->Prop}{I l S:Vm}{vs:bg Vh}{d:Vh}
def LA(hh:A.handled=Vg)(D:l≠I)(r:S≠I)(Q:S≠l){s:Vp}:
  ∀{B:bg Vh} {ns:bg Int},IntsAre B ns->∀(i:Nat) (h:Heap) (M:Nat) (b:br (Int×Tok)) (c:Nat),vs=vs.take i++B->i<=vs.length->h.IsListIter I l i->h.IsList l vs.toArray->h.get? S=lD {cls:=.type "list",dict:=Vg,data:=.seq (Ss b) c,slots:= #v[]}->
  (∀x M V,V.map (·.1)=ns.foldl m9 (b.map (·.1))->(∀a o,a≠I->a≠S->h.get? a=lD o->x.get? a=lD o)->R (.ok (.ret (O0 d V))) {s with heap:=x,toks:=M})->
  codeAny (model prog w) A (.builtin "max.loop" #[[.ref I,.none,.ref S],[("default",d)]]) R {s with heap:=h,toks:=M}:=by
 let W:=Walks.list (prog:=prog) (w:=w) (A:=A.in1) hh I l D vs.toArray;intro B ns hi
 induction hi with
 |nil=>
  intro i h M b c u hi it li T L;let e:i=vs.toArray.size:=by rw[V2]at u;let:=eH Zu u;rw[Xg]at this;rw[VJ];ext
  show Zd F.entry_max_loop ?_;rw[V7.under_plainId F.plain_max_loop _];show Vf (Xe T rfl ?_);show Vf (abV (W.done _ _ _ (e▸#[it,li]) λx g y=>?_));let f:=y S _ (by simpa using r) T;cases b with
  |none=>show Vf (acu (Vt ?_));show L x g Vg rfl λa o j z e=>y a o (by simpa using j) e
  |some p=>let(m,t):=p;show Vf (abo f rfl (Vf (YU (Vt ?_))) (hz:=by show 2<=VF;decide));show L _ g (lD (m,t)) rfl λa o j z e=>(da _ _ (ej z)).trans (y a o (by simpa using j) e)
 | @cons n t ami ajz hr ih=>
  intro i h M b c u hi it li T L;let ZO:i<vs.toArray.size:=by let:=eH Zu u;rw[Vs,Xg,VI]at this;rw[VJ];ext
  let O:vs[i]?=lD (.int n t):=by rw[u,V5 (by rw[Xg];ext),Xg,acR hi,ajw];rfl
  let C:vs=vs.take (i+1)++ami:=by rw[Yt,O];rw[Wc];show u
  let G:i+1<=vs.length:=by rw[VJ]at ZO;show ZO
  show Zd F.entry_max_loop ?_;rw[V7.under_plainId F.plain_max_loop _];show Vf (Xe T rfl ?_);show Vf (abV (W.item i _ _ _ ZO #[it,li] λv x g hP K y=>?_));let ev:v=.int n t:=by let U:=hP;rw[List.getElem?_toArray,O]at U;show(VR U).symm
  subst ev;let f:=y S _ (by simpa using r) T;let J:(toString "max"++toString ".loop":String)= "max.loop":=by decide
  cases b with
  |none=>
   show wpAny _ A.in1 (updateSeq S (λ_=> #v[Vh.int n t,Vh.int n t])>>=_) _ _ _;show Vf (abo f rfl ?_);rw[J];show Vt #[YF F.plain_max_loop _,ih (i+1) _ g (lD (n,t)) _ C G (K.1.at λo e=>?_) (K.2.at λo e=>?_) (dt _ f rfl) λz q Y X N=>L z q Y X λa o j H e=>N a o j H ((da _ _ (ej H)).trans (y a o (by simpa using j) e))]
   .show(da _ _ r).trans e
   .show(da _ _ Q).trans e
  |some p=>
   let(m,Z):=p;show wpAny _ A.in1 (tryCatch (holding [Vh.int n t,Vh.int n t] (richCompare .Gt (Vh.int n t) (Vh.int m Z)>>=_)) _>>=_) _ _ _;let amU:=CmpOf.ints_gt (prog:=prog) (w:=w) (A:=A.in1) (P:=λ(k:Nat) v=>(k=0/\v=Vh.int n t)\/(k=1/\v=Vh.int m Z)) (λk=>if k=0 then n else m) λk v u=>by
    rcases u with⟨rfl,rfl⟩|⟨rfl,rfl⟩
    .show#[t,rfl]
    .show#[Z,rfl]
   show Vf (abV (Xy (Vf (amU 0 1 _ _ _ _ _ (.inl #[rfl,rfl]) (.inr #[rfl,rfl]) ?_))));show Vf (Xy (YH ?_));show Vf (YU (Vt ?_));show wpAny _ A.in1 (if decide (n>m)=Vi then _ else _) _ _ _;by_cases hb:n>m
   .rw[ag (ax hb)]
    show Vf (abo f rfl (Vf (YU ?_)) (hz:=by show 2<=VF;decide));rw[J];show Vt #[YF F.plain_max_loop _,ih (i+1) _ g (lD (n,t)) _ C G (K.1.at λo e=>?_) (K.2.at λo e=>?_) (dt _ f rfl) λz q Y X N=>L z q Y ?_ λa o j H e=>N a o j H ((da _ _ (ej H)).trans (y a o (by simpa using j) e))]
    .show(da _ _ r).trans e
    .show(da _ _ Q).trans e
    .rw[X];show _=ajz.foldl m9 (lD (if n>m then n else m));rw[ag hb];rfl
   .rw[av (by rw[aP hb];show Vu)];show Vf (YU ?_);rw[J];show Vt #[YF F.plain_max_loop _,ih (i+1) _ g (lD (m,Z)) c C G K.1 K.2 f λz q Y X N=>L z q Y ?_ λa o j H e=>N a o j H (y a o (by simpa using j) e)];rw[X];show _=ajz.foldl m9 (lD (if n>m then n else m));rw[av hb];rfl
def EJ(n:A.handled=M)(g:s.heap.IsList l vs.toArray)(r:IntsAre vs ns)
  (q:∀c k b,b.map (·.1)=ns.foldl m9 M->(∀a o,s.heap.get? a=lD o->c.get? a=lD o)->Q (O0 d b) {s with heap:=c,toks:=k}):
  wpAny (model prog w) A (call (.builtin "max") [.ref l] [("default",d)]) Q E s:=by
 let j:l<s.heap.objs.size:=by let(_,e,_):=g;show cv e
 let h:(toString "max"++toString ".loop":String)= "max.loop":=by decide
 show aah (Yc F.plain_max F.entry_max (adG (F.args_maxd _ _) ?_));show Vf (adG (show Builtin.Builtins.bindParams "max" ["key","default"] 0 #[[],[("default",d)]]=pure [M,lD d]from rfl) ?_);show Vf (Vt ?_);show Vf (ZX g ?_);show Vf (WN ?_);rw[h];let f:(s.heap.push {cls:=.type "list_iterator",data:=.fields #v[.ref l,.int 0 0]}).objs.size=s.heap.objs.size+1:=dN _ _;show Vt #[YF F.plain_max_loop _,LA n (VW j) (by rw[f];show Nat.succ_ne_self _) (by rw[f];show WL (aae j)) r 0 _ s.toks M 0 W (Wo _) #[_,bP _ (cx _ W),W,W] ((g.push _).push _) (cx _ W) λc k b p m=>?_];show q c k b p λa o e=>?_;let i:=cv e;show m a o (VW i) (by rw[f];show VW (aae i)) (bP _ (bP _ e))
end
end PySem
namespace L10
open PySem PySem.Spec PyProof.Rows L2 L3
def Pc(K:Ld)(i:Int):G V->Hp->VK->Prop:=λxs H Q=>∃(p:I) (a:G Int),xs=[.ref p]/\SqL K H p (a.map V.int)/\Q (.int ((a.foldl m9 M).getD i)) H
def Ez(C:X.calm=P)(B:Gl X "max")(hm:X.mg "max"=Vg)(c:PA X [l] U)(g:So l=Vq:=by rfl):
  PE X (.Call (.Name "max" p) [l] [#[R "default",.Constant (.int i) j p1,p2]] pos) (Gb (Pc X.K i) U):=by
 intro e s n H Q I h;show Xw (mn I B hm OQ (callWith_kw (cR (c pos e s n H _ I h) λG o #[T,F,f,v,w]=>?_) (by rw[v3 _ _ _ g];rfl) (by rw[v3 _ _ _ g];rfl) W W));let(a,y,rfl,z,q):=w;let(u,rfl,r):=kY v;ext r;let(N,S,pl,L):=f.list z;show akH (ahR (akI ?_));let O:=f.tok (o.toks+1);show EJ (f.ok.hd C) pl.isList (n9 S) λM J b E A=>?_;show#[.int ((y.foldl m9 Vg).getD i),F,f.kept A,?_,q];rw[<-E];cases b with
 |none=>show#[_,W]
 |some p=>let(m,t):=p;show#[t,W]
def Kh(i:Int):G D->br RV
 |[.list ds]=>(qA ds).map λa=>.fz (.int ((a.foldl m9 M).getD i))
 |_=>M
def CS{K:Ld}:JL K (Pc K i) (Kh i):=by
 intro O H xs ds r Q n f e q;unfold Kh at e;split at e
 .rename_i o
  cases f with
  |cons l j=>
   ext j;cases m:qA o with
   |none=>rw[m]at e;ext e
   |some b=>rw[m]at e;ext e;let(a,p,rfl,h,g):=Gq l;obtain rfl:=rS g m;show#[a,b,W,h.sq,q.at (.int _)]
 .ext e
end L10
namespace L10
open PySem L2 L3
section
variable{B O O':cJ}{K:Ld}{E:XK}{H H' H1 H2:Hp}{α Y U α2:bg Vm}{Z X Z1 Z2:bh}{σ:L2.St}{ρ:bH}{v:V}
def iG{l r:G A}(h:(l++r)[i]?=R y):l[i]?=R y\/∃j,i=l.length+j/\r[j]?=R y:=by
 by_cases hi:i<l.length
 .rw[VN hi]at h;show .inl h
 .rw[V5 ()]at h;show .inr #[i - l.length,by ext,h]
def Ma{l r:G A}{i:Nat}(h:l[i]?=R y):(l++r)[i]?=R y:=by rw[VN (Vk.mp h).1];show h
def Jn{l r:G A}(h:r[i]?=R y):(l++r)[l.length+i]?=R y:=by rw[V5 (),aar];show h
def Ix(g:α.length=Z.length)(h:Lv (α++o) (Z++cs) b):Lv α Z b\/b∈o:=by
 let(i,d,f,e,a):=h;rcases iG f with g1|⟨j,m,g1⟩
 .rcases iG e with g2|⟨k,l,g2⟩
  .show .inl #[i,d,g1,g2,a]
  .let:=(Vk.mp g1).1;ext
 .show .inr (VQ g1)
theorem Xt.adq(s:We B K H α Z)(e:Xl H H')(f:∀p∈ps,H p=M):Xt α Z H (α++ps) (Z++cs) H':=
 #[λi a h=>Ma h,λb u q _=>e b u q,λb z=>(Ix s.len z).imp id λz=>f b z]
def We.adq(s:We B K H α Z)(e:Xl H H')(f:∀p∈ps,H p=M)(m:∀p∈ps,H' p≠M)(nd:∀(i j:Nat) (a:I),ps[i]?=R a->ps[j]?=R a->i=j)(t:ps.length=cs.length)
  (new:∀(i:Nat) (a:I) (c:Cell),ps[i]?=R a->cs[i]?=R c->COk (ow B (α++ps) (Z++cs)) K H' (α++ps) a c):We B K H' (α++ps) (Z++cs):=by
 let ev:Xt α Z H (α++ps) (Z++cs) H':=Xt.adq s e f;let n:∀b,H b≠M->H' b≠M:=λb h z=>h (e.free z);show#[by rw[Vs,Vs,s.len,t],λi j a g l=>?_,λa h=>n a (s.bn a h),λa h i q=>?_,λi a h=>?_,λi a d g l=>?_]
 .rcases iG g with g1|⟨A,u,g1⟩<;>rcases iG l with g2|⟨y,C,g2⟩
  .show s.nd i j a g1 g2
  .show a6 (f a (VQ g2)) (s.al i a g1)
  .show a6 (f a (VQ g1)) (s.al j a g2)
  .let:=nd A y a g1 g2;ext
 .rcases iG q with q|⟨j,_,q⟩
  .show s.ba a h i q
  .show s.bn a h (f a (VQ q))
 .rcases iG h with h|⟨j,_,h⟩
  .show n a (s.al i a h)
  .show m a (VQ h)
 .let r:=s.len
  rcases iG l with g2|⟨j,C,g2⟩
  .rcases iG g with g1|⟨k,u,g1⟩
   .show(s.cel i a d g1 g2).ev ev.ev ev.pre λo q=>e _ _ q
   .let:=(Vk.mp g2).1;ext
  .rcases iG g with g1|⟨k,u,g1⟩
   .let:=(Vk.mp g1).1;ext
   .let:k=j:=by ext
    subst this;show new k a d g1 g2
def Gr(X:bh):Nat->G AV->br (G AV×G (G D)×G Nat)
 |_,[]=>R ([],[],[])
 |n,.fz d::r=>match Gr X n r with
  |some (l,cs,a)=>R (.fz d::l,cs,a)
  |none=>M
 |n,.rf i::r=>match sh X (.rf i)with
  |some (.list ds)=>(match Gr X (n+1) r with
   |some (l,cs,a)=>R (.rf n::l,ds::cs,i::a)
   |none=>M)
  |_=>M
def TL(ds:G D):Cell:=.lst (ds.map .fz)
def sD(x:SV)(X Z:bh):RS SV:=match x with
 |.fz d=>.ok (.fz d) Z
 |.rf i=>(match sh X (.rf i)with
  |some (.list ds)=>lZ Z (.ow ds)
  |_=>.bad)
 |.tp l=>(match Gr X Z.length l with
  |some (a,cs,b)=>if b.Nodup then .ok (.tp a) (Z++cs.map TL)else .bad
  |none=>.bad)
def xw(h:sh Z (.rf i)=R (.list ds)):∃xs,Z[i]?=R (.lst xs)/\a8 zK xs=R ds:=by
 unfold sh at h;dsimp only at h;cases q:Z[i]? with
 |none=>rw[q]at h;ext h
 |some c=>
  rw[q]at h;cases c with
  |lst xs=>
   dsimp only at h;cases a:a8 zK xs with
   |none=>rw[a]at h;ext h
   |some b=>rw[a]at h;ext h;show#[xs,W,a]
  |_=>ext h
def nO(s:We B K H α Z)(h:sh Z (.rf i)=lD (.list ds)):∃a c,α[i]?=lD a/\H a=lD (.lst c)/\L3.Xn (ow B α Z) K H c ds/\ow B α Z a:=by let(xs,b,f):=xw h;let(a,l):=s.at b;let(c,j,g):=s.cel i a _ l b;show#[a,c,l,j,lj (dQ (R:=Y5 (ow B α Z) K H α) (λv x y r e=>A1 r e) g f),.inr #[i,_,l,b,by intro z;ext z]]
theorem Hw{o:cJ}(s:We o K H' Y X):∀{n:Nat} {l u:bg AV} {cs:bg (bg D)} {g:bg Nat} {xs:bg V},Gr X n l=R (u,cs,g)->Paired (AOk (ow o Y X) K H' Y) xs l->
  ∃c:bg Vm,c.length=g.length/\cs.length=g.length/\(∀(k j:Nat),g[k]?=R j->∃a ds x,c[k]?=R a/\cs[k]?=R ds/\Y[j]?=R a/\H' a=R (.lst x)/\L3.Xn (ow o Y X) K H' x ds/\ow o Y X a)/\
   ∀(b:bg Vm),b.length=n->Paired (AOk (ow o Y X) K H' (b++c)) xs u
 |_,[],_,_,_,_,e,.nil=>by ext e;show#[[],W,W,λk j h=>by simp at h,λb _=>.nil]
 |n,.fz d::r,u,cs,g,_,e,.cons h t=>by
  unfold Gr at e;cases q:Gr X n r with
  |none=>rw[q]at e;ext e
  |some p=>let(I,F,w):=p;rw[q]at e;ext e;let(c,C,A,z,y):=Hw s q t;show#[c,C,A,z,λb f=>.cons h (y b f)]
 |n,.rf i::r,u,cs,g,_,e,.cons h t=>by
  unfold Gr at e;cases Q:sh X (.rf i)with
  |none=>rw[Q]at e;ext e
  |some d=>
   rw[Q]at e;cases d with
   |list ds=>
    dsimp only at e;cases q:Gr X (n+1) r with
    |none=>rw[q]at e;ext e
    |some p=>
     let(I,F,w):=p;rw[q]at e;ext e;let(c,C,A,z,y):=Hw s q t;let(a,x,S,J,M,L):=nO s Q;show#[a::c,by rw[VI,VI,C],by rw[VI,VI,A],λk j G=>?_,λb f=>?_]
     .cases k with
      |zero=>ext G;show#[a,ds,x,W,W,S,J,M,L]
      |succ k=>show z k j (by simpa using G)
     .let N:b++a::c=(b++[a])++c:=by simp
      let(P,m,rfl):=h;rw[S]at m;ext m;show .cons #[a,by rw[<-f];show Jn (l:=b) (r:=a::c) (i:=0) W,W] ?_;rw[N];show y (b++[a]) (by rw[Vs,f];rfl)
   |_=>ext e
def Fc(s:We B K H α Z)(w:WS K E B H α Z (PQ B K Q) (sD x X Z))(D:Xt [] [] H Y X H')(G:We (ow B α Z) K H' Y X)(J:Y5 (ow (ow B α Z) Y X) K H' Y v x):Q v H':=by
 let C:=λb o h=>D.kp b o h λ#[i,c,q,_]=>by simp at q
 let sub:∀b,ow B α Z b->ow (ow B α Z) Y X b:=λb z=>.inl z;let fr:=λi a c R h2 h3=>(D.lv a #[i,c,R,h2,h3]).elim (λ#[i,c,q,_]=>by simp at q) id;cases x with
 |fz d=>show w α H' (Xt.same C) (s.grow C) v (DV.ev (Ev.sub sub) J)
 |rf i=>
  unfold sD at w;dsimp only at w;cases qs:sh X (.rf i)with
  |none=>rw[qs]at w;show w.elim
  |some d=>
   rw[qs]at w;cases d with
   |list ds=>let(a,vs,ha,R,hd,M):=nO G qs;let(xs,e,_):=xw qs;let(a',F,rfl):=J;rw[ha]at F;ext F;show uH s w C (fr i a _ ha e (by nofun)) R hd sub M
   |_=>show w.elim
 |tp l=>
  unfold sD at w;dsimp only at w;cases qg:Gr X Z.length l with
  |none=>rw[qg]at w;show w.elim
  |some p=>
   let(l',cs,I):=p;rw[qg]at w;dsimp only at w;by_cases hn:I.Nodup
   .rw[ag hn]at w
    let(a,xs,rfl,ht,hl):=J;let(ps,g1,g2,g3,g4):=Hw G qg hl;let A:∀(k:Nat) (b:Vm),ps[k]?=lD b->∃j ds vs,I[k]?=lD j/\cs[k]?=lD ds/\Y[j]?=lD b/\H' b=lD (.lst vs)/\L3.Xn (ow (ow B α Z) Y X) K H' vs ds/\ow (ow B α Z) Y X b:=λk b hb=>by
     let f:k<I.length:=by rw[<-g1];show(Vk.mp hb).1
     let(b',ds,vs,e,y,u,m,t,g):=g3 k _ (Vv f);rw[hb]at e;ext e;show#[_,ds,vs,Vv f,y,u,m,t,g]
    let nB:∀(j:Nat) (b:Vm),Y[j]?=lD b->ow (ow B α Z) Y X b->H b=Vg:=λj b N M=>by
     rcases M with z|⟨i,c,z1,z2,z3⟩
     .show a6 N (G.ba b z j)
     .show fr i b c z1 z2 z3
    let fp:∀p∈ps,H p=Vg:=λp L=>by let(k,f):=WX.mp L;let(j,ds,vs,e,y,u,m,t,g):=A k p f;show nB j p u g
    let n:∀b,ow B (α++ps) (Z++cs.map TL) b->ow (ow B α Z) Y X b:=λb z=>by
     rcases z with z|z
     .show .inl (.inl z)
     .rcases Ix s.len z with z|z
      .show .inl (.inr z)
      .let(k,f):=WX.mp z;let(j,ds,vs,e,y,u,m,t,g):=A k b f;show g
    let ev:=Xt.adq (cs:=cs.map TL) s C fp;show w (α++ps) H' ev (s.adq C fp (λp L=>?_) (λi j b hi N=>?_) (by rw[Vj,g1,g2]) λi b c hi T=>?_) (.ref a) #[a,xs,W,ht.ev (Ev.sub n),Paired.ZW (g4 α s.len) λ_ _ r=>r.ev (Ev.sub n) λ_ _ h=>h]
    .let(k,f):=WX.mp L;let(j,ds,vs,e,y,u,m,t,g):=A k p f;rw[m];simp
    .let(j1,_,_,S,_,p3,_):=A i b hi;let(j2,_,_,r1,_,r3,_):=A j b N;let:=G.nd j1 j2 b p3 r3;subst this;let P:=(Vk.mp S).1;show(List.getElem?_inj P hn).mp (S.trans r1.symm)
    .let(j,ds,vs,e,y,u,m,t,g):=A i b hi;rw[Vx,y]at T;ext T;show#[vs,m,mf _ _ (t.ev (Ev.sub n))]
   .rw[av hn]at w;show w.elim
def uD(F:iS)(n:Nat)(xs:G SV)(Z:bh):RS SV:=if xs.length=n then(match a8 zK xs with
 |some ds=>(match F (ds.map .fz) []with
  |.ok x X=>sD x X Z
  |.er x _=>.er x Z
  |.bad=>.bad)
 |none=>.bad)else .bad
def ny(F:iS)(n:Nat)(a:sS):dY:=λρ Z=>(a ρ Z).bind λxs Z1=>g8 (uD F n xs Z1)
theorem G4(h:∀a,B a->H a≠M):We B K H [] []:=#[W,λi j a h=>by simp at h,h,λa h i=>by simp,λi a h=>by simp at h,λi a c h=>by simp at h]
theorem DM:∀{xs:G SV} {ds:G D},a8 zK xs=R ds->xs=ds.map .fz
 |[],_,e=>by ext e;rfl
 |x::r,ds,e=>by
  unfold a8 at e;cases x with
  |fz d=>
   dsimp only[zK]at e;cases q:a8 zK r with
   |none=>rw[q]at e;ext e
   |some a=>rw[q]at e;ext e;rw[VP,<-DM q]
  |rf i=>ext e
  |tp l=>ext e
def KG(s:We B K H α Z)(e:Yx (ow B α Z) K H α C xs)(w:WS K E B H α Z (PQ B K Q) (uD F n xs Z)):dc K n F C H Q E:=by
 unfold uD at w;by_cases hn:xs.length=n
 .rw[ag hn]at w
  show#[e.length.trans hn,?_];cases q:a8 zK xs with
  |none=>rw[q]at w;show w.elim
  |some ds=>
   rw[q]at w;dsimp only at w;let l:=DM q;show#[ow B α Z,[],[],ds.map .fz,G4 s.owd,?_,?_]
   .rw[l]at e;show mf _ _ ((Ja e).ev (Ev.sub λb z=>z.elim id λ#[i,c,q,_]=>by simp at q))
   .cases m:F (ds.map .fz) []with
    |bad=>rw[m]at w;show w.elim
    |ok x X=>rw[m]at w;show λY H' f j v a=>Fc s w f j a
    |er x X=>
     rw[m]at w;intro c p Y H' f j k;let g:=λb o h=>f.kp b o h λ#[i,c,q,_]=>by simp at q
     show w c p α H' (Xt.same g) (s.grow g) (XOk.sub (λb z=>.inl z) k)
 .rw[av hn]at w;show w.elim
def mr(c:uQ K E o C):dg K E (jt (dc K n F) [] E0 o) (ny F n C):=by intro B σ H α Z ρ Q s b w;show c B σ H α Z ρ _ s b (w.bind.imp λxs U Z1 H1 g e a h f=>?_);rw[V2];show KG e f (WS.e0 a)
def SB(F:iS):FN:=λds=>match F (ds.map .fz) []with
 |.ok (.fz d) _=>.ok (.fz d)
 |.ok (.rf i) Z=>(match sh Z (.rf i)with
  |some (.list ds)=>.ok (.ow ds)
  |_=>.bad)
 |.ok (.tp _) _=>.bad
 |.er x _=>.er x
 |.bad=>.bad
def Py(h:rC K n (SB F) vs H Q E):dc K n F vs H Q E:=by
 let(u,B,ds,A,G,w):=h;show#[u,B,[],[],ds.map .fz,G4 A,mf _ _ (G.ev (Ev.sub λb z=>z.elim id λ#[i,c,q,_]=>by simp at q)),?_];unfold SB at w;cases L:F (ds.map .fz) []with
 |bad=>rw[L]at w;show w.elim
 |er x X=>rw[L]at w;intro c S Y H' f j k;show w c S H' (λb o h=>f.kp b o h λ#[i,c,q,_]=>by simp at q) (XOk.sub (λb z=>.inl z) k)
 |ok x X=>
  rw[L]at w;intro Y H' f j v m;let g:=λb o h=>f.kp b o h λ#[i,c,q,_]=>by simp at q
  cases x with
  |fz d=>show w v H' g (DV.ev (Ev.sub λb z=>.inl z) m)
  |tp l=>show w.elim
  |rf i=>
   dsimp only at w;cases J:sh X (.rf i)with
   |none=>rw[J]at w;show w.elim
   |some d=>
    rw[J]at w;cases d with
    |list T=>let(a,p,N,C,y,t):=nO j J;let(xs,r,_):=xw J;let(I,e,rfl):=m;rw[N]at e;ext e;show w a p H' g ((f.lv a #[i,_,N,r,by intro z;ext z]).elim (λ#[i,c,q,_]=>by simp at q) id) C (y.ev (Ev.sub λb z=>z.elim (λz=>.inl z) λz=>by rw[z];show t))
    |_=>show w.elim
end
def cz(P:VV)(w:Wh)(K:Ld)(d:Str->br B)(base:Heap)(a:uP)(k:Nat)(C m:Str)(c:G Str)(sp:Sp):Prop:=
 ∃b f fd,VH K VD C=R (R (.ref b))/\Cls K b/\Meth K b m f/\FnOk P w K d base a k f fd c sp/\Binds K fd c []
def vH(P:VV)(w:Wh)(K:Ld)(d:Str->br B)(base:Heap)(a:uP)(k:Nat)(C:Str)(c:G Str)(sp:Sp):Prop:=
 ∃b f fd,VH K VD C=R (R (.ref b))/\d C=R (.ref b)/\Mk K b f/\FnOk P w K d base a k f fd c sp/\Binds K fd c []
def xM(K:Ld)(C m:Str)(sp:Sp)(E:XK)(b:TE)(t:TA):TE:=λa H Q=>∃e,VH K VD C=R (R (.ref e))/\vK e m sp [] E b t a H Q
def AQ(K:Ld)(C:Str)(sp:Sp)(E:XK)(t:TA):TE:=λa H Q=>∃b,VH K VD C=R (R (.ref b))/\zj b sp [] E t a H Q
section
variable{X:Cx}{Y:uP}{E:XK}{k j:Nat}{C m:Str}{ps:bg Str}{A:Sp}{o e:WB}{S:bg WB}{U:TE}{t:TA}{Z T p:Pos}
def Ay(M:cz X.prog X.w X.K X.mg X.base Y k C m ps A)(n:eR Y X E)(r:XN j X.A)(u:PE X o U)(c:PA X (e::S) t)(g:k<=j:=by decide)
  (dI:VT (e::S) X.env=(Vq,eval e X.env)::VT S X.env:=by rfl) (b:(backTo T (VT S X.env)).any (·.1)=Vq:=by rfl)
  (q:eval (.Call (.Attribute o m Z) (e::S) [] T) X.env=(do
   let ov<-eval o X.env
   standAt Z.atName
   let(f,first)<-holding [ov] (getMethod ov m pl)
   callWith T f first (backTo T (VT (e::S) X.env)) (backToKw T (keywordEach [] X.env))):=by rfl):PE X (.Call (.Attribute o m Z) (e::S) [] T) (xM X.K C m A E U t):=by
 let(L,f,G,F,B,z,y,v):=M;intro a s l H Q I #[J,i,h];rw[F]at i;ext i;show Lc u B z y (r.mono g) v .nil n c dI b q a s l H Q I h
def Kn(M:cz X.prog X.w X.K X.mg X.base Y k C m ps A)(l:eR Y X E)(q:XN j X.A)(r:PE X o U)(b:k<=j:=by decide)
  (n:eval (.Call (.Attribute o m Z) [] [] T) X.env=(do
   let ov<-eval o X.env
   standAt Z.atName
   let(f,first)<-holding [ov] (getMethod ov m pl)
   callWith T f first (backTo T (VT [] X.env)) (backToKw T (keywordEach [] X.env))):=by rfl):PE X (.Call (.Attribute o m Z) [] [] T) (xM X.K C m A E U kQ):=by
 let(J,f,F,B,z,y,v,u):=M;intro a s i H Q I #[G,g,h];rw[B]at g;ext g;show HE r z y v (q.mono b) u .nil l n a s i H Q I h
def Kp(M:vH X.prog X.w X.K X.mg X.base Y k C ps A)(q:eR Y X E)(r:XN j X.A)(c:PA X (e::S) t)(g:k+1<=j:=by decide)(u:Gl X C:=by rfl)
  (i:(C==("__debug__":Str))=Vq:=by decide) (v:VT (e::S) X.env=(Vq,eval e X.env)::VT S X.env:=by rfl) (b:(backTo T (VT S X.env)).any (·.1)=Vq:=by rfl):
  PE X (.Call (.Name C p) (e::S) [] T) (AQ X.K C A E t):=by
 let(N,f,J,G,F,B,z,y):=M;intro a s n H Q I #[L,l,h];rw[G]at l;ext l;show L6 B z (r.mono g) u F y .nil q c i v b a s n H Q I h
end
section
variable{K:Ld}{E:XK}{C m:Str}{F:iS}{n:Nat}{to:TE}{Y:TA}{U:dY}{X:sS}{L:bg Str}
def A0(a:gI K C L)(f:dg K E to U)(c:uQ K E Y X):dg K E (xM K C m (dc K n F) E to Y) (pJ C m F n U X):=by let(g,a,_):=a;show λB b H α Z h Q s e w=>#[g,a,GM a f c B b H α Z h Q s e w]
def xX(a:gI K C L)(f:dg K E to U)(c:uQ K E Y X):dg K E (xM K C m (dc K n F) E0 to Y) (bp C m F n U X):=by let(g,a,_):=a;show λB b H α Z h Q s e w=>#[g,a,Ga a f c B b H α Z h Q s e w]
def IT(a:gI K C L)(c:uQ K E Y X):dg K E (AQ K C (dc K n F) E Y) (Fb C F n X):=by let(f,a,_):=a;show λB b H α Z g Q s e w=>#[f,a,NG a c B b H α Z g Q s e w]
def LP(a:gI K C L)(c:uQ K E Y X):dg K E (AQ K C (dc K n F) E0 Y) (v4 C F n X):=by let(f,a,_):=a;show λB b H α Z g Q s e w=>#[f,a,GW a c B b H α Z g Q s e w]
end
section
variable{ρ ρ1 S:bH}{Z U Y T Q:bh}{x y z:SV}{i n:Nat}{d dx X:D}{ds:bg D}{b:Bool}
def b3(h:ρ[i]?=R (R x)):aC i ρ Z=.ok x Z:=by ext aC;rw[h]
def ai(h:f (cj ρ)=.ok (.fz d,ρ')):ah f ρ Z=.ok (.fz d) Z:=by ext ah;rw[h]
def fx(h:f (cj ρ)=.ok (.ow ds,ρ')):ah f ρ Z=.ok (.rf Z.length) (Z++[.lst (ds.map .fz)]):=by ext ah;rw[h];rfl
def bJ(h:f (cj ρ)=.ok (b,o)):bN f ρ Z=.ok b Z:=by ext bN;rw[h]
def lM(h:f (cj ρ)=.ok (ds,o)):ju f ρ Z=.ok ds Z:=by ext ju;rw[h]
def i7(g:e ρ Z=.ok (.rf i) U)(h:U[i]?=R (.obj C fs))(a:fs.lookup f=R x):bC C f e ρ Z=.ok x U:=by ext bC;rw[g,fm];dsimp only;rw[h];dsimp only;rw[ag W,a];rfl
def cV(c:o ρ Z=.ok x U)(e:fb ρ U=.ok y Y)(a:qp f x y Y=.ok z T):k7 f o fb ρ Z=.ok z T:=by ext k7;rw[c,fm,e,fm,a]
def b9(h:f dx X=R (.fz d)):qp f (.fz dx) (.fz X) Z=.ok (.fz d) Z:=by ext qp;show((RS.WE Z (f dx X)).bind λa U=>lZ U a)=_;rw[h];rfl
def BM(e:sh Z x=R dx)(a:sh Z y=R X)(h:f dx X=R (.fz d)):qp f x y Z=.ok (.fz d) Z:=by ext qp;rw[e,a];show((RS.WE Z (f dx X)).bind λg U=>lZ U g)=_;rw[h];rfl
theorem ox:∀ds:G D,a8 zK (ds.map .fz)=R ds
 |[]=>rfl
 |d::r=>by rw[VP];ext a8;rw[ox r];rfl
def eZ(h:Z[i]?=R (.lst (ds.map .fz))):sh Z (.rf i)=R (.list ds):=by ext sh;dsimp only;rw[h];dsimp only;rw[ox];rfl
def bj(h:o ρ Z=.ok (.fz (.bool b)) U):b8 o ρ Z=.ok b U:=by ext b8;rw[h];rfl
def jX(h:o ρ Z=.ok P U)(k:fb ρ U=r):oJ o fb ρ Z=r:=by ext oJ;rw[h,fm,ag W,k]
def iV(h:o ρ Z=.ok Vq U):oJ o fb ρ Z=.ok Vq U:=by ext oJ;rw[h,fm,av Vu]
def tL(h:o ρ Z=.ok P U):FD o fb ρ Z=.ok P U:=by ext FD;rw[h,fm,ag W]
def j4(h:o ρ Z=.ok Vq U)(k:fb ρ U=r):FD o fb ρ Z=r:=by ext FD;rw[h,fm,av Vu,k]
def xq(h:o ρ Z=.ok b U):yJ o ρ Z=.ok (!b) U:=by ext yJ;rw[h];rfl
def qh(h:b8 o ρ Z=.ok P U)(k:fb ρ U=r):zt o fb ρ Z=r:=by ext zt;rw[h,fm,ag W,k]
def EY(h:b8 o ρ Z=.ok Vq U):zt o fb ρ Z=.ok (.fz (.bool Vq)) U:=by ext zt;rw[h,fm,av Vu]
def K7(h:c ρ Z=.ok P U)(k:o ρ U=r):Rs c o fb ρ Z=r:=by ext Rs;rw[h,fm,ag W,k]
def No(h:c ρ Z=.ok Vq U)(k:fb ρ U=r):Rs c o fb ρ Z=r:=by ext Rs;rw[h,fm,av Vu,k]
theorem aR:aV ρ Z=.ok [] Z:=W
def au(c:o ρ Z=.ok x U)(a:fr ρ U=.ok xs Y):aq o fr ρ Z=.ok (x::xs) Y:=by ext aq;rw[c,fm,a,fm]
def yc(c:o ρ Z=.ok (ds.map .fz) U)(a:ds.length<=1000):mY o ρ Z=.ok (.fz (.tuple ds)) U:=by ext mY;rw[c,fm,Vj,ag a];ext TK;rw[ox];rfl
def Dh(c:o ρ Z=.ok xs U)(a:xs.length<=1000)(f:a8 zK xs=M)(e:a8 TW xs=R l):mY o ρ Z=.ok (.tp l) U:=by ext mY;rw[c,fm,ag a];ext TK;rw[f];dsimp only;rw[e];rfl
def uu(c:o ρ Z=.ok xs U)(a:a8 (sh U) xs=R ds)(h:f ds=R (.fz d)):rR f o ρ Z=.ok (.fz d) U:=by ext rR;rw[c,fm];ext uT;rw[a];show((RS.WE U (f ds)).bind λe U=>lZ U e)=_;rw[h];rfl
def Bo(e:o ρ Z=.ok (ds.map .fz) U)(c:ds.length=n)(a:F ds=.ok (.fz d)):j9 F n o ρ Z=.ok (.fz d) U:=by ext j9;rw[e,fm];ext yT;rw[Vj,ag c,ox];dsimp only;rw[a];rfl
def xH(e:o ρ Z=.ok (ds.map .fz) U)(c:ds.length=n)(a:F ds=.ok (.ow C)):j9 F n o ρ Z=.ok (.rf U.length) (U++[.lst (C.map .fz)]):=by ext j9;rw[e,fm];ext yT;rw[Vj,ag c,ox];dsimp only;rw[a];rfl
theorem sH:g8 (RS.ok a Z)=.ok a Z:=W
def CF(e:o ρ Z=.ok (.rf i) U)(f:U[i]?=R (.obj C fs))(hm:fs.lookup m=M)(h:J ρ U=.ok xs Y)(c:(SV.rf i::xs).length=n)(g:F (.rf i::xs) Y=.ok x T):bp C m F n o J ρ Z=.ok x T:=by
 let a:nA U C m (.rf i)=P:=by ext nA;dsimp only;rw[f];dsimp only;rw[hm,ax W];rfl
 ext bp;rw[e,fm,ag a,h,fm,ag c,g];rfl
def Qc(e:o ρ Z=.ok xs U)(c:(SV.rf U.length::xs).length=n)(a:F (.rf U.length::xs) (U++[.obj C []])=.ok (.fz .none) Y):v4 C F n o ρ Z=.ok (.rf U.length) Y:=by ext v4;rw[e,fm];ext vx;rw[ag c,a,fm,ag (show FR (.fz .none)=P from rfl)];rfl
def dk(c:o ρ Z=.ok (.fz dx) U)(a:fb ρ U=.ok (.fz X) Y)(h:bv dx X=R (.fz d)):jU o fb ρ Z=.ok (.fz d) Y:=by ext jU;rw[c,fm,a,fm];show b9 h
def wV(a:fo ρ Z=.ok (.rf i) U)(h:U[i]?=R (.lst xs))(f:fe ρ U=.ok x Y)(g:Y[i]?=R (.lst ys))(e:ys.length<1000000):nZ fo fe ρ Z=.ok (.fz .none) (Y.set i (.lst (ys++[x]))):=by
 let l:gy U (.rf i)=R (i,xs):=by ext gy;dsimp only;rw[h]
 let j:gy Y (.rf i)=R (i,ys):=by ext gy;dsimp only;rw[g]
 ext nZ;rw[a,fm,l];show((fe ρ U).bind _)=_;rw[f,fm,j];show(if ys.length<1000000 then _ else _)=_;rw[ag e]
def nY(h:Z[i]?=R (.dct o)):i8 Z (.rf i)=R (i,o):=by ext i8;dsimp only;rw[h]
def Cp(a:o ρ Z=.ok x U)(hd:fd ρ U=.ok (.rf i) Y)(f:vj x=R k)(e:Y[i]?=R (.dct C)):zg neg o fd ρ Z=.ok (.fz (.bool ((kE C k).isSome !=neg))) Y:=by ext zg;rw[a,fm,hd,fm,f];show((RS.WE Y (i8 Y (.rf i))).bind _)=_;rw[nY e];rfl
def Mh(hd:fd ρ Z=.ok (.rf i) U)(a:C ρ U=.ok x Y)(g:vj x=R k)(f:Y[i]?=R (.dct o))(e:kE o k=R y):vB fd C ρ Z=.ok y Y:=by ext vB;rw[hd,fm,a,fm,g];show((RS.WE Y (i8 Y (.rf i))).bind _)=_;rw[nY f];show RS.WE Y (kE o k)=_;rw[e];rfl
def NL(a:C ρ Z=.ok y U)(hd:fd ρ U=.ok (.rf i) Y)(f:J ρ Y=.ok x T)(h:vj x=R k)(g:T[i]?=R (.dct o))(e:o.length<1000000):yY fd J C ρ Z=.ok (.nx ρ) (T.set i (.dct (kW o k y))):=by ext yY;rw[a,fm,hd,fm,f,fm,h];show((RS.WE T (i8 T (.rf i))).bind _)=_;rw[nY g];show(if o.length<1000000 then _ else _)=_;rw[ag e]
def M0(hd:fd ρ Z=.ok (.rf i) U)(h:U[i]?=R (.dct J))(a:C ρ U=.ok x Y)(g:vj x=R k)(f:Y[i]?=R (.dct o))(e:kE o k=R y):Ad fd C ρ Z=.ok y (Y.set i (.dct (oj o k))):=by ext Ad;rw[hd,fm,nY h];show((C ρ U).bind _)=_;rw[a,fm,g];show((RS.WE Y (i8 Y (.rf i))).bind _)=_;rw[nY f];show((RS.WE Y (kE o k)).bind _)=_;rw[e];rfl
def Ml(hd:fd ρ Z=.ok (.rf i) U)(h:U[i]?=R (.dct o)):Dm fd ρ Z=.ok (.rf U.length) (U++[.lst (o.map (·.2))]):=by ext Dm;rw[hd,fm,nY h];rfl
def Lq(hd:fd ρ Z=.ok (.rf i) U)(h:U[i]?=R (.dct o))(e:a8 Bu (o.map (·.1))=R ns)(a:ns.length<64):vW fd ρ Z=.ok (.rf U.length) (U++[.lst ((lA ns).map λi=>SV.fz (.int i))]):=by ext vW;rw[hd,fm,nY h];show((RS.WE U (a8 Bu (o.map (·.1)))).bind _)=_;rw[e];show(if ns.length<64 then _ else _)=_;rw[ag a]
def Mm(a:C ρ Z=.ok x U)(h:yt x=R o):yI C ρ Z=.ok (.rf U.length) (U++[.dct (nK [] o)]):=by ext yI;rw[a,fm,h];rfl
variable{L:FlS}{r:RS FlS}
def dG(h:f ρ Z=.ok (.nx ρ1) U)(k:g ρ1 U=r):aX f g ρ Z=r:=by ext aX;rw[h,fm];show k
def p7(h:f ρ Z=.ok (.rt x) U):aX f g ρ Z=.ok (.rt x) U:=by ext aX;rw[h];rfl
def fR(h:c ρ Z=.ok P U)(k:f ρ U=r):cM c f g ρ Z=r:=by ext cM;rw[h,fm,ag W,k]
def hG(h:c ρ Z=.ok Vq U)(k:g ρ U=r):cM c f g ρ Z=r:=by ext cM;rw[h,fm,av Vu,k]
def jS(h:f ρ Z=.ok x U):gP f ρ Z=.ok (.rt x) U:=by ext gP;rw[h];rfl
def jE(h:f ρ Z=.ok x U):b7 f ρ Z=.ok (.nx ρ) U:=by ext b7;rw[h];rfl
def wQ(h:f ρ Z=.ok x U)(e:ρ.set i (R x)=ρ1):dZ f (gr i) ρ Z=.ok (.nx ρ1) U:=by subst e;ext dZ;rw[h];rfl
theorem gU:cU ρ Z=.ok (.nx ρ) Z:=W
def pL(h:J ρ Z=.ok x U)(a:o ρ U=.ok (.rf i) Y)(j:Y[i]?=R (.obj C fs))(g:fs.length<100):gx C f o J ρ Z=.ok (.nx ρ) (Y.set i (.obj C (fS f x fs))):=by
 let e:GS Y C (.rf i)=R (i,fs):=by ext GS;dsimp only;rw[j];dsimp only;rw[ag W]
 ext gx;rw[h,fm,a,fm,e];show(if fs.length<100 then _ else _)=_;rw[ag g]
def qU(h:f ρ Z=.ok x U)(k:frz 4 U x=R (d,Y)):pk f ρ Z=.ok (.fz d) Y:=by ext pk;rw[h,fm];ext Rb;rw[k]
def kA(e:xs.map R++Vw (N - xs.length) M=ρ)(h:g ρ Z=.ok (.rt x) U):de N g xs Z=.ok x U:=by subst e;ext de;rw[h];rfl
def pz(e:xs.map R++Vw (N - xs.length) M=ρ)(h:g ρ Z=.ok (.nx ρ1) U):de N g xs Z=.ok (.fz .none) U:=by subst e;ext de;rw[h];rfl
end
section
variable{ρ U Q:bH}{Z X Y L J:bh}{x y z:SV}{i n:Nat}{d A u:D}{ds:bg D}{b:Bool}
theorem ke(e:α->D)(f:α->SV)(Z:bh)(I:bH->Prop):∀(xs:G α) (ρ:bH) (a:G SV),I ρ->a.length+xs.length<=1000000->(∀x∈xs,∀ρ,I ρ->∃c,gt (.fz (e x)) ρ Z=.ok c Z/\ft c Z=.ok P Z/\fe c Z=.ok (f x) Z/\I c)->dh gt ft fe (xs.map e) ρ Z a=.ok (a++xs.map f) Z
 |[],ρ,a,_,_,_=>by show RS.ok a Z=_;rw[Zb,V2]
 |x::r,ρ,a,h0,p,o=>by let(c,m,l,j,h):=o x Vn ρ h0;rw[VI]at p;show((gt (.fz (e x)) ρ Z).bind _)=_;rw[m,fm,l,fm,ag W,j,fm,ag (),ke e f Z I r c _ h (by rw[Vs,Zp];ext) λy g=>o y (Vr _ g),Wc];rfl
def oX(c:C ρ Z=.ok ds X)(a:dh gt o fe ds (iy n fj ρ) X []=.ok xs Y):kT n fj C gt o fe ρ Z=.ok (.rf Y.length) (Y++[.lst xs]):=by ext kT;rw[c,fm,a,sH,fm]
theorem sf(m:Nat):∀(ds:G D),na (frz m) Z (ds.map .fz)=R (ds,Z)
 |[]=>rfl
 |d::r=>by rw[VP];ext na;rw[show frz m Z (.fz d)=R (d,Z) by ext m<;>rfl];dsimp only;rw[sf m r]
def oQ(h:Z[i]?=R (.lst (ds.map .fz))):frz 4 Z (.rf i)=R (.list ds,Z.set i .dead):=by ext frz;rw[h];dsimp only;rw[sf]
def x9(h:fe ρ Z=.ok (.rf i) X)(a:X[i]?=R (.lst (ds.map .fz))):kX fe ρ Z=.ok ds (X.set i .dead):=by ext kX;rw[h,fm,oQ a];rfl
def T6(N C:bH->bh->Prop)(T:SV->bh->Prop):RS FlS->Prop
 |.ok (.nx ρ) Z=>N ρ Z
 |.ok (.ct ρ) Z=>C ρ Z
 |.ok (.rt v) Z=>T v Z
 |_=>False
structure ZM(r:RS FlS)(N C:bH->bh->Prop)(T:SV->bh->Prop):Prop where
 out:T6 N C T r
variable{f g:fJ}{S:dY}{N C:bH->bh->Prop}{T:SV->bh->Prop}
def ZM.eq(e:r=r')(h:ZM r' N C T):ZM r N C T:=by rw[e];show h
def sO(h:ZM (f ρ Z) (λr o=>ZM (g r o) N C T) C T):ZM (aX f g ρ Z) N C T:=by
 show#[?_];let h:=h.out;ext aX;cases q:f ρ Z with
 |bad=>rw[q]at h;show h.elim
 |er x o=>rw[q]at h;show h.elim
 |ok a o=>
  rw[q]at h;cases a with
  |nx r=>show(show ZM (g r o) N C T from h).out
  |ct r=>show h
  |rt v=>show h
  |bk r=>show h.elim
def yN(h:c ρ Z=.ok b X)(a:b=P->ZM (f ρ X) N C T)(e:b=Vq->ZM (g ρ X) N C T):ZM (cM c f g ρ Z) N C T:=by
 ext cM;rw[h,fm];cases b with
 |true=>show a W
 |false=>show e W
theorem uf(e:c ρ Z=.ok P X)(a:ZM (f ρ X) N C T):ZM (cM c f g ρ Z) N C T:=yN e (λ_=>a) λh=>by ext h
theorem fq(e:c ρ Z=.ok Vq X)(a:ZM (g ρ X) N C T):ZM (cM c f g ρ Z) N C T:=yN e (λh=>by ext h) λ_=>a
def RJ(e:S ρ Z=.ok x X)(a:gt x ρ X=.ok U Y)(h:N U Y):ZM (dZ S gt ρ Z) N C T:=by show#[?_];ext dZ;rw[e,fm,a,fm];show h
theorem oB(a:f ρ Z=.ok (.nx U) X)(h:N U X):ZM (f ρ Z) N C T:=#[by rw[a];show h]
theorem Sv(a:f ρ Z=.ok (.rt x) X)(h:T x X):ZM (f ρ Z) N C T:=#[by rw[a];show h]
theorem jB(a:S ρ Z=.ok x X)(h:N ρ X):ZM (b7 S ρ Z) N C T:=oB (jE a) h
theorem PY(a:S ρ Z=.ok x X)(h:T x X):ZM (gP S ρ Z) N C T:=Sv (jS a) h
theorem MM(h:T (.fz .none) Z):ZM (vt ρ Z) N C T:=#[h]
theorem mW(h:N ρ Z):ZM (cU ρ Z) N C T:=#[h]
theorem kF{gt:A4}(e:S ρ Z=.ok x X)(a:gt x ρ X=.ok U Y)(h:ZM (g U Y) N C T):ZM (aX (dZ S gt) g ρ Z) N C T:=sO (RJ e a h)
theorem DB(a:f ρ Z=.ok (.nx U) X)(h:ZM (g U X) N C T):ZM (aX f g ρ Z) N C T:=sO (oB a h)
theorem mS(a:S ρ Z=.ok x X)(h:ZM (g ρ X) N C T):ZM (aX (b7 S) g ρ Z) N C T:=sO (jB a h)
def zE{h a:fJ}(m:c ρ Z=.ok b X)(j:b=P->ZM (aX h g ρ X) N C T)(l:b=Vq->ZM (aX a g ρ X) N C T):ZM (aX (cM c h a) g ρ Z) N C T:=by
 let e:aX (cM c h a) g ρ Z=if b=P then aX h g ρ X else aX a g ρ X:=by unfold aX cM;rw[m,fm];ext b<;>rfl
 show .eq e ?_;cases b with
 |true=>show j W
 |false=>show l W
theorem xj{a l:fJ}(j:c ρ Z=.ok P X)(e:ZM (aX a g ρ X) N C T):ZM (aX (cM c a l) g ρ Z) N C T:=zE j (λ_=>e) λh=>by ext h
theorem ub{l a:fJ}(j:c ρ Z=.ok Vq X)(e:ZM (aX a g ρ X) N C T):ZM (aX (cM c l a) g ρ Z) N C T:=zE j (λh=>by ext h) λ_=>e
theorem xx(h:T (.fz .none) Z):ZM (aX vt g ρ Z) N C T:=sO (MM h)
theorem oG(h:ZM (g ρ Z) N C T):ZM (aX cU g ρ Z) N C T:=sO (mW h)
def PR{a e:fJ}(h:ZM (aX a (aX e g) ρ Z) N C T):ZM (aX (aX a e) g ρ Z) N C T:=by
 show .eq ?_ h;ext aX;cases a ρ Z with
 |bad=>rfl
 |er x o=>rfl
 |ok j o=>ext j<;>rfl
def QP(a:xs.map R++Vw (n - xs.length) M=ρ)(h:ZM (g ρ Z) (λ_ c=>T (.fz .none) c) (λ_ _=>False) T):∃x c,de n g xs Z=.ok x c/\T x c:=by
 let h:=h.out;ext de;rw[a];cases q:g ρ Z with
 |bad=>rw[q]at h;show h.elim
 |er x o=>rw[q]at h;show h.elim
 |ok e o=>
  rw[q]at h;cases e with
  |nx r=>show#[_,_,W,h]
  |ct r=>show h.elim
  |rt v=>show#[_,_,W,h]
  |bk r=>show h.elim
def jQ{W:bh->Prop}(a:xs.map R++Vw (n - xs.length) M=ρ)(h:ZM (g ρ Z) (λ_ c=>SV.fz .none=v/\W c) (λ_ _=>False) (λr c=>r=v/\W c)):∃c,de n g xs Z=.ok v c/\W c:=by let(x,c,l,j,e):=QP (T:=λr c=>r=v/\W c) a h;show#[c,by rw[l,j],e]
end
end L10
namespace L10
open PySem PyProof.Rows L2 L3
section
variable{B O N:cJ}{K:Ld}{E:XK}{H L J C:Hp}{A T S Q:bg Vm}{Z u U Y:bh}{t:L2.St}{X:bH}{v:V}
def Cr{c fb:dY}{y z:SV}{i:Nat}{n:Int}{xs:G SV}(f:c X Z=.ok (.rf i) U)(e:fb X U=.ok y Y)(d:Gg y=R n)(a:Y[i]?=R (.lst xs))(b:nj xs n=R z):jU c fb X Z=.ok z Y:=by ext jU;rw[f,fm,e,fm];ext KR;simp only[a,d];show RS.WE Y (nj xs n)=_;rw[b];rfl
end
end L10
namespace L10
open PySem PyProof.Rows L2 L3
section
variable{O Z:cJ}{K:Ld}{H X:Hp}{a b:Vm}{U:bg V}{Y:Heap->Prop}
def TQ(a:I)(O:cJ)(H:Hp)(Z:cJ)(X:Hp):Prop:=∀b o,b≠a->H b=R o->¬O b->X b=R o/\¬Z b
def ach.evx(i:H a=R (.ext Y))(h:ach O K H b U)(e:TQ a O H Z X):ach Z K X b U:=by
 let(h,k):=h;by_cases z:O b
 .show#[ZN.same (mx X) (k z),λ_=>k z]
 .rcases h with(h|⟨o,h⟩)|h
  .let(g,f):=e b _ (λy=>by rw[y,i]at h;ext h) h z;show#[.inl (.inl g),λy=>a6 y f]
  .let(g,f):=e b _ (λy=>by rw[y,i]at h;ext h) h z;show#[.inl (.inr #[o,g]),λy=>a6 y f]
  .show#[.inr h,λ_=>.inr h]
def aaG.evx(i:H a=R (.ext Y))(h:aaG O K H b U)(e:TQ a O H Z X):aaG Z K X b U:=by
 let(h,k):=h;by_cases z:O b
 .show#[(mx X).tup (k z),λ_=>k z]
 .rcases h with(h|⟨o,h⟩)|h
  .let(g,f):=e b _ (λy=>by rw[y,i]at h;ext h) h z;show#[.inl (.inl g),λy=>a6 y f]
  .let(g,f):=e b _ (λy=>by rw[y,i]at h;ext h) h z;show#[.inl (.inr #[o,g]),λy=>a6 y f]
  .show#[.inr h,λ_=>.inr h]
mutual
theorem DV.evx(f:H a=lD (.ext Y))(e:TQ a O H Z X):∀{v:V} {d:D},L3.DV O K H v d->L3.DV Z K X v d
 |_,_,.Xo=>.Xo
 |_,_,.bl b=>.bl b
 |_,_,.int i=>.int i
 |_,_,.str x=>.str x
 |_,_,.tup h hs=>.tup (aaG.evx f h e) (Xn.evx f e hs)
 |_,_,.lst h hs=>.lst (ach.evx f h e) (Xn.evx f e hs)
theorem Xn.evx(f:H a=lD (.ext Y))(e:TQ a O H Z X):∀{vs:bg V} {ds:bg D},L3.Xn O K H vs ds->L3.Xn Z K X vs ds
 |_,_,.nil=>.nil
 |_,_,.cons h hs=>.cons (DV.evx f e h) (Xn.evx f e hs)
end
end
end L10
namespace L3
open PySem L2
structure NI(K:Ld)(f:I)(n:Str)(t:XM):Prop where
 a:VH K VD n=R (R (.ref f))
 F:∃fd,YZ K n n t f fd
structure MI(K:Ld)(C f:I)(m q:Str)(t:XM):Prop where
 a:V3 K (.ref C) m=R (R (.ref f))
 i:Yw K (.ref f)=P
 F:∃fd,YZ K m q t f fd
structure CI(K:Ld)(C:I)(n:Str)(fs:G Str):Prop where
 a:VH K VD n=R (R (.ref C))
 pg:Zh K C Str.empty=P
 hd:XT K C=P
 po:abt K C=P
 sa:V3 K (.ref C) "__setattr__"=R (R (.builtin "object.__setattr__"))
 mm:ab8 K C=P
 kc:W7 K (.ref C)=P
 fl:∀x∈fs,ZV K C x
def BA(n q:Str)(t:XM)(c:G Str):Prop:=∀(kV b e:B) (f:br I) (g ct:B) (a:G B),a.length=c.length->bindArgs (W3 n q (fK t) (cw t) (aH t) .none kV b e f g ct) #[a,[]]=pure (c.zip a)
section
variable{P:VV}{w:Wh}{K:Ld}{Y:Str->br Vh}{base h:Heap}{f C:Vm}{n m q:Str}{t:XM}{U fs:bg Str}{Z k:Nat}{T Q:Sp}
theorem CI.cls(c:CI K C n fs):Cls K C:=#[c.pg,c.hd,c.po,c.sa]
theorem CI.cf(c:CI K C n fs):L10.gI K n fs:=#[C,c.a,c.cls,c.fl]
theorem NI.cal(i:NI K f n t)(X:K.In h)(G:h.Ns VD Y)(b:BA n n t U)(ok:∀fd,YZ K n n t f fd->FnOk P w K Y base dX Z f fd U T):oM P w K Y base Z n U T:=
 let#[fd,z]:=i.F;#[f,fd,ok fd z,z.binds b,z.kp,Wx X G i.a]
def NI.law(i:NI K f "law" t)(X:K.In h)(G:h.Ns VD Y)(b:Y "law"=R (.ref fa))(p:BA "law" "law" t [x])(ok:∀base fd,YZ K "law" "law" t f fd->FnOk P w K Y base dX Z f fd [x] T):∃fd:WA,(∀(s:Vp) (v:Vh),aat s fd #[[v],[]] [(x,v)])/\∀base:Heap,K.In base->base.Ns VD Y->FnOk P w K Y base dX Z fa fd [x] T:=by let e:=b.symm.trans (Wx X G i.a);ext e;let(fd,z):=i.F;let(A,y,kV,g,j,r,u,ct,l,rfl,B,o):=z.ex;show#[_,λs v=>.of_eq (p kV g j r u ct [v] W),λbase _ _=>ok base _ z]
def DG(a:XN k A):A.units+65<cLine:=by let:=a.un;ext
theorem Gp(p:SO K E u g)(h:PSs X b u):∃t,PSs X b t/\SO K E t g:=#[_,h,p]
theorem Ck(p:L10.om K E u g)(h:PSs X b u):∃t,PSs X b t/\L10.om K E t g:=#[_,h,p]
theorem pM{x a:Str}{b:XM}{fd:WA}{N:G Str}{n m:Nat}{g:FS}{j:FN}(F:YZ K x a b f fd)(S:XX N U (aH b))(c:U.length=n)(hm:N.length=m)(l:j=iB m g)
  (o:∀(e:B) (A:V7) (outer:G Env) (s:Vp) (H:Hp) (E:XK),N.Nodup->XN k (A.deeper (V0 a (aH b) s.heap.objs.size f e))->(A.deeper (V0 a (aH b) s.heap.objs.size f e)).units+64<cLine->(A.deeper (V0 a (aH b) s.heap.objs.size f e)).units+1<cLine->(A.deeper (V0 a (aH b) s.heap.objs.size f e)).units+65<cLine->
   ∃t,PSs (eB dX P w K Y base N a (aH b) f e A outer s H E).nox (cw b) t/\SO K E t g):FnOk P w K Y base dX (k+1) f fd U (rC K n j):=
 U0 F S c hm l λe A outer s H E i=>o e A outer s H E S.nd i i.units (DJ i) (DG i)
theorem mj{n m:Nat}(F:YZ K x qual st f fd)(S:XX N U (aH st))(c:U.length=n)(hm:N.length=m)(e:o=L10.de m g)
  (i:∀(a:B) (A:V7) (outer:G Env) (s:Vp) (H:Hp) (E:XK),N.Nodup->XN k (A.deeper (V0 qual (aH st) s.heap.objs.size f a))->(A.deeper (V0 qual (aH st) s.heap.objs.size f a)).units+64<cLine->(A.deeper (V0 qual (aH st) s.heap.objs.size f a)).units+1<cLine->(A.deeper (V0 qual (aH st) s.heap.objs.size f a)).units+65<cLine->
   ∃t,PSs (eB dX P w K Y base N qual (aH st) f a A outer s H E).nox (cw st) t/\L10.om K E t g):FnOk P w K Y base dX (k+1) f fd U (L10.dc K n o):=
 L10.UY F S c hm e λa A outer s H E b=>i a A outer s H E S.nd b b.units (DJ b) (DG b)
theorem MS{W:I}{a:Array B}{g:Nat}{ss:Array (br B)}{xs:G V}{ds:G D}(l:K.lookup W=R #[.type "tuple",M,.seq a g,ss])(e:a.size<=VF)(b:Vals xs a.toList)(hd:∀O H,Xn O K H xs ds):∀O H,DV O K H (.ref W) (.tuple ds):=λO H=>
 .tup (xs:=xs) #[.inr #[_,_,_,l,#[rfl,rfl],rfl,e,b],λ_=>.inr #[_,_,_,l,#[rfl,rfl],rfl,e,b]] (hd O H)
end
end L3
namespace L10R
open PySem PySem.Calls PyProof.Rows
def Pr:typeLookup (.type "list_reverseiterator") "__len__"=pure M:=by rw[abn,ZF];kernel_rfl
def EG:typeLookup (.type "list_reverseiterator") "__length_hint__"=pure (R (.builtin "list_reverseiterator.__length_hint__")):=by rw[abn,ZF];kernel_rfl
section
variable{Y:VV}{w:Wh}{A:V7}{E:Vh->Vp->Prop}{s:Vp}{r l:Vm}{items:Array Vh}
def Gx{Q:Bool->Vp->Prop}(e:s.TypeIs (.ref r) "list_reverseiterator")(h:Q Vq s):wpAny (model Y w) A (Builtin.List.listLengthHint (.ref r)) Q E s:=by
 ext Builtin.List.listLengthHint;show Vf (abm e Pr ?_);dsimp only;show Ze (λa=>a6 a ()) (λ_=>?_);show Ze (λa=>a6 a ()) (λ_=>?_);show Vf (abm e EG ?_);generalize f:("list_reverseiterator.__length_hint__":String)=g
 wp_delta
 rw[show splitId g=R ("list_reverseiterator","__length_hint__")from by subst f;left];subst f;show Vf (aaT (T:= "list_reverseiterator") (b:=P) e (by rw[alO];kernel_rfl) ?_);show Ze (λa=>a6 a ()) (λ_=>?_);show Ze (λ_=>?_) (λa=>a6 (by left) a);show Ze (λa=>a6 a (by left)) (λ_=>?_);show Vt h
def Be{R:abQ->Vp->Prop}(G:A.handled=Vg)(n:l≠r)(C:s.heap.IsList l items)(j:s.heap.IsRevIter r l ((items.size:Int) - 1))(S:Vm)(h:S≠r)(u:S≠l)(res:Vh)(a:Nat)(I:s.heap.get? S=lD {cls:=.type "list",data:=.seq #v[] a})
  (J:∀x D c k,(∀b o,b≠S->b≠r->s.heap.get? b=lD o->x.get? b=lD o)->x.get? S=lD {cls:=.type "list",dict:=Vg,data:=.seq c k,slots:= #v[]}->aaU (λi v=>items[items.size - 1 - i]?=lD v) c items.size->R (.ok (.ret res)) {s with heap:=x,toks:=D}) (F:items.size<=VF):
  wpAny (model Y w) A.in1 (Builtin.List.listExtendWith (.ref S) (.ref r) res)
   (λfin d=>match fin with|.done f=>R (.ok f) d|.again k=>k.quiet=P/\codeAny (model Y w) A k R d) (λe d=>R (.error e) d) s:=by
 let t:S∉[r,l]:=by simp only[VG,Xh,or_false,not_or];show#[h,u]
 let W:=Walks.listRev (prog:=Y) (w:=w) (A:=A.in1) G r l n items;let B:0<=items.size/\s.heap.IsRevIter r l ((items.size:Int) - 1 - ((0:Nat):Int))/\s.heap.IsList l items:=#[Wo _,by rw[show(items.size:Int) - 1 - ((0:Nat):Int)=(items.size:Int) - 1 by ext];show j,C];let m:codeAny (model Y w) A (.builtin "list.extend.loop" #[[.ref S,.ref r,res],[]]) R s:=by
  show codeAny_extend_loopS W.toS F S t res items.size 0 _ #v[] a rfl (Wo _) B I (aaU.nil _) λd c k hm y z=>?_;rw[Moved.eq_with hm];show J d.heap d.toks c k (λb o H p e=>hm.heap b o (λg=>?_) e) y z;rcases VG.mp g with N|g
  .show H N
  .show p (Vz.mp g)
 ext Builtin.List.listExtendWith;show Vf (aa6 (T:= "list_reverseiterator") j.typeIs ?_);let M:Builtin.List.listSameRef (.ref S) (.ref r)=Vq:=by simp[Builtin.List.listSameRef,h]
 let L:(Vh.type "list_reverseiterator"==Vh.type "list")=Vq:=by left
 let K:(Vh.type "list_reverseiterator"==Vh.type "tuple")=Vq:=by left
 simp only[M,L,K,adF,Yj,if_false];show Vf (wpAny_pyIter_revIter j ?_);show Vf (Xy (Gx j.typeIs ?_));show Ze (λq=>a6 q (by left)) (λ_=>Vt #[YF PySem.F.plain_extend_loop _,m])
def Hm{R:abQ->Vp->Prop}(C:A.handled=M)(m:l≠r)(z:s.heap.IsList l items)(y:s.heap.IsRevIter r l ((items.size:Int) - 1))(S:I)(g:S≠r)(h:S≠l)(q:s.heap.get? S=lD {cls:=.type "list",data:=.seq #v[]})
  (F:∀k D c d,(∀b o,b≠S->b≠r->s.heap.get? b=lD o->k.get? b=lD o)->k.get? S=lD {cls:=.type "list",dict:=M,data:=.seq c d,slots:= #v[]}->aaU (λi v=>items[items.size - 1 - i]?=lD v) c items.size->R (.ok (.ret .none)) {s with heap:=k,toks:=D}) (J:items.size<=VF):
  wpAny (model Y w) A.in1 (Builtin.«list.__init__» #[[.ref S,.ref r],[]])
   (λfin x=>match fin with|.done f=>R (.ok f) x|.again d=>d.quiet=P/\codeAny (model Y w) A d R x) (λe x=>R (.error e) x) s:=by
 show wpAny _ _ (do let old<-Builtin.List.listItems (.ref S);Builtin.List.listUpdate (.ref S) (λ_=> #v[]);letGo old.toList.reverse;Builtin.List.listExtendWith (.ref S) (.ref r) .none) _ _ s;show Vf ?_;ext Builtin.List.listItems;show Vf (Xe q W (Vt ?_));show wpAny _ _ (updateSeq S (λ_=> #v[])>>=λ_=>letGo (#v[]:Array Vh).toList.reverse>>=λ_=>Builtin.List.listExtendWith (.ref S) (.ref r) .none) _ _ s;show Vf (abo q W ?_);let a:=dt (Obj.mapSeq (λ_=>(#v[]:Array Vh))) q W
 let u:∀b o,b≠S->s.heap.get? b=lD o->(s.heap.update S (Obj.mapSeq (λ_=>(#v[]:Array Vh)))).get? b=lD o:=
  λb o j e=>(da _ _ (ej j)).trans e
 show Vf (YU ?_);show Be C m (z.at λo e=>u l o h.symm e) (y.at λo e=>u r o g.symm e) S g h .none _ a (λk D c d B p t=>?_) J;show F k D c d (λb o j n e=>B b o j n (u b o j e)) p t
def agn{Q:Vh->Vp->Prop}(y:A.handled=M)(g:l≠r)(n:s.heap.IsList l items)(m:s.heap.IsRevIter r l ((items.size:Int) - 1))(C:items.size<=VF)
  (B:∀d k c x,(∀b o,b≠r->s.heap.get? b=R o->d.get? b=R o)->d.get? s.heap.objs.size=R {cls:=.type "list",dict:=M,data:=.seq c x,slots:= #v[]}->aaU (λi v=>items[items.size - 1 - i]?=R v) c items.size->Q (.ref s.heap.objs.size) {s with heap:=d,toks:=k}):
  wpAny (model Y w) A (call (.type "list") [.ref r]) Q E s:=by
 show alP (Q₁:=λobj a=>obj=.ref s.heap.objs.size/\a={s with heap:=s.heap.push {cls:=.type "list",data:=.seq #v[]}}) PySem.F.called_list (PySem.F.typeCall_list_1 _) PySem.F.entry_list_init
  (code_list_new _ #[W,W]) λobj a f=>?_
 let(rfl,rfl):=f;let p:(s.heap.push {cls:=.type "list",data:=.seq #v[]}).get? s.heap.objs.size=R {cls:=.type "list",data:=.seq #v[]}:=cx _ W;let q:r<s.heap.objs.size:=by let(o,e,_):=m;show cv e
 let t:l<s.heap.objs.size:=by let(o,e,_):=n;show cv e
 show#[#[_,p,W],PySem.F.args_list_init_2 _ _,Hm (A:=A.in1) y g (n.at λo e=>bP _ e) (m.at λo e=>bP _ e) _ (WL q) (WL t) p (λd k c x u h j=>?_) C];show#[W,B d k c x (λb o z e=>u b o (VW (cv e)) z (bP _ e)) h j]
end
end L10R
namespace L2
open PySem PySem.Spec PyProof.Rows
section
variable{X:Cx}{e:WB}{Z:TE}{p q p1 Y:Pos}
def yX(K:Ld)(Z:TE):TE:=λf H Q=>Z f H λx b=>∃a xs,x=.ref a/\SqL K b a xs/\∀l,b l=M->Q (.ref l) (bE b l (.lst xs.reverse))
def Bc:WC "reversed"=R (.type "reversed"):=by rfl
def FL{xs:G V}{us:G B}(h:Vals xs us):Vals xs.reverse us.reverse:=by
 induction h with
 |nil=>show .nil
 |cons h _ a=>rw[Z7,Z7];show a.append (.cons h .nil)
def FK{items a:Array B}(h:aaU (λi v=>items[items.size - 1 - i]?=R v) a items.size):a.toList=items.toList.reverse:=by
 apply List.ext_getElem?;intro j;by_cases b:j<items.size
 .let f:j<a.size:=by rw[h.1];show b
  let e:=h.2 j _ (ac3 f);rw[XJ,ac3 f,List.getElem?_reverse (by rw[Wz];show b),Wz,XJ];show e.symm
 .rw[aaM (by rw[Wz,h.1];ext),aaM (by rw[abp,Wz];ext)]
def Ki{a:G (Vm×Obj)}{j:St}{H:Hp}{s:Vp}{e:Vm}{o:HO}(I:Inv X a j H s)(f:pH X a H e)(A:X.s₀.heap.get? e=M)(new:ObjOk X.prog X.w (bE H e o) s.heap e o):Inv X a j (bE H e o) s:=by
 let(ne,t,_,_,v,i):=f;let m:∀b o,X.s₀.heap.get? b=R o->b≠e:=λb o z y=>by rw[y,A]at z;ext z
 let g:∀b o,H b=R o->b≠e:=λb o z y=>by rw[y,ne]at z;ext z
 let B:=I.base;show#[I.ok,I.os,I.bare,#[B.keep,B.slot,λb o z n x=>?_,B.there,λb xs z=>?_,λb o u z=>?_,λb C z=>?_],I.loc,I.cell,?_,λx c z=>?_,λp l=>?_,λb u z=>?_,I.len]
 .rw[aG (m b o z)];show B.free b o z n x
 .let:=B.abD b xs z;rw[aG (g b _ this)];show this
 .let:=B.abc b o u z;rw[aG (g b _ this)];show this
 .let(h,y):=B.abC b C z;show#[h,by rw[aG (g b _ y)];show y]
 .rw[aG t.symm];show I.free
 .rw[aG (v x c z)];show I.Y4 x c z
 .let(z,n,r):=I.pin p l;show#[z,by rw[aG (i p l)];show n,r]
 .by_cases y:b=e
  .subst y;rw[aJ]at z;ext z;show new
  .rw[aG y]at z;show(I.WT b u z).ZL (λ_ _ _ y=>y) (λc y=>by rw[aG (g c _ y)];show y) λc xs y=>by rw[aG (g c _ y)];show y
def B2(d:X.calm=Vi)(C:Gl X "list")(A:X.mg "list"=Vg)(B:Gl X "reversed")(y:X.mg "reversed"=Vg)(U:PE X e Z)
  (L:VT [.Call (.Name "reversed" q) [e] [] Y] X.env=[(Vq,eval (.Call (.Name "reversed" q) [e] [] Y) X.env)]:=by rfl) (J:VT [e] X.env=[(Vq,eval e X.env)]:=by rfl):
  PE X (.Call (.Name "list" p) [.Call (.Name "reversed" q) [e] [] Y] [] p1) (yX X.K Z):=by
 intro g s v H Q I h;show Xw (mn I C A ww ?_);show Xu ?_ L W;rw[L];show wpAny _ _ (spliced ((Vq,eval (.Call (.Name "reversed" q) [e] [] Y) X.env)::[])) _ _ s;show Calls.spliced_cons ?_;show Xw (mn I B y Bc ?_);show Xu ?_ J W;rw[J];show wpAny _ _ (spliced ((Vq,eval e X.env)::[])) _ _ s;show Calls.spliced_cons (cR (U g s v H _ I h) λu f a=>?_);let(x,t,m,N,a,xs,ex,S,O):=a;show Calls.spliced_nil ?_;subst ex;obtain rfl:u=Vh.ref a:=N;let(i,rv,pl,G):=m.list S;let w:=pl.isList;show call_reversed_list w (Calls.spliced_nil ?_);let R:a<f.heap.objs.size:=by let(o,e,_):=w;show cv e
 let n:Inv X g v t {f with heap:=f.heap.push (revObj a ((i.toArray.size:Int) - 1))}:=m.kept (t':=f.toks) λb o e=>bP _ e;let j:i.toArray.size<=VF:=by rw[VJ,<-rv.length];show G
 show L10R.agn (r:=f.heap.objs.size) (l:=a) (items:=i.toArray) (m.ok.hd d) (VW R) (w.at λo e=>bP _ e) #[_,cx _ W,W,W] j λh' F E c T hL hi=>?_;let(f0,f1,M,f3,f4,f5):=m.acD (Vy f.heap.objs.size) (m.WT.fresh (Vy _));let I3:Inv X g v t {f with heap:=h',toks:=F}:=Inv.turned (s:={f with heap:=f.heap.push (revObj a ((i.toArray.size:Int) - 1))}) (t':=F) (it:=f.heap.objs.size) n (λb o hb e=>T b o hb e) f0 f1 f3 f4 f5;let ea:=FK hi;let hn:t (f.heap.push (revObj a ((i.toArray.size:Int) - 1))).objs.size=Vg:=n.WT.fresh (Vy _);show#[.ref (f.heap.push (revObj a ((i.toArray.size:Int) - 1))).objs.size,_,?_,W,O _ hn];let M:=n.acD (H':=t) (Vy (f.heap.push (revObj a ((i.toArray.size:Int) - 1))).objs.size) hn;let P:X.s₀.heap.get? (f.heap.push (revObj a ((i.toArray.size:Int) - 1))).objs.size=Vg:=by
  cases z:X.s₀.heap.get? (f.heap.push (revObj a ((i.toArray.size:Int) - 1))).objs.size with
  |none=>rfl
  |some o=>show a6 (VS (cv z) n.sz) (WW _)
 show Ki I3 M P #[by rw[abp];show G,E.toList,c,by rw[ea];show FL rv,by rw[aeu];show hL]
end
end L2
namespace L10
open PySem PySem.Spec PyProof.Rows L2 L3
section
variable{B O A:cJ}{K:Ld}{E:XK}{H H' U H2:Hp}{N J Y C:bg Vm}{Z Z' T X:bh}{L:L2.St}{S:bH}{v:V}
def C5(a:dY):dY:=λS Z=>(a S Z).bind λx T=>(RS.WE T (gy T x)).bind λp X=>.ok (.rf X.length) (X++[.lst p.2.reverse])
def Ps{a:Type}{R:V->a->Prop}{c:G V}{xs:G a}(h:Paired R c xs):Paired R c.reverse xs.reverse:=by
 induction h with
 |nil=>show .nil
 |cons h t b=>rw[Z7,Z7];show wk b h
def JH{h:TE}{c:dY}(o:dg K E h c):dg K E (yX K h) (C5 c):=by intro B L H N Z S Q s m w;show o B L H N Z S _ s m (w.bind.imp λx Y T U y b f u n=>?_);let((i,xs),q,f):=WS.WE f;let(t,a,vs,ha,rfl,r,p):=wD b n q;show#[a,vs,W,SqL.of r,λl g=>?_];let j:Xl U (bE U l (.lst vs.reverse)):=bq g _;let e:Xt Y T U (Y++[l]) (T++[.lst xs.reverse]) (bE U l (.lst vs.reverse)):=Xt.acU b.len j g;show f _ _ e (b.acU j g (by rw[aJ];simp) #[_,aJ,Paired.ZW (Ps p) λ_ _ d=>d.Ym e]) _ #[l,by rw[<-b.len];show bc,W]
def KU{i:Nat}{c:dY}{xs:G SV}(h:c S Z=.ok (.rf i) T)(a:T[i]?=R (.lst xs)):C5 c S Z=.ok (.rf T.length) (T++[.lst xs.reverse]):=by
 let b:gy T (.rf i)=R (i,xs):=by ext gy;dsimp only;rw[a]
 ext C5;rw[h,fm,b];rfl
def P4{i:Nat}{f:D->D->br RV}{c:dY}{x y:SV}{z:SV}{Z3:bh}(a:S[i]?=R (R x))(e:c S Z=.ok y T)(b:qp f x y T=.ok z X):KH i f c S Z=.ok (.nx (S.set i (R z))) X:=by ext KH;rw[b3 a,fm,e,fm,b,fm]
end
end L10
namespace LD
open PySem PyProof.Rows L2 L3
def tq(xs:G (KD×I×V))(k:KD):br V:=(xs.find? λx=>decide (x.1=k)).map (·.2.2)
def uC(xs:G (KD×I×V))(k:KD)(b:I)(v:V):G (KD×I×V):=
 if(xs.find? λx=>decide (x.1=k)).isSome=P then xs.map (λx=>if x.1=k then(x.1,x.2.1,v)else x)else xs++[(k,b,v)]
abbrev RX:G (KD×I×V)->G (KD×I×B)->Prop:=Paired λx y=>x.1=y.1/\x.2.1=y.2.1/\RelV x.2.2 y.2.2
theorem yj:∀{xs:G (KD×I×V)} {a:G (KD×I×B)},RX xs a->xs.map (·.1)=a.map (·.1)
 |_,_,.nil=>rfl
 |_,_,.cons h t=>by rw[VP,VP,h.1,yj t]
theorem Bx:∀{xs:G (KD×I×V)} {a:G (KD×I×B)},RX xs a->ZU (tq xs k) ((atKey a k).map (·.2))
 |_,_,.nil=>by unfold tq atKey;show trivial
 |x::xs,y::a,.cons h t=>by
  unfold tq atKey;rw[Wn,Wn,h.1];by_cases e:y.1=k
  .rw[ax e];show h.2.2
  .rw[aP e];show Bx t
theorem C7:∀{xs:G (KD×I×V)} {a:G (KD×I×B)},RX xs a->(xs.find? λx=>decide (x.1=k)).isSome=(atKey a k).isSome
 |_,_,.nil=>rfl
 |x::xs,y::a,.cons h t=>by
  ext atKey;rw[Wn,Wn,h.1];by_cases e:y.1=k
  .rw[ax e];rfl
  .rw[aP e];show C7 t
theorem Km(r:RelV v u):∀{xs:G (KD×I×V)} {a:G (KD×I×B)},RX xs a->RX (xs.map λx=>if x.1=k then(x.1,x.2.1,v)else x) (a.map (putAt k u))
 |_,_,.nil=>.nil
 |x::xs,y::a,.cons h t=>by
  rw[VP,VP];show .cons ?_ (Km r t);ext putAt;by_cases e:y.1=k
  .rw[ag (h.1.trans e),ag e];show#[h.1,h.2.1,r]
  .rw[av (by rw[h.1];show e),av e];show h
theorem Db(h:x.1=y.1/\x.2.1=y.2.1/\RelV x.2.2 y.2.2):∀{xs:G (KD×I×V)} {a:G (KD×I×B)},RX xs a->RX (xs++[x]) (a++[y])
 |_,_,.nil=>.cons h .nil
 |_,_,.cons g t=>.cons g (Db h t)
def Qs(r:RelV v u)(h:RX xs ys):RX (uC xs k b v) (storedH ys k b u):=by
 unfold uC storedH;rw[C7 h];split
 .show Km r h
 .show Db #[W,W,r] h
def yC(xs:G (KD×I×V))(k:KD)(b:I)(v:V):(uC xs k b v).length<=xs.length+1:=by
 ext uC;split
 .rw[Vj];ext
 .rw[Vs];show Vy _
def yO(K:Ld)(H:Hp)(xs:G (KD×I×V)):Prop:=∀x∈xs,L2.DV K H (.ref x.2.1) x.1.1
section
variable{X:Cx}{Z:bg (Vm×Obj)}{Y:L2.St}{H:Hp}{s:Vp}{a b:Vm}{U:bg (KD×Vm×V)}{k:KD}{v:V}{u r:Vh}{A:V7}{E:Vh->Vp->Prop}
theorem N6:∀{U:G (KD×I×V)} {c:G Zm},Paired (λ(x:KD×I×V) (e:Zm)=>e.hash=ue w x.1.1/\e.key=.ref x.2.1/\RelV x.2.2 e.val) U c->∃ys,RX U ys/\c=ys.map (entryOfKey (iW j w))
 |_,_,.nil=>#[[],.nil,W]
 |x::_,e::_,.cons #[h1,l,m] t=>by let(ys,g,f):=N6 t;show#[(x.1,x.2.1,e.val)::ys,.cons #[W,W,m] g,?_];rw[VP,<-f];let(i,h,ev):=e;dsimp only at h1 l;subst h1 l;rfl
theorem OD:∀{U:G (KD×I×V)} {f:G (KD×I×B)},RX U f->Paired (λ(x:KD×I×V) (e:Zm)=>e.hash=ue w x.1.1/\e.key=.ref x.2.1/\RelV x.2.2 e.val) U (f.map (entryOfKey (iW g w)))
 |_,_,.nil=>.nil
 |_,_,.cons h t=>.cons #[by rw[h.1];rfl,by rw[h.2.1];rfl,h.2.2] (OD t)
theorem wf(I:L2.Inv X Z Y H s)(h:L2.DV X.K H (.ref b) k.1):(iW X.prog X.w).is s.heap k b:=L2.DV.reads I h W
def Ka(I:L2.Inv X Z Y H s)(e:H a=R (DkO a U))(j:yO X.K H U):U.length<=VF/\(a==XZ)=Vq/\∃ys,RX U ys/\s.heap.DictOfH (iW X.prog X.w) a ys:=by
 let(((z,n,nd),o,S,L,G,F,C,B),_):=(show ObjOk X.prog X.w H s.heap a (DkO a U)from I.WT a _ e);let(ys,h,J):=N6 B;show#[z,n,ys,h,o,S,L,G,F,C,J,?_,by rw[<-yj h];show nd];let all:∀{l:bg (KD×Vm×V)} {m:bg (KD×Vm×Vh)},RX l m->(∀x∈l,L2.DV X.K H (.ref x.2.1) x.1.1)->∀y∈m,(iW X.prog X.w).is s.heap y.1 y.2.1:=by
  intro l m q
  induction q with
  |nil=>intro _ y f;show nomatch f
  | @cons p q ps T N t Q=>
   intro g y f;rcases VG.mp f with e|f
   .subst e;let:=wf I (g p (Vn ..));rw[N.1,N.2.1]at this;show this
   .show Q (λx i=>g x (Vr _ i)) y f
 show all h j
def Jr(z:U.length<=VF)(hd:(a==XZ)=Vq)(e:RX U ys)(dd:h'.DictOfH (iW C w) a ys):ObjOk C w H' h' a (DkO a U):=by let(o,J,f,g,m,l,j,t,i):=dd;show#[#[#[z,hd,by rw[yj e];show i],o,J,f,g,m,l,by rw[j];show OD e],#[o,g],?_];rintro B y ⟨q,o,J,f,p,n⟩ h;show#[q,o,J,f,h o p,n]
def wv(e:A.units+64<cLine):(iW X.prog X.w).room A.in1:=by show A.in1.units+8<cLine;rw[V7.in1_units];ext
def Ql(m:A.units+64<cLine)(I:L2.Inv X Z Y H s)(e:H a=R (DkO a U))(o:yO X.K H U)(q:L2.DV X.K H (.ref b) k.1)(g:tq U k=R v)(h:∀c d,L2.Inv X Z Y H d->RelV v c->Q c d):
  wpAny (model X.prog X.w) A (getItem (.ref a) (.ref b)) Q E s:=by
 let(z,y,t,i,dd):=Ka I e o;let(c,l,f):=ZU.some_of (by rw[<-g];show Bx i);let(p,n,j):=adH.mp l;show ahU (wv m) (wf I q) dd n ?_;rw[j];show h c _ (I.tok _) f
def Qh(g:A.units+64<cLine)(I:L2.Inv X Z Y H s)(e:H a=R (DkO a U))(i:yO X.K H U)(l:L2.DV X.K H (.ref b) k.1)(h:∀c,L2.Inv X Z Y H c->Q (.bool (!(tq U k).isSome)) c):
  wpAny (model X.prog X.w) A (XA .NotIn (.ref b) (.ref a)) Q E s:=by
 let(z,j,m,f,dd):=Ka I e i;show wpAny_notIn_heap (wv g) (wf I l) j dd ?_;let q:=(Bx (k:=k) f).aaO;rw[abO]at q;rw[<-q];show h _ (I.tok _)
def QW(m:A.units+64<cLine)(I:L2.Inv X Z Y H s)(e:H a=R (DkO a U))(o:yO X.K H U)(y:L2.DV X.K H (.ref b) k.1)(d:RelV v r)(C:U.length<VF)(h:∀c,L2.Inv X Z Y (bE H a (DkO a (uC U k b v))) c->Q ⟨⟩ c):
  wpAny (model X.prog X.w) A (setItem (.ref a) (.ref b) r) Q E s:=by
 let(z,t,j,f,dd):=Ka I e o;let l:j.length<=VF:=by rw[<-Paired.length f];show z
 let i:(uC U k b v).length<=VF:=by let:=yC U k b v;ext
 show ahV (hsz:=l) (wv m) (wf I y) dd λB g n=>h _ ?_;let p:∃q,B.get? a=R q:=let#[q,_,_,J,_]:=g;#[q,J]
 show su I (by rw[e];show True.intro) n p (Jr i t (Qs d f) g)
def K4(I:L2.Inv X Z Y H s)(e:H a=R (DkO a U)):s.TypeIs (.ref a) "dict"/\(∀b,Vh.ref a=.ref b->∃c,s.heap.get? b=R c/\c.dict=M)/\(a==XZ)=Vq:=by let(((z,h,nd),o,m,l,g,f,j,i),_):=(show ObjOk X.prog X.w H s.heap a (DkO a U)from I.WT a _ e);show#[#[o,g,f.1],λb q=>?_,h];ext q;show#[o,g,f.2.1]
end
section
variable(K:Ld)
def N4(neg:Bool)(ty g:TE):TE:=λf H Q=>ty f H λy h=>g f h λx e=>∃a b xs k,x=.ref a/\y=.ref b/\e a=R (DkO a xs)/\yO K e xs/\L2.DV K e (.ref b) k.1/\Q (.bl ((tq xs k).isSome !=neg)) e
def HZ(g ty:TE):TE:=λf H Q=>g f H λx h=>ty f h λy e=>∃a b xs k v,x=.ref a/\y=.ref b/\e a=R (DkO a xs)/\yO K e xs/\L2.DV K e (.ref b) k.1/\tq xs k=R v/\Q v e
def JZ(h ty g:TE):TS:=λD e H=>g e H λv j=>h e j λx i=>ty e i λy f=>∃a b xs k,x=.ref a/\y=.ref b/\f a=R (DkO a xs)/\yO K f xs/\L2.DV K f (.ref b) k.1/\xs.length<VF/\D.nx e (bE f a (DkO a (uC xs k b v)))
def JP:TE:=λ_ H Q=>∀p,H p=M->Q (.ref p) (bE H p (DkO p []))
end
section
variable{X:Cx}{o i e f Z:WB}{U ty tx tv:TE}{pos Y apos YO:Pos}
def pc_ddnin(v:X.A.units+64<cLine)(c:PE X i ty)(w:PE X o U):PC X .NotIn i o (N4 X.K P ty U):=by intro g s j H Q I h;show cR (c g s j H _ I h) λN m #[y,J,F,n,q]=>cR (w g m j J _ F q) λu M a=>?_;let(x,G,E,p,a,b,xs,k,A,z,e,r,t,l):=a;subst A z;obtain rfl:=p;obtain rfl:=n;rw[Bool.bne_true]at l;show Qh v E e r t λL C=>#[.bl _,G,C,W,l]
def pe_ddget(C:X.A.units+64<cLine)(F:PE X o U)(c:PE X i ty)(E:Pw i):PE X (.Subscript o i pos) (HZ X.K U ty):=by intro j s m H Q I h;show En acL.lookup E (cR (F j s m H _ I h) λu p #[x,O,Mz0,r,w]=>cR (c j p m O _ Mz0 w) λT S a=>?_);let(y,N,n,q,a,b,xs,k,v,J,G,e,z,A,g,t):=a;subst J G;obtain rfl:=r;obtain rfl:=q;show#[(K4 n e).1,Ql C n e z A g λP R L l=>#[v,N,L,l,t]]
def ps_ddput(E:X.A.units+64<cLine)(G:PE X o U)(c:PE X i ty)(C:PE X Z tv)(F:Xm Z (lD (.Subscript o i Y)) pos.line X.env=pure Vq):
  PS X (.Assign [.Subscript o i Y] Z pos) (JZ X.K U ty tv):=by
 intro g s j H D I h;show afY (cR (C g s j H _ I h) λr m #[v,S,Q,rv,w]=>cR (G g m j S _ Q w) λu l #[x,R1,Pz0,p,t]=>cR (c g l j R1 _ Pz0 t) λiv s3 a=>?_) F;let(y,H3,O,n,a,b,xs,k,Mz0,L,e,z,A,J,q):=a;subst Mz0 L;obtain rfl:=p;obtain rfl:=n;show QW E O e z A rv J λT N=>#[j,_,N,q]
theorem pe_ddnew:PE X (.Dict [] [] pos) JP:=λa s b H Q I h=>
 wpAny_Dict_empty #[.ref s.heap.objs.size,_,I.laid (λ_ _ q=>bP _ q) (Vy _) (Jr (Wo _) (beq_eq_false_iff_ne.mpr (ej (VW I.big))) .nil (Heap.DictOfH.new s.heap)),W,h _ (I.WT.fresh (Vy _))]
end
mutual
def RK:Vo->Vo->br Bool
 |.int i,.int j=>lD (decide (i<j))
 |.str x,.str y=>lD (decide (x.cps.toList<y.cps.toList))
 |.tuple xs,.tuple ys=>Sg xs ys
 |_,_=>Vg
def Sg:bg Vo->bg Vo->br Bool
 |[],[]=>lD Vq
 |[],_::_=>lD Vi
 |_::_,[]=>lD Vq
 |x::xs,y::ys=>if Vo.eqv x y=Vi then Sg xs ys else RK x y
end
end LD
namespace LD
open PySem PyProof.Rows
structure VE(es:G Zm)(V1:G (Unit×B)):Prop where
 vals:es.map (·.val)=V1.map (·.2)
end LD
namespace L10
open PySem PyProof.Rows L2 L3 LD
def re:SV->br D
 |.fz d=>if keyD d=P then R d else M
 |_=>M
def UK:SV->br D
 |.fz d=>R d
 |_=>M
def u7(Z:bh):SV->br (Nat×G (D×D))
 |.rf i=>match Z[i]? with
  |some (.dd a)=>R (i,a)
  |_=>M
 |_=>M
def jZ(b:G (D×D))(k:D):br D:=(b.find? λa=>Vo.eqv a.1 k).map (·.2)
def tU(b:G (D×D))(k v:D):G (D×D):=if(b.find? λa=>Vo.eqv a.1 k).isSome=P then b.map (λa=>if Vo.eqv a.1 k=P then(a.1,v)else a)else b++[(k,v)]
section
variable{B O O':cJ}{K:Ld}{E:XK}{H H' S R:Hp}{α α' X T:bg Vm}{Z Z' Z1 Y:bh}{U:L2.St}{ρ:bH}{v:V}{k:KD}
def sG(e:re x=lD d)(h:Y5 O K H α v x):∃(k:KD) (b:I),k.1=d/\v=.ref b/\L3.DV O K H (.ref b) d:=by
 cases x with
 |fz z=>
  let e:(if keyD z=P then lD z else M)=lD d:=e;by_cases a:keyD z=P
  .rw[ag a]at e
   ext e;let h:=h;cases d with
   |tuple xs=>cases h with
    |tup g f=>show#[#[_,a],_,W,W,.tup g f]
   |_=>simp[keyD]at a
  .rw[av a]at e;ext e
 |rf i=>ext e
 |tp l=>ext e
def Kv(s:We B K H α Z)(b:Y5 (ow B α Z) K H α v x)(h:u7 Z x=lD (i,o)):Z[i]?=lD (.dd o)/\∃a xs,α[i]?=lD a/\v=.ref a/\H a=lD (DkO a xs)/\PrD (ow B α Z) K H xs o:=by
 cases x with
 |fz d=>ext h
 |tp l=>ext h
 |rf j=>
  let(a,n,rfl):=b;unfold u7 at h;dsimp only at h;cases q:Z[j]? with
  |none=>rw[q]at h;ext h
  |some c=>
   rw[q]at h;cases c with
   |dd m=>let e:=VR h;ext e;let(ws,g,f):=s.cel i a _ n q;show#[q,a,ws,n,W,g,f]
   |_=>ext h
theorem Eb:∀{xs:G (KD×I×V)} {b:G (D×D)},PrD O K H xs b->yO K H xs
 |_,_,.nil=>λ_ h=>nomatch h
 |x::xs,f::b,.cons h t=>λy a=>by
  rcases VG.mp a with e|a
  .subst e;rw[h.1];show h.2.1.plain
  .show Eb t y a
def xF{x:KD×I×V}{a:D×D}(h:x.1.1=a.1):decide (x.1=k)=Vo.eqv a.1 k.1:=by
 rw[<-h]
 haveI:Decidable (x.1.1=k.1):=Classical.propDecidable _
 rw[G5 (keyD_kd x.1.2).1 (keyD_kd k.2).1];by_cases e:x.1=k
 .rw[ax e,ax (eH Subtype.val e)]
 .rw[aP e,aP λz=>e (Subtype.ext z)]
theorem tj:∀{xs:G (KD×I×V)} {a:G (D×D)},PrD O K H xs a->(∀d,jZ a k.1=lD d->∃v,tq xs k=lD v/\L3.DV O K H v d)/\(jZ a k.1=M->tq xs k=M)
 |_,_,.nil=>#[λx e=>(by ext e),λ_=>W]
 |x::xs,b::a,.cons h t=>by
  unfold jZ tq;rw[Wn,Wn,xF h.1];cases Vo.eqv b.1 k.1 with
  |true=>show#[λd e=>#[x.2.2,W,by ext e;show h.2.2],λe=>by ext e]
  |false=>show tj t
def Bb(h:PrD O K H xs o):(tq xs k).isSome=(jZ o k.1).isSome:=by
 let(b,a):=tj h;cases q:jZ o k.1 with
 |none=>rw[a q];rfl
 |some x=>let(u,e,_):=b x q;rw[e];rfl
theorem J6:∀{xs:G (KD×I×V)} {b:G (D×D)},PrD O K H xs b->(xs.find? λx=>decide (x.1=k)).isSome=(b.find? λa=>Vo.eqv a.1 k.1).isSome
 |_,_,.nil=>rfl
 |x::xs,a::b,.cons h t=>by
  rw[Wn,Wn,xF h.1];cases Vo.eqv a.1 k.1 with
  |true=>rfl
  |false=>show J6 t
theorem OS(a:L3.DV O K H v d):∀{xs:G (KD×I×V)} {c:G (D×D)},PrD O K H xs c->PrD O K H (xs.map λx=>if x.1=k then(x.1,x.2.1,v)else x) (c.map λb=>if Vo.eqv b.1 k.1=P then(b.1,d)else b)
 |_,_,.nil=>.nil
 |x::xs,b::c,.cons h t=>by
  rw[VP,VP];show .cons ?_ (OS a t);let e:=xF (k:=k) h.1;by_cases z:x.1=k
  .rw[ag z,ag (by rw[<-e];show ax z)];show#[h.1,h.2.1,a]
  .rw[av z,av (by rw[<-e,aP z];simp)];show h
theorem Ai(r:x.1.1=o.1/\L3.DV O K H (.ref x.2.1) o.1/\L3.DV O K H x.2.2 o.2):∀{xs:G (KD×I×V)} {a:G (D×D)},PrD O K H xs a->PrD O K H (xs++[x]) (a++[o])
 |_,_,.nil=>.cons r .nil
 |_,_,.cons g t=>.cons g (Ai r t)
def JV(e:L3.DV O K H (.ref b) k.1)(a:L3.DV O K H v d)(h:PrD O K H xs o):PrD O K H (uC xs k b v) (tU o k.1 d):=by
 unfold uC tU;rw[J6 h];split
 .show OS a h
 .show Ai #[W,e,a] h
theorem Ri(e:Ev O H O' H')(h:PrD O K H xs o):PrD O' K H' xs o:=Paired.ZW h λ_ _ q=>#[q.1,q.2.1.ev e,q.2.2.ev e]
def Dy(neg:Bool)(a fd:dY):dY:=λρ Z=>(a ρ Z).bind λx Z1=>(fd ρ Z1).bind λo Y=>(RS.WE Y (re x)).bind λk Y=>(RS.WE Y (u7 Y o)).bind λp Y=>.ok (.fz (.bool ((jZ p.2 k).isSome !=neg))) Y
def JS(r:dg K E C fk)(hd:dg K E J fd):dg K E (N4 K neg C J) (Dy neg fk fd):=by intro B U H α Z ρ Q s f w;show r B U H α Z ρ _ s f (w.bind.imp λx X Z1 S A l j v p=>?_);show hd B U S X Z1 ρ _ l (f.Ym A) (j.bind.imp λo T Y R z g e u q=>?_);let(d,n,e):=WS.WE e;let((i,N),m,e):=WS.WE e;let(_,a,xs,L,rfl,y,h):=Kv g q m;let(k,b,rfl,rfl,t):=sG n (p.Ym z);show#[a,b,xs,k,W,W,y,Eb h,t.plain,?_];rw[Bb h];show WS.now g e _ (.bl _)
def ug(fd a:dY):dY:=λρ Z=>(fd ρ Z).bind λo Z1=>(a ρ Z1).bind λx Y=>(RS.WE Y (re x)).bind λk Y=>(RS.WE Y (u7 Y o)).bind λp Y=>(RS.WE Y (jZ p.2 k)).bind λd Y=>.ok (.fz d) Y
def Gm(hd:dg K E td fd)(C:dg K E tk fk):dg K E (HZ K td tk) (ug fd fk):=by intro B U H α Z ρ Q s f w;show hd B U H α Z ρ _ s f (w.bind.imp λo X Z1 S J m j u A=>?_);show C B U S X Z1 ρ _ m (f.Ym J) (j.bind.imp λx T Y R I g e v t=>?_);let(d,q,e):=WS.WE e;let((i,N),p,e):=WS.WE e;let(_,a,xs,L,rfl,G,h):=Kv g (A.Ym I) p;let(k,b,rfl,rfl,F):=sG q t;let(y,n,e):=WS.WE e;let(z,r,l):=(tj h).1 y n;show#[a,b,xs,k,z,W,W,G,Eb h,F.plain,r,WS.now g e z l]
def wP(fd e b:dY):fJ:=λρ Z=>(b ρ Z).bind λy Z1=>(fd ρ Z1).bind λo Y=>(e ρ Y).bind λx a=>(RS.WE a (re x)).bind λk a=>(RS.WE a (u7 a o)).bind λp a=>(RS.WE a (UK y)).bind λd a=>if p.2.length<1000000 then .ok (.nx ρ) (a.set p.1 (.dd (tU p.2 k d)))else .bad
def Rf(e:UK x=lD d)(h:Y5 O K H α v x):L3.DV O K H v d:=by
 cases x with
 |fz z=>ext e;show h
 |rf i=>ext e
 |tp l=>ext e
def FX(hd:dg K E td fd)(hk:dg K E tk fk)(c:dg K E tv fv):om K E (JZ K td tk tv) (wP fd fk fv):=by
 intro B U H α Z ρ D s g w;show c B U H α Z ρ _ s g (WS.imp (WS.bind w) λy X Z1 S r L I t m=>?_);show hd B U S X Z1 ρ _ L (g.Ym r) (WS.imp (WS.bind I) λo T Y R q J G u hu=>?_);show hk B U R T Y ρ _ J (g.Ym (r.trans q)) (WS.imp (WS.bind G) λx e h j p A f z Q=>?_);let(kd,P,f):=WS.WE f;let((i,V1),N,f):=WS.WE f;let(d,M,f):=WS.WE f;let(l,a,xs,ha,rfl,g1,n):=Kv A (hu.Ym p) N;let(k,b,rfl,rfl,C):=sG P Q;let hy:=Rf M (m.Ym (q.trans p));dsimp only at f;by_cases hn:V1.length<1000000
 .rw[ag hn]at f;let ev:Ev (ow B e h) j (ow B e h) (bE j a (DkO a (uC xs k b t))):=sK ha l (by nofun);let F:Xt e h j e (h.set i (.dd (tU V1 k.1 d))) (bE j a (DkO a (uC xs k b t))):=Xt.put ha l (by nofun) (by nofun);let hl:=Paired.length n;show#[a,b,xs,k,W,W,g1,Eb n,C.plain,vS (),?_];show f e _ F (A.put ha l (by nofun) (by nofun) #[_,aJ,JV (C.ev ev) (hy.ev ev) (Ri ev n)]) U ((g.Ym (r.trans (q.trans p))).Ym F)
 .rw[av hn]at f;show f.elim
def Br:dY:=λ_ Z=>.ok (.rf Z.length) (Z++[.dd []])
def FQ:dg K E JP Br:=by intro B U H α Z ρ Q s b w;show λp a=>ph s a w λ_=>#[[],aJ,.nil]
end
end L10
namespace L3
open PySem PyProof.Rows L2
structure ab0(K:Ld)(x qual:Str)(st:XM)(f:I)(fd:WA)(T:I)(Wr:Array B):Prop where
 ex:∃(oc:B) (od:br I) (kV doc pm:B) (an:br I) (W6 ct:B) (osl:Array (br B)),
  fd=W3 x qual (fK st) (cw st) (aH st) (.ref T) kV doc pm an W6 ct/\K.lookup f=R #[oc,od,.func fd,osl]/\ZG K W6 qual=P
 kp:W7 K (.ref f)=P
 tp:∃o n,K.lookup T=R o/\o.data=.seq Wr n
section
variable{P:VV}{w:Wh}{K:Ld}{L:Str->br Vh}{base:Heap}{x Z:Str}{Y:XM}{f:Vm}{U:WA}{T:Vm}{J:Array Vh}{N ps:bg Str}{k n m:Nat}{Q:Sp}{S:bg Vh}
def ab0.binds(F:ab0 K x Z Y f U T J)
  (h:∀(kV a b:B) (e:br I) (g ct:B) (us:G B),(us++S).length=ps.length->∃k:br (Array B)->Sem (G (Str×B)),bindArgs (W3 x Z (fK Y) (cw Y) (aH Y) (.ref T) kV a b e g ct) #[us,[]]=seqItems? (.ref T)>>=k/\k (R J)=pure (ps.zip (us++S))):Binds K U ps S:=by
 let(v,u,kV,a,b,e,g,ct,i,rfl,y,l):=F.ex;let(o,n,q,p):=F.tp;intro s us X j;let(k,t,r):=h kV a b e g ct us j;show aat.of_defaults (fd:=W3 x Z (fK Y) (cw Y) (aH Y) (.ref T) kV a b e g ct) W (X _ _ q) p t r
def qC(P:VV)(w:Wh)(K:Ld)(L:Str->br B)(base:Heap)(a:uP)(k:Nat)(x:Str)(ps:G Str)(b:G V)(Q:Sp):Prop:=
 ∃(f:I) (U:WA) (S:G B),FnOk P w K L base a k f U ps Q/\Binds K U ps S/\Vals b S/\W7 K (.ref f)=Vi/\L x=R (.ref f)
def kH(C:qC X.prog X.w X.K X.mg X.base CX k x ps dvs Q)(o:XN j X.A)(l:eR CX X E)(c:PA X (e::es) t)(g:k<=j:=by decide)(q:Gl X x:=by rfl)
  (h:(x==("__debug__":Str))=Vq:=by decide) (r:VT (e::es) X.env=(Vq,eval e X.env)::VT es X.env:=by rfl) (a:(backTo pos (VT es X.env)).any (·.1)=Vq:=by rfl):
  PE X (.Call (.Name x p) (e::es) [] pos) (jt Q dvs E t):=by
 let(f,U,S,F,b,v,i,m):=C;show Dx F (o.mono g) q m i b v l c h r a
end
end L3
namespace L10
open PySem PyProof.Rows L2 L3
section
variable{P:VV}{w:Wh}{K:Ld}{U:Str->br Vh}{base:Heap}{x Z:Str}{Y:XM}{f:Vm}{L:WA}{T:Vm}{C:Array Vh}{N X:bg Str}{k n m:Nat}{g:fJ}{J:iS}
def S6(F:ab0 K x Z Y f L T C)(S:XX N X (aH Y))(c:X.length=n)(hm:N.length=m)(q:J=de m g)
  (u:∀(a:Vh) (A:V7) (outer:G Env) (s:Vp) (H:Hp) (E:XK),XN k (A.deeper (V0 Z (aH Y) s.heap.objs.size f a))->
   ∃t,PSs (eB (L4.gR P w) P w K U base N Z (aH Y) f a A outer s H E) (cw Y) t/\om K E t g):FnOk P w K U base (L4.gR P w) (k+1) f L X (dc K n J):=by
 subst q hm;let(z,y,kV,r,v,B,a,ct,i,rfl,j,e):=F.ex;show Io j e S (λvs H Q E h=>h.1.trans c.symm) λA outer s H vs Q E p b=>?_;let(t,l,o):=u a A outer s H E p;show#[t,l,wU (xs:=[]) o b]
end
section
variable{K:Ld}{E:XK}
def yM(F:iS)(n:Nat)(b:G D)(c:sS):dY:=λe Z=>(c e Z).bind λxs a=>if(xs++b.map SV.fz).length=n then F (xs++b.map SV.fz) a else .bad
theorem wJ:∀{c ws:G V} {xs b:G SV},Yx O K H α c xs->Yx O K H α ws b->Yx O K H α (c++ws) (xs++b)
 |_,_,_,_,.nil,h=>h
 |_,_,_,_,.cons a t,h=>.cons a (wJ t h)
def vN(hd:∀O H,L3.Xn O K H o C)(c:uQ K E J U):dg K E (jt (dc K n F) o E J) (yM F n C U):=by
 intro B g H α Z p Q s h w;show c B g H α Z p _ s h (w.bind.imp λxs a f l m i e q j=>?_);by_cases hn:(xs++C.map SV.fz).length=n
 .rw[ag hn]at e;let b:=wJ j (mf (ow B a f) a (hd (ow B a f) l));show#[b.length.trans hn,B,a,f,_,i,b,e]
 .rw[av hn]at e;show e.elim
end
end L10
namespace L4
open PySem PyProof.Rows L2 L3
def acA(h:Heap)(e:I)(c:B)(d:br I)(a:B)(T:I)(v:B):Prop:=
 ∃b fs,h.get? e=R b/\b.cls=c/\b.dict=d/\b.data=.fields fs/\fs[0]?=R a/\fs[1]?=R (.ref T)/\T≠e/\∃g f,h.get? T=R g/\g.data=.fields f/\f[3]?=R v
section
variable{M:adE}{A:V7}{E:Vh->Vp->Prop}{s:Vp}
def tT
  (C:A.frames=R (env::outer)) (r:s.heap.FunFrames base (env::outer)) (B:env.frame=R L) (t:s.heap.get? e=R J) (h:J.data=.fields fs) (p:1<fs.size) (F:fs[0]?=R a0)
  (k:∀x T,s.heap.objs.size<=T->acA x e J.cls J.dict a0 T (rawInt L)->Lft (env::outer) e Vg s.heap x->Q ⟨⟩ {s with heap:=x}):
  wpAny M A (frameOf env>>=λfr=>entryPlaceOf L nx>>=λpl=>EntryCells.newEntry U fr .none (rawInt L) .none pl>>=λb=>setField (.ref e) 1 b) Q E s:=by
 let g:e∉(env::outer).filterMap (·.frame):=λz=>by let(_,o,q,n):=r.mem z;rw[t]at q;ext q;show n fs h
 show Vf (aiO C r B λa S=>?_);show Vf (ahW λpl P=>?_);unfold EntryCells.newEntry newFields;show Vf (WN ?_ (P.sizeOk5 _ _ _ _ _));let l:=(S.2.1 e g).trans t;generalize X:({cls:=.type "traceback",dict:=Vg,data:=.fields ([U,.ref L,.none,rawInt L,.none]++(if pl.isEmpty then Vw 6 Vh.none else pl)).toArray}:Obj)=N;let u:N.data=.fields ([U,.ref L,.none,rawInt L,.none]++(if pl.isEmpty then Vw 6 Vh.none else pl)).toArray:=by rw[<-X]
 let G:=eh u;let j:=bP N l;show W5 j h p ?_;let m:=WL (cv l);let v:=d3 h (·.setIfInBounds 1 (Vh.ref a.objs.size));let i:=dt (Obj.mapFields (·.setIfInBounds 1 (Vh.ref a.objs.size))) j (eh v)
 let w:=
  (da (a.push N) (Obj.mapFields (·.setIfInBounds 1 (Vh.ref a.objs.size))) m.symm).trans (cx a G)
 let ZL:∀b o,b≠e->a.get? b=R o->((a.push N).update e (Obj.mapFields (·.setIfInBounds 1 (Vh.ref a.objs.size)))).get? b=R o:=λb o ne q=>by rw[da _ _ ne.symm];show bP N q
 show k _ a.objs.size (by rw[S.1];show Vy _) #[_,_,i,Obj.cls_mapFields _ _,?_,v,?_,?_,m,_,_,w,u,?_] #[λb o q ne _ y=>ZL b o ne ((S.2.1 b y).trans q),λb o q ne _=>?_,λb o q=>?_]
 .cases J with
  |mk c d H f=>ext H<;>rfl
 .rw[Zk ()];show F
 .simp[p]
 .rfl
 .let(f,z):=S.2.2 b o q;show#[f,ZL b _ ne z]
 .by_cases ne:b=e
  .subst ne;show#[_,i]
  .let(f,z):=S.2.2 b o q;show#[_,ZL b _ ne z]
def P7{base:Heap}{env:Env}{outer:bg Env}{L e:Vm}{c B:Vh}{D hd:br Vm}{Q:Unit->Vp->Prop}
  (v:A.frames=R (env::outer)) (u:s.heap.FunFrames base (env::outer)) (h:env.frame=R L) (F:Fv s.heap e c D B hd)
  (k:∀x T,s.heap.objs.size<=T->acA x e c D B T (rawInt L)->Lft (env::outer) e hd s.heap x->Q ⟨⟩ {s with heap:=x}):wpAny M A (noteFrame (.ref e) env) Q E s:=by
 let(O,fs,q,J,I,d,w,r):=F;subst J I;cases hd with
 |none=>let r:fs[1]?=R .none:=r;ext noteFrame;simp only[h];show Vf (Wf q d r ?_);rw[av ()];show tT v u h q d (V4.mp r).1 w k
 |some T=>
  let(r,G,P,C,g,dT,p):=r;ext noteFrame;simp only[h];show Vf (Wf q d r ?_);rw[ag (show(Vh.ref T !=Vh.none)=Vi from by simp)];show Vf (Wf g dT p ?_);rw[av (show¬((Vh.none==rawInt L)=Vi)from by simp[rawInt])];show Vf (W5 g dT (V4.mp p).1 ?_);let f:∀b,b≠T->(s.heap.update T (Obj.mapFields (·.setIfInBounds 3 Vh.none))).get? b=s.heap.get? b:=λb ne=>da _ _ ne.symm;let a:=dt (Obj.mapFields (·.setIfInBounds 3 Vh.none)) g (eh (d3 dT _));let m:∀b o,s.heap.get? b=R o->(∀S,o.data≠.fields S)->b≠T:=λb o z n y=>by rw[y,g]at z;ext z;show n C dT
  show tT v (u.of_keeps λb o z n=>#[o,(f b (m b o z n)).trans z,W]) h ((f e G.symm).trans q) d (V4.mp r).1 w λx K t N i=>k x K (by rw[Heap.size_after_update]at t;show t) N #[λb o z l j H=>?_,λb o z l j=>?_,λb o z=>?_]
  .show i.keep b o ((f b λy=>j (by rw[y])).trans z) l (by simp) H
  .show i.slot b o ((f b λy=>j (by rw[y])).trans z) l (by simp)
  .by_cases y:b=T
   .subst y;show i.here b _ a
   .show i.here b o ((f b y).trans z)
def Gc{base:Heap}{env:Env}{outer:bg Env}{L e T:Vm}{c G v:Vh}{U:br Vm}{Q:Unit->Vp->Prop}
  (P:A.frames=lD (env::outer)) (O:s.heap.FunFrames base (env::outer)) (B:env.frame=lD L) (F:acA s.heap e c U G T v)
  (k:∀x D,(D=T\/s.heap.objs.size<=D)->Fv x e c U G (lD D)->Lft (env::outer) e (lD T) s.heap x->Q ⟨⟩ {s with heap:=x}):wpAny M A (leaving env (.ref e)) Q E s:=by
 let(I,fs,q,N,K,d,C,r,m,S,H,h,dT,t):=F;subst N K;let f:∀b,b≠T->(s.heap.update T (Obj.mapFields (·.setIfInBounds 3 Vh.none))).get? b=s.heap.get? b:=λb ne=>da _ _ ne.symm;let a:=dt (Obj.mapFields (·.setIfInBounds 3 Vh.none)) h (eh (d3 dT _));let l:=(V4.mp t).1;unfold leaving noteFrame;simp only[B];show Vf (Vf (Wf q d r ?_));rw[ag (show(Vh.ref T !=Vh.none)=Vi from by simp)];show Vf (Wf h dT t ?_);by_cases u:(v==rawInt L)=Vi
 .rw[ag u]
  show Vt ?_;ext setFlight;show Vf (Wf q d r ?_);rw[ag (show(Vh.ref T !=Vh.none)=Vi from by simp)];show W5 h dT l ?_;show k _ T (.inl W) #[I,fs,(f e m.symm).trans q,W,W,d,C,r,m,_,_,a,d3 dT _,?_] #[λb o z i g _=>?_,λb o z i g=>#[o.slots,?_],λb o z=>?_]
  .rw[Xr l]
  .show(f b λy=>g (by rw[y])).trans z
  .show(f b λy=>g (by rw[y])).trans z
  .by_cases y:b=T
   .subst y;show#[_,a]
   .show#[o,(f b y).trans z]
 .rw[av u]
  show Vf (W5 h dT l ?_);let p:∀b o,s.heap.get? b=lD o->(∀X,o.data≠.fields X)->b≠T:=λb o z n y=>by rw[y,h]at z;ext z;show n H dT
  show i6 P (O.of_keeps λb o z n=>#[o,(f b (p b o z n)).trans z,W]) B ((f e m.symm).trans q) d (V4.mp r).1 C λx D w R j=>k x D (.inr (by rw[Heap.size_after_update]at w;show w)) R #[λb o z i g J=>?_,λb o z i g=>?_,λb o z=>?_]
  .show j.keep b o ((f b λy=>g (by rw[y])).trans z) i (by simp) J
  .show j.slot b o ((f b λy=>g (by rw[y])).trans z) i (by simp)
  .by_cases y:b=T
   .subst y;show j.here b _ a
   .show j.here b o ((f b y).trans z)
def Hq{g:Env}{h:String}{e T:I}{c m v:Vh}{D:br I}{Q:Vh->Vp->Prop}(F:acA s.heap e c D m T v)
  (k:∀x J,acA x e c D m T J->(∀b o,b≠T->s.heap.get? b=R o->x.get? b=R o)->(∃o,x.get? T=R o)->E (.ref e) {s with heap:=x}):wpAny M A (ahX h (.ref e) g:Sem Vh) Q E s:=by
 let(t,fs,q,w,u,d,y,r,l,C,B,j,dT,p):=F;subst w u;let i:=(V4.mp p).1;ext ahX;show Vf (Wf q d r ?_);rw[av (show¬((Vh.ref T==Vh.none)=P)from by simp)];ext setFlight;show Vf (Vf (Wf q d r ?_));rw[ag (show(Vh.ref T !=Vh.none)=P from by simp)];show W5 j dT i (wpAny_throw ?_);let n:∀b,b≠T->(s.heap.update T (Obj.mapFields (·.setIfInBounds 3 (g.frame.elim Vh.none λf=>rawInt f)))).get? b=s.heap.get? b:=λb ne=>da _ _ ne.symm;let a:=dt (Obj.mapFields (·.setIfInBounds 3 (g.frame.elim Vh.none λf=>rawInt f))) j (eh (d3 dT _));show k _ _ #[t,fs,(n e l.symm).trans q,W,W,d,y,r,l,_,_,a,d3 dT _,Xr i] (λb o ne z=>(n b ne).trans z) #[_,a]
end
end L4
namespace L2
open PySem PySem.Spec PyProof.Rows
def UV(Y:Cx)(E:XK):B->Vp->Prop:=λx a=>∃pins b H1 e c f a0 hd,x=.ref e/\Inv Y pins b H1 a/\L4.Fv a.heap e c f a0 hd/\(Y.s₀.heap.get? e=M\/e∈Y.ex)/\(∀T,hd=R T->Y.s₀.heap.get? T=M\/T∈Y.ex)/\H1 e=M/\(∀T,hd=R T->H1 T=M)/\E c f H1
end L2
namespace L4
open PySem PyProof.Rows L2 L3
def Rx{P:VV}{w:Wh}{K:Ld}{k:Str->br Vh}{base:Heap}{N:bg Str}{i:Str}{a:YT}{f:Vm}{M:Vh}{A:V7}{outer:bg Env}{g:Vp}{Q:Hp}{E:XK}
  {m:bg (Vm×Obj)} {R:L2.St} {H:Hp} {s:Vp} {e T:Vm} {c O v:Vh} {d:br Vm} (I:L2.Inv (eB (gR P w) P w K k base N i a f M A outer g Q E) m R H s)
  (F:acA s.heap e c d O T v) (J:g.heap.get? e=Vg) (G:g.heap.get? T=Vg) (ne:H e=Vg) (u:H T=Vg) (q:E c d H):
  (eB (gR P w) P w K k base N i a f M A outer g Q E).xe (.ref e) s:=by
 let hA:=I.ok.frames;let hF:=I.stack;show Gc (L:=g.heap.objs.size) hA hF W F λh' t j F' L=>?_;let X:=L.WT I.WT ne (λT1 z=>by ext z;show u) I.abH;let sz:=I.sz;let Z:H t=Vg:=by
  rcases j with e|j
  .rw[e];show u
  .show I.WT.fresh j
 let gT:g.heap.get? t=Vg:=by
  rcases j with e|j
  .rw[e];show G
  .show dP (Wk sz j)
 let r:∀b o,g.heap.get? b=lD o->b<g.heap.objs.size:=λb o z=>cv z;let h:∀b o,g.heap.get? b=lD o->b≠e/\lD T≠lD b:=λb o z=>#[(λy=>by rw[y,J]at z;ext z),(λy=>by ext y;rw[G]at z;ext z)];show#[e,c,d,O,t,H,W,J,gT,F',ne,Z,I.os,I.bare,?_,X,q];let B:=I.base;show#[λb o z n C _=>?_,λb o z n Y _=>?_,λb o z n _=>?_,λb o z _=>?_,B.abD,B.abc,B.abC]
 .let l:=B.keep b o z n C (λy=>nomatch y)
  show L.keep b o l (h b o z).1 (h b o z).2 λy=>?_;rcases VG.mp (I.abj b y)with y|y
  .let y:b=g.heap.objs.size:=y;show a6 (r b o z) (by rw[y];show WW _)
  .show C y
 .let(sl,l):=B.slot b o z n Y (λy=>nomatch y);let(p,S):=L.slot b _ l (h b o z).1 (h b o z).2;show#[p,S]
 .show B.free b o z n (λy=>nomatch y)
 .let(U,l):=B.there b o z (λy=>nomatch y);show L.here b U l
def On(X:Cx)(E:XK):Prop:=∀(a:L2.St) (H:Hp) (s:Vp) (e T:I) (c b v:B) (f:br I),L2.Inv X [] a H s->acA s.heap e c f b T v->X.s₀.heap.get? e=M->X.s₀.heap.get? T=M->H e=M->H T=M->E c f H->X.xe (.ref e) s
theorem Me{P:VV}{w:Wh}{K:Ld}{d:Str->br B}{base:Heap}{N:G Str}{b:Str}{a:YT}{f:Vm}{m:B}{A:V7}{outer:G Env}{g:Vp}{n:Hp}{E:XK}:
  On (eB (gR P w) P w K d base N b a f m A outer g n E) E:=λo H s e T c p v r I F l j i h q=>Rx I F l j i h q
def KA{X:Cx}{g:Vp}{j:Hp}{a:YT}{C:Vm}{N:G Str}{d:G Vm}{E:XK}:
  eR (gR X.prog X.w) ((cX X g j a C N d).aan (UV (cX X g j a C N d) E)) E:=by
 rintro f l H s x t I ⟨e,c,J,m,T,r,rfl,le,A,F,ne,v,os,bare,un,WT,q⟩;let p:=I.ad8 (ch:=[]) os un WT bare (λb z=>nomatch z);let old:∀b,s.heap.get? b=M->g.heap.get? b=M\/b∈d:=λb z=>by
  by_cases i:b∈d
  .show .inr i
  .show .inl ?_
   cases y:g.heap.get? b with
   |none=>rfl
   |some o=>let(u,h):=I.base.there b o y i;rw[z]at h;ext h
 show#[f,l,r,e,c,J,m,R T,W,p.Zl,F,old e le,(λn z=>by ext z;show old T A),ne,(λn z=>by ext z;show v),q]
def acA.at{h h':Heap}{e T:I}{c a v:B}{s:br I}(F:acA h e c s a T v)(k:∀b o,b=e\/b=T->h.get? b=R o->h'.get? b=R o):acA h' e c s a T v:=by let(j,fs,q,p,n,d,t,r,m,l,f,i,dT,g):=F;show#[j,fs,k _ _ (.inl W) q,p,n,d,t,r,m,l,f,k _ _ (.inr W) i,dT,g]
end L4
namespace L2
open PySem PySem.Spec PyProof.Rows
theorem Inv.aj8{X:Cx}{a:G (Vm×Obj)}{b:St}{H:Hp}{s:Vp}(I:Inv X a b H s):Inv X [] b H s:=
 #[I.ok,I.os,I.bare,I.base,I.loc,I.cell,I.free,I.Y4,λp e=>I.pin p (by rw[V2]at e;show Xf _ e),I.WT,I.len]
def J8{X:Cx}{elt V iter:WB}{ifs:G WB}{scope:YT}{pos:Pos}(own:G Str)(u:G (Str×Nat)){wi:TI}{g:TG}{tc:TT}{te:TE}{EK:XK}(dI:X.stack=X.env::X.outer/\X.env.frame=lD X.env.locals)(hex:X.ex=[])(k:X.pn=[])(PX:L4.On X EK)(hc:X.calm=P)(hi:PI X V iter wi)
  (hg:∀s H C i,PG (cX X s H scope C (fM own u) i) V g) (ht:∀s H C i,FY (cX X s H scope C (fM own u) i) ifs tc) (he:∀s H C i,PE ((cX X s H scope C (fM own u) i).aan (UV (cX X s H scope C (fM own u) i) EK)) elt te) (hfv:ad9 X scope u)
  (agc:(scope.names.all λy=> !(y.2==V8.free)||(X.env.scope.names.lookup y.1==lD V8.cell)||(X.env.scope.names.lookup y.1==lD V8.free))=P)
  (Zq:scope.kind=.function:=by rfl) (hnd:(scope.names.map (·.1)).Nodup:=by left)
  (acC:∀y∈scope.names,y.2=.local->scope.names.lookup y.1=lD .local:=by left) (hs:∀x,foldedSetIterable iter X.env x=pure x:=by intro _;rfl):
  PE X (.ListComp elt [#[V,iter,ifs,0]] scope pos) (tE own u wi g tc te):=by
 intro pins s σ H Q I h;let S:=J9 agc;rw[anP];show aaA (use:=M) W hs (oa (mO I.ok S)) Zq acC (cR (hi pins s σ H _ I h) λxv s1 h1=>cR h1 λitv s2 h2=>?_);let(it,i,tn,J,H2,e,j,T,st2,f2,R):=h2;subst e;show nG j hc Zq hnd (mO I.ok S) hfv T st2 f2 (λC=>hg _ _ C _) (λC=>ht _ _ C _) (λC=>he _ _ C _) ?_ (Fin:=λD H'=>Q (.ref D) H') R ?_
 .rintro D C x s3 Y ⟨aox,σ3,l,e,c,dx,a0,hd,rfl,f,F,fe,fT,ne,nT,q⟩
  let hsz:s2.heap.objs.size<=s3.heap.objs.size:=f.sz;show wpAny (model X.prog X.w) X.A (noteFrame (.ref e) X.env) _ _ s3;show L4.P7 (env:=X.env) (outer:=X.outer) (base:=X.base) (L:=X.env.locals) (by rw[<-dI.1];show f.ok.frames) (by rw[<-dI.1];show f.stack) dI.2 F λh' T' U F' L=>?_;rw[<-dI.1]at L;let(m,hm,_):=f.loc;let hm:s3.heap.Ns C m:=hm;let hn3:l C=M:=f.free;let fo:∀b,b=e\/hd=lD b->s2.heap.get? b=M\/b∈i:=λb z=>by
   rcases z with z|z
   .rw[z];show fe
   .show fT b z
  let amm:∀b,b=e\/hd=lD b->∃o vs,s3.heap.get? b=lD o/\o.data=.fields vs:=λb z=>by
   let(ob,fs,q1,_,_,d,_,r):=F;rcases z with z|z
   .rw[z];show#[ob,fs,q1,d]
   .subst z;let(_,_,oT,ts,qT,dT,_):=r;show#[oT,ts,qT,dT]
  let nC:¬(C=e\/hd=lD C):=λz=>by let(o,vs,q1,d):=amm C z;let(o',es,ep,q2,d2,_):=hm;rw[q1]at q2;ext q2;rw[d]at d2;ext d2
  let nfr:C∉yy X.stack:=λz=>by let(_,o,t,_):=j.stack.mem z;show a6 (VS (cv t) Y) (WW _)
  let IX:Inv X [] σ l s3:=(j.ad8 (ch:=i) f.os f.base f.WT f.bare λb a=>#[(f2 b a).2.2.2.1,(f2 b a).2.1,(f2 b a).2.2.2.2.1,(f2 b a).2.2.2.2.2]).aj8;let n0:∀b,b=e\/hd=lD b->X.s₀.heap.get? b=M:=λb z=>by
   rcases fo b z with y|y
   .cases z0:X.s₀.heap.get? b with
    |none=>rfl
    |some o=>let(o',z1):=j.base.there b o z0 (by rw[hex];show λy=>nomatch y);rw[y]at z1;ext z1
   .rcases(f2 b y).2.2.2.1 with w|w
    .rw[hex]at w;ext w
    .show dP w
  let Ia:Inv X [] σ l {s3 with heap:=h'}:=by
   show L4.lO IX (λb=>b=e\/hd=lD b) hex (by rw[k];show λp N=>nomatch N) (λb o z n nf=>L.keep b o z (λy=>n (.inl y)) (λy=>n (.inr y)) nf) (λb o z n=>L.slot b o z (λy=>n (.inl y)) (λy=>n (.inr y))) L.here n0 (λz=>?_) (λx cc z y=>?_) (λb z=>?_)
   .rcases fo _ z with y|y
    .let(mm,hn,_):=j.loc;let(o,_,_,t,_):=hn;rw[y]at t;ext t
    .show(f2 _ y).2.1 W
   .rcases fo _ y with w|w
    .let(v,o,t,_):=j.cell x cc z;rw[w]at t;ext t
    .show(f2 _ w).2.2.2.2.1 x cc z W
   .rcases z with z|z
    .rw[z];show ne
    .show nT b z
  let A:l T'=M:=f.WT.fresh U;show#[m,hm.at' λo z=>L.keep C o z (λy=>nC (.inl y)) (λy=>nC (.inr y)) nfr,λh4 sb aeL _=>?_];let CT:C<s3.heap.objs.size:=hm.lt;let F4:L4.acA h4 e c dx a0 T' (rawInt X.env.locals):=F'.at λb o z y=>by
   show(sb.2 b λw=>?_).trans y;rcases z with z|z
   .show nC (.inl (w.symm.trans z))
   .let this:T'=C:=z.symm.trans w;rw[this]at U;show a6 (VS CT U) (WW _)
  show L4.Hq F4 λh5 v' F5 k5 t5=>?_;let(f0,f1,_,f3,f4,f5):=j.acD (H':=l) Y hn3;let Ib:Inv X [] σ l {s3 with heap:=h4}:=Ia.turned (t':=s3.toks) (λb o a z=>(sb.2 b a).trans z) f0 f1 f3 f4 (by rw[k];show λp N=>nomatch N);let(g0,g1,_,g3,g4,g5):=j.acD (H':=l) (Wk hsz U) A;let Ic:Inv X [] σ l {s3 with heap:=h5}:=Ib.turned (t':=s3.toks) (λb o a z=>k5 b o a z) g0 g1 g3 g4 (by rw[k];show λp N=>nomatch N);show PX σ l _ e T' c a0 v' dx Ic F5 (n0 e (.inl W)) ?_ ne A q;rcases g3 with w|w
  .rw[hex]at w;ext w
  .show dP w
 .intro D C H' s' I' fin hm Y hn;let(m,hm):=hm;show#[m,hm,λh' hs'=>#[.ref D,H',?_,W,fin]];let(f0,f1,_,f3,f4,f5):=j.acD Y hn;show I'.turned (t':=s'.toks) (λb o a q=>(hs'.2 b a).trans q) f0 f1 f3 f4 f5
end L2
namespace L10
open PySem PyProof.Rows L2 L3
section
variable{B O y:cJ}{K:Ld}{E:XK}{H u L H2:Hp}{S C X A:bg Vm}{Z Z' N U:bh}{Y:L2.St}{T:bH}{v:V}
theorem PZ{g:TG}{gt:A4}(h:KM K E0 g gt):KM K E g (λx T Z=>g8 (gt x T Z)):=λB Y H S Z T v x Q s a r w=>h B Y H S Z T v x Q s a r (WS.e0 w)
theorem QV{t:TT}{b:vd}(h:u6 K E0 t b):u6 K E t (λT Z=>g8 (b T Z)):=λB Y H S Z T Q s a w=>h B Y H S Z T Q s a (WS.e0 w)
def tO(n:Nat)(c:G Nat)(a:OV)(gt:A4)(b:vd)(d:dY):dY:=λT Z=>(a T Z).bind λds N=>(dh (λx T Z=>g8 (gt x T Z)) (λT Z=>g8 (b T Z)) d ds (iy n c T) N []).bind λxs U=>.ok (.rf U.length) (U++[.lst xs])
def Fk{own:G Str}{h:G (Str×Nat)}{a:TI}{g:TG}{e:TT}{b:TE}{i:OV}{gt:A4}{c:vd}{k:dY}{n:Nat}{d:G Nat}(x:own.length=n)(q:h.map (·.2)=d)
  (z:RU K E a i) (p:KM K E0 g gt) (o:u6 K E0 e c) (r:dg K E b k):dg K E (tE own h a g e b) (tO n d i gt c k):=by
 intro B Y H S Z T Q s f w;show z B Y H S Z T _ s f (WS.imp (WS.bind w) λds X N L t l j J m=>?_);show sW x q (PZ p) (QV o) r l (f.Ym t) m j
end
end L10
namespace L3
open PySem L2
section
variable{P:VV}{w:Wh}{K:Ld}{T:Str->br Vh}{base h:Heap}{f C:Vm}{n m q:Str}{t:XM}{U fs:bg Str}{Z k:Nat}{S Q:Sp}{Y:uP}
theorem MI.akn(i:MI K C f m q t)(c:CI K C n fs)(b:BA m q t U)(ok:∀fd,YZ K m q t f fd->FnOk P w K T base Y Z f fd U S):L10.cz P w K T base Y Z n m U S:=
 let#[fd,z]:=i.F;#[C,f,fd,c.a,c.cls,#[i.a,i.i,z.kp],ok fd z,z.binds b]
theorem MI.alT(i:MI K C f "__init__" q t)(c:CI K C n fs)(X:K.In h)(G:h.Ns VD T)(b:BA "__init__" q t U)(ok:∀fd,YZ K "__init__" q t f fd->FnOk P w K T base Y Z f fd U S):L10.vH P w K T base Y Z n U S:=
 let#[fd,z]:=i.F;#[C,f,fd,c.a,Wx X G c.a,#[c.mm,i.a,i.i,c.kc],ok fd z,z.binds b]
end
end L3
namespace L10
open PySem PySem.Spec PyProof.Rows L2 L3
section
variable{B O S:cJ}{K:Ld}{E:XK}{H H' X H2:Hp}{α α' Y α2:bg Vm}{Z Z' T Z2:bh}{σ:L2.St}{U:bH}{v:V}
def rZ(c f:Str)(a:dY):fJ:=λU Z=>(a U Z).bind λx T=>match x with
 |.fz d=>if L9.SL d=P then .er #[c,[(f,d)]] T else .bad
 |_=>.bad
def BV(M:VH K VD c=R (R (.ref C)))(L:dg K E te fe):om K E (L9.Dp C (L9.wW C f) E (fU te kQ)) (rZ c f fe):=by
 intro B σ H α Z U D s G w;show L B σ H α Z U _ s G (WS.imp (WS.bind w) λx Y T X Q I a v h=>?_)
 match x,h,a with
 |.fz d,h,a=>
  let h:=h;dsimp only at a;by_cases r:L9.SL d=Vi
  .rw[ag r]at a
   let j:L9.T0 v/\∀(S:cJ) (H':Hp),L3.DV S K H' v d:=by
    cases d with
    |none=>ext h;show#[.inl W,λ_ _=>.Xo]
    |int i=>ext h;show#[.inr #[i,W,a5 r],λ_ _=>.int i]
    |_=>ext r
   show#[by show 1<=VF;decide,λe hn=>#[e,v,W,j.1,aJ,λp F g=>#[W,p,?_,?_]]]
   .rw[aG (ej g),aJ]
   .let u:X p=Vg:=by rw[aG g]at F;show F
    let A:Xl X (L9.RM (bE (bE (bE X e (.ext (L9.ML C e))) e (.ext (L9.SU C e p))) p (.xd [(f,v)])) e):=λb o z=>by
     let t:b≠e:=λy=>by rw[y,hn]at z;ext z
     let J:b≠p:=λy=>by rw[y,u]at z;ext z
     rw[L9.kL t,aG J,aG t,aG t];show z
    show a (.ref C) (R p) Y _ (Xt.same A) (I.grow A) #[#[C,W,M],[(f,v)],λP q=>?_,λm N l=>#[(λz=>nomatch z),?_]]
    .ext q;rw[L9.kL g,aJ]
    .let n:(match m==f with|true=>R d|false=>Yi m [])=R N:=l
     cases hb:m==f with
     |true=>rw[hb]at n;ext n;show#[v,?_,j.2 _ _];show(match m==f with|true=>R v|false=>Yi m [])=R v;rw[hb]
     |false=>rw[hb]at n;ext n
  .rw[av r]at a;show a.elim
 |.rf _,_,a=>show a.elim
 |.tp _,_,a=>show a.elim
end
end L10
namespace L10
open PySem L2 L3
section
variable{P:VV}{w:Wh}{K:Ld}{Q:Str->br Vh}{base:Heap}{x Z:Str}{Y:XM}{f:Vm}{L:WA}{T:Vm}{J:Array Vh}{N U:bg Str}{k n m:Nat}{g:fJ}{X:iS}
theorem Kd(F:YZ K x Z Y f L)(S:XX N U (aH Y))(c:U.length=n)(hm:N.length=m)(e:X=de m g)
  (h:∀(a:B) (A:V7) (outer:G Env) (s:Vp) (H:Hp) (E:XK),N.Nodup->XN k (A.deeper (V0 Z (aH Y) s.heap.objs.size f a))->(A.deeper (V0 Z (aH Y) s.heap.objs.size f a)).units+64<cLine->(A.deeper (V0 Z (aH Y) s.heap.objs.size f a)).units+1<cLine->(A.deeper (V0 Z (aH Y) s.heap.objs.size f a)).units+65<cLine->
   ∃t,PSs (eB (L4.gR P w) P w K Q base N Z (aH Y) f a A outer s H E) (cw Y) t/\om K E t g):FnOk P w K Q base (L4.gR P w) (k+1) f L U (dc K n X):=
 Uk F S c hm e λa A outer s H E b=>h a A outer s H E S.nd b b.units (DJ b) (DG b)
theorem Ji(F:ab0 K x Z Y f L T J)(S:XX N U (aH Y))(c:U.length=n)(hm:N.length=m)(e:X=de m g)
  (h:∀(a:B) (A:V7) (outer:G Env) (s:Vp) (H:Hp) (E:XK),N.Nodup->XN k (A.deeper (V0 Z (aH Y) s.heap.objs.size f a))->(A.deeper (V0 Z (aH Y) s.heap.objs.size f a)).units+64<cLine->(A.deeper (V0 Z (aH Y) s.heap.objs.size f a)).units+1<cLine->(A.deeper (V0 Z (aH Y) s.heap.objs.size f a)).units+65<cLine->
   ∃t,PSs (eB (L4.gR P w) P w K Q base N Z (aH Y) f a A outer s H E) (cw Y) t/\om K E t g):FnOk P w K Q base (L4.gR P w) (k+1) f L U (dc K n X):=
 S6 F S c hm e λa A outer s H E b=>h a A outer s H E S.nd b b.units (DJ b) (DG b)
end
end L10
namespace L3
open PySem L2
theorem JK{X:Cx}{P:VV}{w:Wh}:eR (L4.gR P w) X E0:=λ_ _ _ _ _ _ _ #[_,_,_,_,_,_,_,_,_,_,_,_,_,_,_,_,h]=>h.elim
end L3
namespace L10
open PySem PyProof.Rows L2 L3
section
variable{B O C:cJ}{K:Ld}{E:XK}{H A T y:Hp}{S L Y J:bg Vm}{Z u X t:bh}{N:L2.St}{U:bH}{v:V}
def wS(F:iS)(n:Nat)(a:G D)(b:sS):dY:=λU Z=>(b U Z).bind λxs X=>if(xs++a.map SV.fz).length=n then g8 (F (xs++a.map SV.fz) X)else .bad
def Bv(hd:∀O H,L3.Xn O K H o es)(c:uQ K E ta fa):dg K E (jt (dc K n F) o E0 ta) (wS F n es fa):=by
 intro B N H S Z U Q s e w;show c B N H S Z U _ s e (w.bind.imp λxs Y X T h f b i g=>?_);by_cases hn:(xs++es.map SV.fz).length=n
 .rw[ag hn]at b;let a:=wJ g (mf (ow B Y X) Y (hd (ow B Y X) T));show#[a.length.trans hn,B,Y,X,_,f,a,WS.e0 b]
 .rw[av hn]at b;show b.elim
end
end L10
namespace L10
open PySem L2 L3
def Uw(T:A->bh->Prop)(X:Xc->Prop):RS A->Prop
 |.ok a Z=>T a Z
 |.er x _=>X x
 |.bad=>False
structure Out{A:Type}(r:RS A)(T:A->bh->Prop)(X:Xc->Prop):Prop where
 out:Uw T X r
section
variable{A B:Type}{r r':RS A}{T Y:A->bh->Prop}{U:B->bh->Prop}{X:Xc->Prop}{Z:bh}
def Out.eq(e:r=r')(h:Out r' T X):Out r T X:=by rw[e];show h
def Out.imp(h:Out r T X)(k:∀a Z,T a Z->Y a Z):Out r Y X:=by
 show#[?_];let h:=h.out;cases r with
 |bad=>show h
 |er x o=>show h
 |ok a o=>show k a o h
def Out.bind(h:Out r (λa o=>Out (f a o) U X) X):Out (r.bind f) U X:=by
 show#[?_];let h:=h.out;cases r with
 |bad=>show h
 |er x o=>show h
 |ok a o=>show(show Out (f a o) U X from h).out
def Out.all(h:Out r T λ_=>False):∃a o,r=.ok a o/\T a o:=by
 let h:=h.out;cases r with
 |bad=>show h.elim
 |er x o=>show h.elim
 |ok a o=>show#[a,o,W,h]
end
section
variable{ρ ρ1 S:bH}{Z U Y L:bh}{x y z:SV}{i n:Nat}{d:D}{Q:bg D}{b:Bool}{f g:fJ}{fe:dY}{N:bH->bh->Prop}{T:SV->bh->Prop}{X:Xc->Prop}
def U8(N:bH->bh->Prop)(T:SV->bh->Prop):FlS->bh->Prop
 |.nx ρ,Z=>N ρ Z
 |.rt v,Z=>T v Z
 |_,_=>False
abbrev ko(r:RS FlS)(N:bH->bh->Prop)(T:SV->bh->Prop)(X:Xc->Prop):Prop:=Out r (U8 N T) X
def jI(h:ko (f ρ Z) (λr o=>ko (g r o) N T X) T X):ko (aX f g ρ Z) N T X:=by
 show Out.bind (h.imp λa o k=>?_);cases a with
 |nx r=>show k
 |rt v=>show#[k]
 |ct r=>show k.elim
 |bk r=>show k.elim
theorem Oj(a:f ρ Z=.ok (.nx ρ1) U)(h:ko (g ρ1 U) N T X):ko (aX f g ρ Z) N T X:=jI (.eq a #[h])
theorem tZ(a:f ρ Z=.ok (.nx ρ1) U)(h:N ρ1 U):ko (f ρ Z) N T X:=.eq a #[h]
theorem eS(e:fe ρ Z=.ok x U)(a:gt x ρ U=.ok ρ1 Y)(h:ko (g ρ1 Y) N T X):ko (aX (dZ fe gt) g ρ Z) N T X:=Oj (by ext dZ;rw[e,fm,a,fm]) h
theorem Dk(a:Out (fe ρ Z) (λx U=>ko (g (ρ.set i (R x)) U) N T X) X):ko (aX (dZ fe (gr i)) g ρ Z) N T X:=jI (Out.bind (a.imp λ_ _ k=>#[k]))
theorem Ir(a:Out (fe ρ Z) (λ_ U=>ko (g ρ U) N T X) X):ko (aX (b7 fe) g ρ Z) N T X:=jI (Out.bind (a.imp λ_ _ k=>#[k]))
theorem Hh(a:Out (fe ρ Z) (λ_ U=>N ρ U) X):ko (b7 fe ρ Z) N T X:=Out.bind (a.imp λ_ _ k=>#[k])
def wG{a j:fJ}(e:c ρ Z=.ok P U)(h:ko (aX a g ρ U) N T X):ko (aX (cM c a j) g ρ Z) N T X:=by show .eq ?_ h;unfold aX cM;rw[e,fm,ag W]
def uL{j a:fJ}(e:c ρ Z=.ok Vq U)(h:ko (aX a g ρ U) N T X):ko (aX (cM c j a) g ρ Z) N T X:=by show .eq ?_ h;unfold aX cM;rw[e,fm,av Vu]
theorem oy(h:ko (g ρ Z) N T X):ko (aX cU g ρ Z) N T X:=jI #[h]
def QS{a e:fJ}(h:ko (aX a (aX e g) ρ Z) N T X):ko (aX (aX a e) g ρ Z) N T X:=by
 show .eq ?_ h;ext aX;cases a ρ Z with
 |bad=>rfl
 |er x o=>rfl
 |ok j o=>ext j<;>rfl
theorem uy(a:fe ρ Z=.ok x U)(h:T x U):ko (gP fe ρ Z) N T X:=.eq (jS a) #[h]
theorem sd(a:fe ρ Z=.ok x U)(h:T x U):ko (aX (gP fe) g ρ Z) N T X:=jI (uy a h)
theorem Lz(a:Out (fe ρ Z) T X):ko (gP fe ρ Z) N T X:=Out.bind (a.imp λ_ _ k=>#[k])
def p9(a:xs.map R++Vw (n - xs.length) M=ρ)(h:ko (g ρ Z) (λ_ c=>T (.fz .none) c) T X):Out (de n g xs Z) T X:=by
 ext de;rw[a];show Out.bind (h.imp λe o k=>?_);cases e with
 |nx r=>show#[k]
 |rt v=>show#[k]
 |ct r=>show k.elim
 |bk r=>show k.elim
theorem JC{b:fJ}(I:Nat->bH->bh->Prop)(M:Nat)(j:∀n ρ Z,I n ρ Z->(∃U,c ρ Z=.ok Vq U/\N ρ U)\/(n<M/\∃U,c ρ Z=.ok P U/\ko (b ρ U) (I (n+1)) T X)):∀(m n:Nat) (ρ:bH) (Z:bh),M - n<m->I n ρ Z->ko (uY c b m ρ Z) N T X
 |0,n,_,_,h,_=>by ext
 |m+1,n,ρ,Z,h,h0=>by
  rcases j n ρ Z h0 with⟨U,e,p⟩|⟨q,U,e,l⟩
  .show .eq (show uY c b (m+1) ρ Z=.ok (.nx ρ) U from ?_) #[p];show((c ρ Z).bind _)=_;rw[e,fm,av Vu]
  .show .eq (show uY c b (m+1) ρ Z=(b ρ U).bind λa Y=>match a with
    |.nx S=>uY c b m S Y
    |.ct S=>uY c b m S Y
    |.bk S=>.ok (.nx S) Y
    |.rt x=>.ok (.rt x) Y from ?_) (Out.bind (l.imp λa o k=>?_))
   .show((c ρ Z).bind _)=_
    rw[e,fm,ag W]
    all_goals (cases b ρ U with
     |bad=>rfl
     |er x o=>rfl
     |ok a o=>ext a<;>rfl)
   .cases a with
    |nx r=>show JC I M j m (n+1) r o () k
    |rt v=>show#[k]
    |ct r=>show k.elim
    |bk r=>show k.elim
theorem tR{b:fJ}(I:Nat->bH->bh->Prop)(M:Nat)(h:M<1000000)(e:I 0 ρ Z)(a:∀n ρ Z,I n ρ Z->(∃U,c ρ Z=.ok Vq U/\N ρ U)\/(n<M/\∃U,c ρ Z=.ok P U/\ko (b ρ U) (I (n+1)) T X)):ko (t6 c b ρ Z) N T X:=JC I M a 1000000 0 ρ Z () e
theorem Ej{b:fJ}(I:Nat->bH->bh->Prop):∀(Q:G D) (k:Nat) (ρ:bH) (Z:bh),I k ρ Z->(∀i d ρ Z,Q[i]?=R d->I (k+i) ρ Z->∃ρ1 U,gt (.fz d) ρ Z=.ok ρ1 U/\ko (b ρ1 U) (I (k+i+1)) T X)->ko (mi gt b Q ρ Z) (I (k+Q.length)) T X
 |[],k,ρ,Z,h0,_=>#[h0]
 |d::r,k,ρ,Z,h0,C=>by
  let(ρ1,U,w,u):=C 0 d ρ Z W h0;let l:∀a p,I (k+1) a p->ko (mi gt b r a p) (I (k+(r.length+1))) T X:=λa p h=>by
   let e:k+(r.length+1)=k+1+r.length:=by ext
   rw[e];show Ej I r (k+1) a p h λi A j q J t=>?_;let e:k+1+i=k+(i+1):=by ext
   rw[e]at t⊢;show C (i+1) A j q (by simpa using J) t
  show .eq (show mi gt b (d::r) ρ Z=(b ρ1 U).bind λm Y=>match m with
   |.nx S=>mi gt b r S Y
   |.ct S=>mi gt b r S Y
   |.bk S=>.ok (.nx S) Y
   |.rt x=>.ok (.rt x) Y from ?_) (Out.bind (u.imp λm o k=>?_))
  .show((gt (.fz d) ρ Z).bind _)=_
   rw[w,fm]
   all_goals (cases b ρ1 U with
    |bad=>rfl
    |er x o=>rfl
    |ok m o=>ext m<;>rfl)
  .cases m with
   |nx r=>show l _ _ k
   |rt v=>show#[k]
   |ct r=>show k.elim
   |bk r=>show k.elim
def HP{b:fJ}(I:Nat->bH->bh->Prop)(m:C ρ Z=.ok Q U)(h:I 0 ρ U)(a:∀i d ρ Z,Q[i]?=R d->I i ρ Z->∃ρ1 U,gt (.fz d) ρ Z=.ok ρ1 U/\ko (b ρ1 U) (I (i+1)) T X)(e:∀c l,I Q.length c l->N c l):ko (zy C gt b ρ Z) N T X:=by
 let:=Ej I Q 0 ρ U h (by simpa using a);rw[Xs]at this;show .eq ?_ (this.imp λj o k=>?_)
 .ext zy;rw[m,fm]
 .cases j with
  |nx r=>show e _ _ k
  |rt v=>show k
  |ct r=>show k.elim
  |bk r=>show k.elim
theorem pV(I:Nat->bH->bh->G SV->Prop):∀(Q:G D) (k:Nat) (ρ:bH) (Z:bh) (a:G SV),I k ρ Z a->(∀i d ρ Z a,Q[i]?=R d->I (k+i) ρ Z a->a.length<1000000/\∃ρ1,gt (.fz d) ρ Z=.ok ρ1 Z/\ft ρ1 Z=.ok P Z/\Out (fe ρ1 Z) (λx Y=>I (k+i+1) ρ1 Y (a++[x])) X)->Out (dh gt ft fe Q ρ Z a) (λxs s=>∃c,I (k+Q.length) c s xs) X
 |[],k,ρ,Z,a,h0,_=>#[ρ,h0]
 |d::r,k,ρ,Z,a,h0,A=>by
  let(q,ρ1,v,u,t):=A 0 d ρ Z a W h0;show .eq (show dh gt ft fe (d::r) ρ Z a=(fe ρ1 Z).bind λx L=>dh gt ft fe r ρ1 L (a++[x])from ?_) (Out.bind (t.imp λx o p=>?_))
  .show((gt (.fz d) ρ Z).bind _)=_
   rw[v,fm,u,fm,ag W];cases fe ρ1 Z with
   |bad=>rfl
   |er x o=>rfl
   |ok x o=>show(if a.length<1000000 then _ else _)=_;rw[ag q];rfl
  .let e:k+(d::r).length=k+1+r.length:=by rw[VI];ext
   rw[e];show pV I r (k+1) ρ1 o _ p λi w h l j C m=>?_;let e:k+1+i=k+(i+1):=by ext
   rw[e]at m⊢;show A (i+1) w h l j (by simpa using C) m
def Cg(c:J ρ Z=.ok Q U)(a:Out (dh (λx ρ Z=>g8 (gt x ρ Z)) (λρ Z=>g8 (o ρ Z)) fe Q (iy n C ρ) U []) (λxs Y=>T (.rf Y.length) (Y++[.lst xs])) X):Out (tO n C J gt o fe ρ Z) T X:=by ext tO;rw[c,fm];show Out.bind (a.imp λ_ _ k=>#[k])
def xE(a:fo ρ Z=.ok (.rf i) U)(h:U[i]?=R (.obj C fs))(hm:fs.lookup m=M)(j:fa ρ U=.ok xs Y)(c:(SV.rf i::xs).length=n):pJ C m F n fo fa ρ Z=F (.rf i::xs) Y:=by
 let e:nA U C m (.rf i)=P:=by ext nA;dsimp only;rw[h];dsimp only;rw[hm];simp
 ext pJ;rw[a,fm,ag e,j,fm,ag c]
def Jg(c:fa ρ Z=.ok xs U)(a:(SV.rf U.length::xs).length=n):Fb C F n fa ρ Z=(F (.rf U.length::xs) (U++[.obj C []])).bind λr Y=>(if FR r=P then .ok (.rf U.length) Y else .bad):=by ext Fb;rw[c,fm];ext vx;rw[ag a]
def Ha(c:fa ρ Z=.ok xs U)(a:(xs++es.map SV.fz).length=n):yM F n es fa ρ Z=F (xs++es.map SV.fz) U:=by ext yM;rw[c,fm,ag a]
def EU(e:C ρ Z=.ok xs U)(c:(xs++o.map SV.fz).length=n)(a:F (xs++o.map SV.fz) U=.ok x Y):wS F n o C ρ Z=.ok x Y:=by ext wS;rw[e,fm,ag c,a];rfl
def Fh{c f:Str}(h:fe ρ Z=.ok (.fz d) U)(hd:L9.SL d=P):rZ c f fe ρ Z=.er #[c,[(f,d)]] U:=by ext rZ;rw[h,fm];dsimp only;rw[ag hd]
end
end L10
namespace L3
open PySem PyProof.Rows L2
section
variable{P:VV}{w:Wh}{K:Ld}{Q:Str->br Vh}{base h:Heap}{f T:Vm}{n:Str}{t:XM}{S:bg Str}{Y:Nat}{N:Sp}{U:uP}{Z:Array Vh}
theorem NI.amW(i:NI K f n t)(X:K.In h)(G:h.Ns VD Q)(b:BA n n t S)(ok:∀fd,YZ K n n t f fd->FnOk P w K Q base U Y f fd S N):qC P w K Q base U Y n S [] N:=
 let#[fd,z]:=i.F;#[f,fd,[],ok fd z,z.binds b,.nil,z.kp,Wx X G i.a]
structure DI(K:Ld)(f T:I)(n:Str)(t:XM)(Z:Array B):Prop where
 a:VH K VD n=R (R (.ref f))
 F:∃fd,ab0 K n n t f fd T Z
theorem Mc{x a:Str}{b:XM}{q:B}{c:br I}{kV e j:B}{l:br I}{i ct:B}{g:Array (br B)}{p:B}{o:br I}{k:Nat}{m:Array (br B)}
  (r:K.lookup f=R #[q,c,.func (W3 x a (fK b) (cw b) (aH b) (.ref T) kV e j l i ct),g]) (v:ZG K i a=Vi) (u:W7 K (.ref f)=Vi) (lt:K.lookup T=R #[p,o,.seq Z k,m]):ab0 K x a b f (W3 x a (fK b) (cw b) (aH b) (.ref T) kV e j l i ct) T Z:=
 #[#[_,_,_,_,_,_,_,_,_,W,r,v],u,_,_,lt,W]
def BD(n:Str)(t:XM)(T:I)(Z:Array B)(S:G Str)(ds:G B):Prop:=∀(kV b e:B) (g:br I) (i ct:B) (a:G B),(a++ds).length=S.length->∃k:br (Array B)->Sem (G (Str×B)),bindArgs (W3 n n (fK t) (cw t) (aH t) (.ref T) kV b e g i ct) #[a,[]]=seqItems? (.ref T)>>=k/\k (R Z)=pure (S.zip (a++ds))
theorem DI.cal{ds:bg B}{a:bg V}(i:DI K f T n t Z)(X:K.In h)(G:h.Ns VD Q)(e:BD n t T Z S ds)(b:Vals a ds)(ok:∀fd,ab0 K n n t f fd T Z->FnOk P w K Q base U Y f fd S N):qC P w K Q base U Y n S a N:=
 let#[fd,z]:=i.F;#[f,fd,ds,ok fd z,z.binds e,b,z.kp,Wx X G i.a]
end
structure Tp(P:VV)(w:Wh)(K:Ld)(mg:Str->br B)(base h:Heap):Prop where
 X:K.In h
 G:h.Ns VD mg
section
variable{P:VV}{w:Wh}{K:Ld}{X:Str->br Vh}{base h:Heap}{f C T:Vm}{n m q:Str}{t:XM}{S fs:bg Str}{Z:Nat}{Q:Sp}{Y:uP}{U:Array Vh}
theorem NI.c(i:NI K f n t)(W:Tp P w K X base h)(ok:∀fd,YZ K n n t f fd->FnOk P w K X base dX Z f fd S Q)(a:BA n n t S:=by ext:18):oM P w K X base Z n S Q:=i.cal W.X W.G a ok
theorem NI.d(i:NI K f n t)(W:Tp P w K X base h)(ok:∀fd,YZ K n n t f fd->FnOk P w K X base Y Z f fd S Q)(a:BA n n t S:=by ext:18):qC P w K X base Y Z n S [] Q:=i.amW W.X W.G a ok
theorem MI.mt(i:MI K C f m q t)(c:CI K C n fs)(W:Tp P w K X base h)(ok:∀fd,YZ K m q t f fd->FnOk P w K X base Y Z f fd S Q)(a:BA m q t S:=by ext:18):L10.cz P w K X base Y Z n m S Q:=i.akn c a ok
theorem MI.k(i:MI K C f "__init__" q t)(c:CI K C n fs)(W:Tp P w K X base h)(ok:∀fd,YZ K "__init__" q t f fd->FnOk P w K X base Y Z f fd S Q)(a:BA "__init__" q t S:=by ext:18):L10.vH P w K X base Y Z n S Q:=i.alT c W.X W.G a ok
theorem DI.c{ds:G B}{dvs:G V}(i:DI K f T n t U)(W:Tp P w K X base h)(a:Vals dvs ds)(ok:∀fd,ab0 K n n t f fd T U->FnOk P w K X base Y Z f fd S Q)(b:BD n t T U S ds:=by ext:32):qC P w K X base Y Z n S dvs Q:=i.cal W.X W.G b a ok
end
end L3
namespace L4
open PySem PySem.Spec PyProof.Rows L2 L3
def Oh(d:XK)(f e:TS):TS:=λD b H=>f D b H/\∀c g H1,d c g H1->∀(a:L2.St),a.length=b.length->e {nx:=D.nx,rt:=λ_ _=>False} a H1
def LY{X:Cx}{G P:bg XM}{b0:XM}{tb ts:TS}{E2:XK}{U:Vm}{x:Str}{np ajY pos:Pos}{mU:bg Vh}
  (hex:X.ex=[]) (dI:X.stack=X.env::X.outer) (V:X.env.frame=lD X.env.locals) (hg:Gl X x) (hm:X.mg x=lD (.ref U)) (hU:jW X.K U mU) (hbU:mU.contains (.type "BaseException")=Vi)
  (hb:∀l,PSs ((Cx.pinned X l).aan (AX (Cx.pinned X l) E2)) G tb) (hs:∀l e,PSs (Cx.marked (Cx.pinned X l) e) (b0::P) ts)
  (hE:∀c d H,E2 c d H->∃C m,c=.ref C/\jW X.K C m/\(Vh.ref C::m).contains (.ref U)=Vi) (hdb:(x==("__debug__":Str))=Vq:=by decide):
  PS X (.Try G [.ExceptHandler (lD (.Name x np)) Vg (b0::P) ajY] [] [] pos) (Oh E2 tb ts):=by
 intro g s σ H D I #[h,hc];let IY:=Cu I;let M:(Cx.pinned X (X.pn++g)).ex=[]:=hex;show aju (wpAny_mono (hb (X.pn++g) [] s σ H D (IY.aan _) h) (λf O n=>?_) (λv O hx=>?_))
 .let n:=SP.Zl n
  cases f with
  |next=>let(a,j,i,E):=n;show Za #[a,j,eG I.ok i,E]
  |brk=>let(a,j,i,E):=n;show#[a,j,eG I.ok i,E]
  |cont=>let(a,j,i,E):=n;show#[a,j,eG I.ok i,E]
  |ret u=>let(v,a,j,i,r,E):=n;show#[v,a,j,eG I.ok i,r,E]
 .let(a,j,e,c,d,a0,T,rfl,i,F,S,R,ne,nT,q):=hx
  let(C,mC,hcC,(n1,E,N1,b1,d1,t1,u1,a1,l1,x1,i0,i1,i2,i3,i5,id1,kC),hup):=hE c d j q;let(n2,q2,N2,b2,d2,t2,u2,a2,l2,x2,j0,j1,j2,j3,j5,id2,kU):=hU;let fr:X.A.frames=lD (X.env::X.outer):=by rw[<-dI];show I.ok.frames
  let ff:O.heap.FunFrames X.base (X.env::X.outer):=by rw[<-dI];show i.stack
  show DN fr ff V F λh2 Y z2 F2 N=>?_
  let A:L2.Inv (Cx.pinned X (X.pn++g)) [] a j {O with heap:=h2}:=lO i (λb=>b=e\/b=T) M (λp Q y=>y.elim (S.nP p Q) (R.nP p Q))
   (λb o z t nf=>N.keep b o z (λy=>t (.inl y)) (λy=>t (.inr (VR y).symm)) (by rw[<-dI];show nf))
   (λb o z t=>N.slot b o z (λy=>t (.inl y)) (λy=>t (.inr (VR y).symm))) N.here
   (λb y=>y.elim (λy=>by rw[y];show S.n0) (λy=>by rw[y];show R.n0)) (λy=>y.elim (λy=>S.nL y.symm) (λy=>R.nL y.symm))
   (λy k z w=>w.elim (S.nC y k z) (R.nC y k z)) (λb y=>y.elim (λy=>by rw[y];show ne) (λy=>by rw[y];show nT))
  let B:Apart (Cx.pinned X (X.pn++g)) Y:=pG i M (dP z2);let nT2:j Y=Vg:=i.WT.fresh z2;show ahs (agK (iH (X:=Cx.marked (Cx.pinned X (X.pn++g)) e) (ku A e) hg hm ?_ hdb)) (by nofun);let F2':=F2;let(ob,fs,qe,cE,dE,dF,_):=F2';show yS (A.kIn _ _ kC) (A.kIn _ _ kU) qe (cE.trans hcC) hbU hup ?_;show codeAny_handlers_suite (IS F2 λh3 F3 Y8 hT3=>?_)
  let I3:L2.Inv (Cx.pinned X (X.pn++g)) [] a j {O with heap:=h3}:=lO (s:={O with heap:=h2}) A (λb=>b=Y) M (λp Q y=>B.nP p Q y)
   (λb o z t _=>(Y8 b t).trans z) (λb o z t=>#[o.slots,(Y8 b t).trans z])
   (λb o z=>(Classical.em (b=Y)).elim (λy=>by rw[y];show hT3) (λy=>#[o,(Y8 b y).trans z])) (λb y=>by rw[y];show B.n0) (λy=>B.nL y.symm) (λy k z w=>B.nC y k z w) (λb y=>by rw[y];show nT2)
  let w:=hc c d j q a (i.len.trans I.len.symm);show wpAny_mono (hs (X.pn++g) e [] _ _ _ _ (ku I3 e) w) (λf s5 n=>?_) (λy s5 z=>z.elim);cases f with
  |next=>let(J,H2,Z,L):=n;show#[_,_,eG I.ok (tV IY.ok Z),L]
  |brk=>let(J,H2,Z,L):=n;show L.elim
  |cont=>let(J,H2,Z,L):=n;show L.elim
  |ret u=>let(v,J,H2,Z,r,L):=n;show L.elim
end L4
namespace L10
open PySem PySem.Spec PyProof.Rows L2 L3
def RT:D->D->br RV:=fI λi j=>i+j
def OG:R2:=UR λi j=>i+j
theorem MX{X:Cx}:Uf X .Add OG:=RI
def FU{K:Ld}:oA K OG RT:=by intro O H x y h f g Q n b a e q;let(i,j,rfl,rfl,rfl):=yA e;ext b;ext a;show#[_,_,W,W,q.at (.int _)]
end L10
namespace L9
open PySem PySem.Spec PyProof.Rows L2 L3
def Dr:G V->Hp->VK->Prop:=λxs H Q=>∃a:Int,xs=[.int a]/\∀r,H r=M->Q (.ref r) (bE H r (.rng 0 a))
def Fd{X:Cx}:YG X (.type "range") Dr:=by intro a s g H xs i Q I r h;let(j,rfl,q):=h;let(u,rfl,f):=kY r;let(t,rfl):=f;show call_range_1 #[.ref s.heap.objs.size,_,I.laid (λb o e=>bP _ e) (Vy _) (show ObjOk X.prog X.w _ _ _ (.rng 0 j)from#[_,_,_,cx _ W]),W,q _ (I.WT.fresh (Vy _))]
def CA:G V->Hp->VK->Prop:=λxs H Q=>∃(r:I) (n:Nat),xs=[.ref r]/\H r=R (.rng 0 n)/\n<=1000/\∀l,H l=M->Q (.ref l) (bE H l (.lst ((VO n).map λ(i:Nat)=>V.int i)))
theorem OE{α e:Type}{R:α->e->Prop}:∀{xs:G α} {f:G e},xs.length=f.length->(∀(i:Nat) (x:α) (y:e),xs[i]?=lD x->f[i]?=lD y->R x y)->Paired R xs f
 |[],[],_,_=>.nil
 |[],_::_,h,_=>by ext h
 |_::_,[],h,_=>by ext h
 |x::r,y::t,h,l=>.cons (l 0 x y W W) (OE (Nat.succ.inj h) λi a b j g=>l (i+1) a b j g)
def Fy{X:Cx}(C:X.calm=P):YG X (.type "list") CA:=by
 intro g s G H xs J Q I r h;let(p,n,rfl,A,N,q):=h;let(u,rfl,l):=kY r;ext l;let(t,u,v,o):=(show ObjOk X.prog X.w H s.heap p (.rng 0 n)from I.WT p _ A);show call_list_range (n:=n) (I.ok.hd C) o (small_one () () () ()) ?_ () λF K f c m e b=>?_
 .rw[anK];split<;>ext
 show#[.ref s.heap.objs.size,_,I.laid m (Vy _) (show ObjOk X.prog X.w _ F _ (.lst _)from#[?_,f.toList,c,?_,?_]),W,q _ (I.WT.fresh (Vy _))]
 .rw[Vj,Wg,Yb];ext
 .show OE (by rw[Vj,Wg,Wz,b.1]) λi x y a E=>?_
  rw[Vx]at a;cases z:(VO n)[i]? with
  |none=>rw[z]at a;ext a
  |some k=>
   rw[z]at a;cases VR a;let B:k=i:=by let(L,j):=Vk.mp z;rw[afN]at j;show j.symm
   let(t,e):=b.2 i y (by rw[<-XJ];show E);rw[e,B];show#[t,by congr 1;ext]
 .simpa using e
def TX:G D->br RV
 |[.int i]=>if 0<=i/\i<=1000 then R (.ow (bZ (VO i.toNat)))else M
 |_=>M
theorem DT{O:cJ}{K:Ld}{H:Hp}:∀ns:G Nat,L3.Xn O K H (ns.map λ(i:Nat)=>V.int i) (bZ ns)
 |[]=>.nil
 |n::r=>.cons (.int _) (DT r)
def SE{K:Ld}:JL K (λxs H Q=>Dr xs H λv H1=>CA [v] H1 Q) TX:=by
 intro O H xs ds p Q n g e q;unfold TX at e;split at e
 .rename_i i
  split at e
  .rename_i t
   ext e;cases g with
   |cons j h=>
    ext h;ext j;show#[i,W,λr f=>#[r,i.toNat,W,by rw[aJ];congr 2;ext,by ext,λl b=>?_]];show q l _ _ (λa o m=>bq b _ a o (bq f _ a o m)) ?_ aJ (DT _);by_cases z:l=r
    .rw[z];show f
    .rw[aG z]at b;show b
  .ext e
 .ext e
def Ti{K:Ld}{E:XK}{a:TA}{c:FA}(d:AO K E a c):EO K E (Gb CA (fU (Gb Dr a) kQ)) (gq TX c):=by show EO K E (Gb (λxs H Q=>Dr xs H λv b=>CA [v] b Q) a) _;show gZ SE d
end L9
namespace L10
open PySem PyProof.Rows L2 L3
def oY(c:Str)(d:sS):fJ:=λb Z=>(d b Z).bind λxs a=>if xs.length<=1000 then .er #[c,[]] a else .bad
def AF{K:Ld}{E:XK}{c:Str}{C:I}{g:TA}{k:sS}(m:VH K VD c=R (R (.ref C)))(t:uQ K E g k):om K E (L4.Kr C E g) (oY c k):=by
 intro B h H α Z r D s i w;show t B h H α Z r _ s i (WS.imp (WS.bind w) λxs b q n o j a u l=>?_);by_cases e:xs.length<=1000
 .rw[ag e]at a;show#[by rw[l.length];show L3.wI e,a (.ref C) M b n .refl j #[#[C,W,m],[],(λp z=>nomatch z),λf d z=>nomatch z]]
 .rw[av e]at a;show a.elim
def Fr{c:Str}{d:sS}{b:bH}{Z e:bh}{xs:G SV}(h:d b Z=.ok xs e)(a:xs.length<=1000):oY c d b Z=.er #[c,[]] e:=by ext oY;rw[h,fm,ag a]
def wq{α:Type}(n m:Nat)(us ws:G α):G α:=if us.length=n/\ws.length=m then us++ws else[]
theorem El{α:Type}{n m:Nat}{us ws:G α}(b:us.length=n)(a:ws.length=m):wq n m us ws=us++ws:=ag #[b,a]
def Du(F:iS)(n m:Nat)(c b:sS):dY:=λg Z=>(c g Z).bind λxs f=>(b g f).bind λa e=>if xs.length=n/\a.length=m then g8 (F (xs++a) e)else .bad
def E4{K:Ld}{E:XK}{F:iS}{n m k:Nat}{o l:TA}{c q:sS}(h:n+m=k)(d:uQ K E o c)(y:uQ K E l q):dg K E (BP (dc K k F) (wq n m) E0 o l) (Du F n m c q):=by
 intro B i H α Z N Q s p w;show d B i H α Z N _ s p (WS.imp (WS.bind w) λxs e G I A v r S f=>?_);show y B i I e G N _ v (p.Ym A) (WS.imp (WS.bind r) λj b C L z u a J g=>?_);let t:=wJ (Yx.Ym z f) g;by_cases hn:xs.length=n/\j.length=m
 .rw[ag hn]at a;rw[El (f.length.trans hn.1) (g.length.trans hn.2)];show#[by rw[Vs,f.length,g.length,hn.1,hn.2];show h,B,b,C,xs++j,u,t,WS.e0 a]
 .rw[av hn]at a;show a.elim
def Jb{F:iS}{n m:Nat}{d b:sS}{c:bH}{Z i e h:bh}{xs a:G SV}{x:SV}(k:d c Z=.ok xs i)(f:b c i=.ok a e)(j:xs.length=n/\a.length=m)(g:F (xs++a) e=.ok x h):Du F n m d b c Z=.ok x h:=by ext Du;rw[k,fm,f,fm,ag j,g,sH]
end L10
namespace L3
open PySem L2
def Nr(P:VV)(w:Wh)(K:Ld)(d:Str->br B)(base:Heap)(b:uP)(k:Nat)(x:Str)(c e:G Str)(n m:Nat)(sp:Sp):Prop:=
 ∃(f:I) (a:WA),FnOk P w K d base b k f a c sp/\adz K a c e (L10.wq n m) (L10.wq n m)/\W7 K (.ref f)=Vi/\d x=R (.ref f)
def MO{X:Cx}{u:uP}{k j n m:Nat}{x:Str}{s d:bg Str}{sp:Sp}{e:WB}{c:bg WB}{g:bg aa5}{t r:TA}{p a:Pos}{E:XK}(C:Nr X.prog X.w X.K X.mg X.base u k x s d n m sp)(z:XN j X.A)(y:eR u X E)(A:PA X (e::c) t)(B:PK X g r)(l:k<=j:=by decide)(G:Gl X x:=by rfl)
  (q:(backToKw a (keywordEach g X.env)).all (·.1.isSome)=P:=by rfl) (i:(backToKw a (keywordEach g X.env)).filterMap (·.1)=d:=by rfl)
  (o:(x==("__debug__":Str))=Vq:=by decide) (H:VT (e::c) X.env=(Vq,eval e X.env)::VT c X.env:=by rfl)
  (h:((backTo a (VT (e::c) X.env)).any (·.1)||(backToKw a (keywordEach g X.env)).any (·.1.isNone))=Vq:=by rfl):
  PE X (.Call (.Name x p) (e::c) g a) (BP sp (L10.wq n m) E t r):=by
 let(f,I,F,b,v,m):=C;show GV F (z.mono l) G m v b y A B q i o H h
def BK(x:Str)(t:XM)(T:I)(g:Array B)(c d:G Str)(n m:Nat):Prop:=∀(kV b e:B) (f:br I) (h ct:B) (a ws:G B),a.length=n->ws.length=m->∃k:br (Array B)->Sem (G (Str×B)),bindArgs (W3 x x (fK t) (cw t) (aH t) (.ref T) kV b e f h ct) #[a,d.zip ws]=seqItems? (.ref T)>>=k/\k (R g)=pure (c.zip (a++ws))
def ab0.aip{K:Ld}{x:Str}{a:XM}{f:I}{fd:WA}{T:I}{l:Array Vh}{c d:bg Str}{n m:Nat}(F:ab0 K x x a f fd T l)(G:0<c.length)(h:BK x a T l c d n m):adz K fd c d (L10.wq n m) (L10.wq n m):=by
 let(C,B,kV,b,i,j,p,ct,t,rfl,E,u):=F.ex;let(o,q,w,v):=F.tp;show#[λs e ws X g=>?_,λ{L e zs ws} r J=>?_]
 .by_cases z:e.length=n/\ws.length=m
  .rw[L10.El z.1 z.2];let(k,A,y):=h kV b i j p ct e ws z.1 z.2;show aat.of_defaults (fd:=W3 x x (fK a) (cw a) (aH a) (.ref T) kV b i j p ct) W (X _ _ w) v A y
  .unfold L10.wq at g;rw[av z]at g;rw[Xb]at g;ext
 .ext L10.wq
  rw[r.length,J.length];split
  .show r.append J
  .show .nil
theorem DI.ck{P:VV}{w:Wh}{K:Ld}{c:Str->br B}{base h:Heap}{f T:I}{x:Str}{t:XM}{a d:G Str}{n m e:Nat}{sp:Sp}{g:uP}{b:Array B}(i:DI K f T x t b)(W:Tp P w K c base h)(j:0<a.length)(ok:∀fd,ab0 K x x t f fd T b->FnOk P w K c base g e f fd a sp)(l:BK x t T b a d n m:=by ext:33):Nr P w K c base g e x a d n m sp:=
 let#[fd,z]:=i.F;#[f,fd,ok fd z,z.aip j l,z.kp,Wx W.X W.G i.a]
end L3
namespace M02
inductive Con(E:G (Nat×Nat))(r0:Nat):Bool->Nat->Prop
 |base:Con E r0 P r0
 |col {r c:Nat}:Con E r0 P r->(r,c)∈E->Con E r0 Vq c
 |row {r c:Nat}:Con E r0 Vq c->(r,c)∈E->Con E r0 P r
def has(n c:Nat):Prop:=n.testBit c=P
structure Nums(E:G (Nat×Nat))(R C:Nat)(ns:G Nat):Prop where
 len:ns.length=R
 lt:∀n∈ns,n<2^C
 own:∀r c,(r,c)∈E->has (ns.getD r 0) c
 snd:∀r,r<R->∀c,has (ns.getD r 0) c->Con E r Vq c
abbrev NF:=G Nat×G Nat
structure asX(E:G (Nat×Nat))(r0:Nat)(s:NF):Prop where
 a:r0∈s.1
 n:∀x∈s.1,Con E r0 P x
 f:∀x∈s.2,Con E r0 Vq x
 d:s.2.Nodup
 d1:s.1.Nodup
structure arR(R C:Nat)(ss:G (Nat×Nat)):Prop where
 r1:1<=R
 r6:R<=6
 c1:1<=C
 c6:C<=6
 l1:1<=ss.length
 l12:ss.length<=12
 nd:ss.Nodup
 inn:∀s∈ss,s.1<R/\s.2<C
end M02
local macro_rules(kind:=«term{_}»)|`({$a})=>`(L3.ae $a L3.aB)|`({$a,$b})=>`(L3.ae $a (L3.ae $b L3.aB))|`({$a,$b,$c})=>`(L3.ae $a (L3.ae $b (L3.ae $c L3.aB)))|`({$a,$b,$c,$d})=>`(L3.ae $a (L3.ae $b (L3.ae $c (L3.ae $d L3.aB))))
local macro_rules|`(~~~$n)=>`(L3.pC (.int $n))
namespace STP
open PySem L2 L3
def nQ:FS:=(cr (oE (aW (aO pc (aO bv (af 0) (~~~2)) (pC .none))) (fO (aO bv (af 0) (~~~2))) gm)
 (fO (gq (L10.Kh 0) {fW 2 [] (jo (aO bv (af 0) (~~~0))) (gT 2 (RO (gN 0) (RO (gN 1) TU))) (aW (aO dJ (aO bv (af 1) (~~~0)) (pC (.str "layer")))) (aO bv (af 1) (~~~1))})))
def ez:FN:=iB 1 nQ
def l9:FS:=(cr (gH (aO bv (aO bv (aO bv (af 0) (~~~1)) (af 1)) (af 2)) (gN 3))
 (cr (oE (aW (aO dJ (aO bv (af 3) (~~~0)) (pC (.str "below")))) (fO (aO bv (aO bv (aO bv (af 0) (~~~1)) (~~~0)) (af 2))) gm)
 (fO (af 3))))
def jq:FN:=iB 4 l9
def jK:FS:=(fO (fW 1 [1] (jo (aO bv (af 0) (~~~2))) (gN 0) (aW (gq Aa {fW 1 [0] (jo (af 1)) (gN 0) eD (aO Nj (af 0) (aO bv (af 1) (~~~0)))})) (af 0)))
def bT:FN:=iB 2 jK
def kG:FS:=(cr (uX (jo (aO bv (af 0) (~~~2))) (gN 2) (oE (aW (aO dJ (gq xU {aO bv (af 2) (~~~0)}) (gq L9.iE {af 1}))) (fO (aO dC (dL {ci {pC (.str "letter"),aO bv (af 2) (~~~1)}}) (aO ig (dL {pC (.tuple [(.str "none")])}) (aO oH (gq cT {af 1}) (~~~1))))) gm))
 (fO (fW 1 [0] (jo (af 1)) (gN 0) eD (aO bv (aO bv (aO bv (af 1) (~~~1)) (~~~0)) (af 0)))))
def gA:FN:=iB 3 kG
open L10
def kS:fJ:=(aX (gx "Hand" "bed" (aC 0) (ah (af 1)))
 (aX (gx "Hand" "acts" (aC 0) (yI (ah (aO bv (af 2) (~~~0)))))
 (aX (gx "Hand" "waiting" (aC 0) (ah (aO bv (af 2) (~~~1))))
 (aX (gx "Hand" "once" (aC 0) (ah (aO bv (af 2) (~~~2))))
 (gx "Hand" "sent" (aC 0) (ah (dL aB)))))))
def eC:iS:=de 3 kS
def nz:fJ:=(gP (mY (aq (rR iJ (aq (kT 1 [0] (kX (vW (bC "Hand" "acts" (aC 0)))) (gr 0) g6 (mY (aq (ah (af 0)) (aq (vB (bC "Hand" "acts" (aC 1)) (ah (af 0))) aV)))) aV)) (aq (bC "Hand" "waiting" (aC 0)) (aq (bC "Hand" "once" (aC 0)) aV)))))
def bV:iS:=de 1 nz
def jA:fJ:=(gP (zt (k7 pc (bC "Hand" "waiting" (aC 0)) (ah (pC .none))) (k7 Nj (ah (af 1)) (jU (bC "Hand" "waiting" (aC 0)) (ah (~~~0))))))
def cH:iS:=de 2 jA
def lG:fJ:=(gP (k7 Nj (ah (af 1)) (Dm (bC "Hand" "acts" (aC 0)))))
def b6:iS:=de 2 lG
def lx:fJ:=(aX (cM (oJ (bN (aW (aO dJ (aO bv (af 2) (~~~0)) (pC (.str "letter"))))) (yJ (b8 (bp "Hand" "has_act" b6 2 (aC 0) (aq (ah (af 2)) aV))))) (b7 (nZ (bC "Hand" "sent" (aC 0)) (ah (ci {aO bv (af 2) (~~~1),pC (.str "down")})))) cU)
 (yY (bC "Hand" "acts" (aC 0)) (ah (af 1)) (ah (af 2))))
def bL:iS:=de 3 lx
def pX:fJ:=(aX (dZ (Ad (bC "Hand" "acts" (aC 0)) (ah (af 1))) (gr 2))
 (cM (oJ (bN (aW (aO dJ (aO bv (af 2) (~~~0)) (pC (.str "letter"))))) (yJ (b8 (bp "Hand" "has_act" b6 2 (aC 0) (aq (ah (af 2)) aV))))) (b7 (nZ (bC "Hand" "sent" (aC 0)) (ah (ci {aO bv (af 2) (~~~1),pC (.str "up")})))) cU))
def jV:iS:=de 3 pX
def nF:fJ:=(aX (dZ (jU (bC "Hand" "waiting" (aC 0)) (ah (~~~0))) (gr 1))
 (aX (dZ (jU (bC "Hand" "waiting" (aC 0)) (ah (~~~2))) (gr 2))
 (aX (gx "Hand" "waiting" (aC 0) (ah (pC .none)))
 (aX (dZ (pk (Rs (bN (aW (aO dJ (af 2) (pC (.tuple [(.str "chord")]))))) (j9 gA 2 (aq (bC "Hand" "bed" (aC 0)) (aq (ah (af 1)) aV))) (ah (dL {ci {pC (.str "layer"),aO bv (af 2) (~~~2)}})))) (gr 3))
 (zy (ju (ze {af 1,af 3})) (MH 2 (pQ (gr 4) (pQ (gr 5) A8))) (b7 (bp "Hand" "come" bL 3 (aC 0) (aq (ah (af 4)) (aq (ah (af 5)) aV)))))))))
def cB:iS:=de 6 nF
def gf:fJ:=(aX (cM (FD (b8 (k7 uZ (bC "Hand" "waiting" (aC 0)) (ah (pC .none)))) (FD (b8 (k7 nk (jU (bC "Hand" "waiting" (aC 0)) (ah (~~~2))) (ah (pC (.tuple [(.str "chord")]))))) (b8 (k7 nk (j9 ez 1 (aq (bp "Hand" "stands" bV 1 (aC 0) aV) aV)) (ah (~~~0)))))) (gP (ah (pC (.bool Vq)))) cU)
 (gP (k7 nk (j9 bT 2 (aq (bC "Hand" "bed" (aC 0)) (aq (k7 dC (jU (bC "Hand" "waiting" (aC 0)) (ah (~~~0))) (ah (ci {af 1}))) aV))) (ah (dL aB)))))
def d7:iS:=de 2 gf
def iw:fJ:=(aX (dZ (k7 dC (jU (bC "Hand" "waiting" (aC 0)) (ah (~~~0))) (ah (ci {af 1}))) (gr 2))
 (aX (gx "Hand" "waiting" (aC 0) (mY (aq (ah (af 2)) (aq (jU (bC "Hand" "waiting" (aC 0)) (ah (~~~1))) (aq (ah (pC (.tuple [(.str "chord")]))) aV)))))
 (cM (b8 (k7 dJ (kT 1 [] (kX (j9 bT 2 (aq (bC "Hand" "bed" (aC 0)) (aq (ah (af 2)) aV)))) (gr 0) g6 (ah (gq cT {aO bv (af 0) (~~~0)}))) (ah (dL {gq cT {af 2}})))) (b7 (bp "Hand" "decide" cB 1 (aC 0) aV)) cU)))
def dM:iS:=de 3 iw
def kr:fJ:=(aX (dZ (j9 ez 1 (aq (bp "Hand" "stands" bV 1 (aC 0) aV) aV)) (gr 2))
 (aX (dZ (j9 jq 3 (aq (bC "Hand" "bed" (aC 0)) (aq (ah (af 2)) (aq (ah (af 1)) aV)))) (gr 3))
 (aX (dZ (ah (aO bv (af 3) (~~~0))) (gr 4))
 (aX (cM (bN (aW (aO A6 (af 4) (ci {pC (.str "layer"),pC (.str "once")})))) (gx "Hand" "once" (aC 0) (ah (pC .none))) cU)
 (cM (bN (aW (aO dJ (af 4) (pC (.str "tap"))))) (gx "Hand" "waiting" (aC 0) (ah (ci {ci {af 1},~~~0,af 3}))) (cM (oJ (bN (aW (aO dJ (af 4) (pC (.str "letter"))))) (oJ (bN (aW (aO dJ (af 2) (~~~0)))) (b8 (k7 nk (j9 bT 2 (aq (bC "Hand" "bed" (aC 0)) (aq (ah (ci {af 1})) aV))) (ah (dL aB)))))) (gx "Hand" "waiting" (aC 0) (ah (ci {ci {af 1},~~~0,pC (.tuple [(.str "chord")])}))) (cM (bN (aW (aO dJ (af 4) (pC (.str "once"))))) (aX (b7 (bp "Hand" "come" bL 3 (aC 0) (aq (ah (af 1)) (aq (ah (pC (.tuple [(.str "none")]))) aV))))
 (gx "Hand" "once" (aC 0) (ah (aO bv (af 3) (~~~1))))) (b7 (bp "Hand" "come" bL 3 (aC 0) (aq (ah (af 1)) (aq (ah (af 3)) aV)))))))))))
def gv:iS:=de 5 kr
def kN:fJ:=(aX (cM (FD (b8 (zg Vq (ah (af 1)) (bC "Hand" "acts" (aC 0)))) (b8 (bp "Hand" "is_waiting" cH 2 (aC 0) (aq (ah (af 1)) aV)))) vt cU)
 (aX (cM (b8 (bp "Hand" "makes_chord" d7 2 (aC 0) (aq (ah (af 1)) aV))) (aX (b7 (bp "Hand" "put_to_chord" dM 2 (aC 0) (aq (ah (af 1)) aV)))
 vt) cU)
 (aX (cM (b8 (k7 pc (bC "Hand" "waiting" (aC 0)) (ah (pC .none)))) (b7 (bp "Hand" "decide" cB 1 (aC 0) aV)) cU)
 (b7 (bp "Hand" "begin" gv 2 (aC 0) (aq (ah (af 1)) aV))))))
def iM:iS:=de 2 kN
def jR:fJ:=(aX (dZ (jU (bC "Hand" "waiting" (aC 0)) (ah (~~~2))) (gr 2))
 (cM (bN (aW (aO dJ (af 2) (pC (.tuple [(.str "chord")]))))) (b7 (bp "Hand" "decide" cB 1 (aC 0) aV)) (aX (gx "Hand" "waiting" (aC 0) (ah (pC .none)))
 (b7 (bp "Hand" "come" bL 3 (aC 0) (aq (ah (af 1)) (aq (ah (ci {pC (.str "letter"),aO bv (af 2) (~~~1)})) aV)))))))
def gX:iS:=de 3 jR
def lm:fJ:=(aX (cM (b8 (bp "Hand" "is_waiting" cH 2 (aC 0) (aq (ah (af 1)) aV))) (b7 (bp "Hand" "settle" gX 2 (aC 0) (aq (ah (af 1)) aV))) cU)
 (cM (b8 (zg Vq (ah (af 1)) (bC "Hand" "acts" (aC 0)))) (b7 (bp "Hand" "go" jV 2 (aC 0) (aq (ah (af 1)) aV))) cU))
def jD:iS:=de 2 lm
def iY:fJ:=(aX (cM (b8 (k7 uZ (bC "Hand" "waiting" (aC 0)) (ah (pC .none)))) vt cU)
 (aX (dZ (k7 dC (jU (bC "Hand" "waiting" (aC 0)) (ah (~~~1))) (ah (~~~1))) (gr 1))
 (aX (gx "Hand" "waiting" (aC 0) (mY (aq (jU (bC "Hand" "waiting" (aC 0)) (ah (~~~0))) (aq (ah (af 1)) (aq (jU (bC "Hand" "waiting" (aC 0)) (ah (~~~2))) aV)))))
 (cM (b8 (k7 dJ (ah (af 1)) (jU (bC "Hand" "bed" (aC 0)) (ah (~~~3))))) (b7 (bp "Hand" "decide" cB 1 (aC 0) aV)) cU))))
def gz:iS:=de 2 iY
def Bj:fJ:=(aX (dZ (v4 "Hand" eC 3 (aq (ah (af 0)) (aq (ah (af 1)) aV))) (gr 3))
 (aX (cM (bN (aW (aO dJ (aO bv (af 2) (~~~0)) (pC (.str "turn"))))) (b7 (bp "Hand" "wait_on" gz 1 (aC 3) aV)) (cM (bN (aW (aO dJ (aO bv (af 2) (~~~0)) (pC (.str "down"))))) (b7 (bp "Hand" "press" iM 2 (aC 3) (aq (ah (aO bv (af 2) (~~~1))) aV))) (b7 (bp "Hand" "lift" jD 2 (aC 3) (aq (ah (aO bv (af 2) (~~~1))) aV)))))
 (gP (mY (aq (bC "Hand" "sent" (aC 3)) (aq (bp "Hand" "stands" bV 1 (aC 3) aV) aV))))))
def io:iS:=de 4 Bj
end STP
local macro_rules| `(tactic|ext:20)=> `(tactic|·first|((simp only[afO,afP]);rfl)|rfl)| `(tactic|ext:19)=> `(tactic|first|with_reducible assumption|change L3.gh _ _|change L3.lY _ _|change L3.nW _ _|change L3.aj5 _ _|change L3.yQ _ _|change L3.Ax _ _|change L3.al6 _ _|change L3.amu _ _|change L3.gY _ _|change L3.on _ _|change L3.agA _ _|change L3.agz _ _|change L3.ak9 _ _|change L3.akY _ _|change L3.yx _ _|change L3.akL _ _|change L3.akV _ _|change L3.akm _ _|change L3.wc _ _|change L3.akc _ _|change L3.aj3 _ _|change L3.akN _ _|change L3.amg _ _|change L3.iL|change L3.jp|change L3.sV|change L3.apW|change L3.ap0|change L3.OH|change L3.lw _|change L3.fP _|(with_reducible rfl))| `(tactic|ext:0)=> `(tactic|first
 |change L3.aI
 |((exists L3.aj);rfl)
 |((exists L3.ie);rfl)
 |change L3.aM
 |change L3.yE
 |((exists L3.aK);(·ext:0);(·ext:0);(·rfl);(·rfl);(·ext:19))
 |((exists L3.aoq);(·ext:0);(·rfl);(·rfl))
 |((exists L3.ao);(·ext:0);(·ext:0))
 |((exists L3.bO);(·ext:0);(·rfl))
 |((exists L3.fw);(·ext:0);(·rfl);(·first|ext:19|rfl))
 |((exists L3.cA);(·ext:0);(·rfl);(·rfl);(·with_reducible assumption))
 |((exists L3.df);(·ext:0);(·rfl);(·exact Vl rfl))
 |((exists L3.sY);(·ext:0);(·rfl);(·exact Vl rfl))
 |((exists L3.am9);(·ext:0);(·rfl);(·rfl))
 |((exists L3.zU);(·ext:0);(·rfl))
 |((exists L3.OW);(·ext:0);(·ext:0);(·ext:0);(·rfl);(·first|with_reducible assumption|rfl))
 |((exists L3.akT);(·ext:0))
 |((exists L3.xg);(·ext:0);(·intro _;ext:0))
 |((exists L3.Iw);(·ext:0);(·intro _;ext:0))
 |((exists L3.alf);(·ext:0))
 |((exists L3.wH);(·ext:0);(·intro _;ext:0))
 |((exists L3.aiz);(·ext:0);(·intro _;ext:0))
 |((exists L3.LI);(·ext:0);(·rfl);(·first|with_reducible assumption|rfl))
 |((exists L3.kI);(·ext:0);(·rfl);(·rfl))
 |((exists L3.akk);(·ext:0);(·rfl);(·rfl))
 |((exists L3.AL);(·rfl);(·ext:0);(·rfl);(·rfl);(·first|with_reducible assumption|(simp only[Xb,VI,L3.gu] at*;ext));ext:20)
 |((exists L3.Hd);(·rfl);(·ext:0);(·rfl);(·rfl);(·with_reducible assumption);(·with_reducible assumption);(·with_reducible assumption);ext:20)
 |((exists L3.BF);(·ext:0);(·rfl);ext:20)
 |((exists L3.xb);(·ext:0))
 |((exists L3.xp);(·ext:0);(·rfl)))
local macro_rules| `(tactic|ext:27)=> `(tactic|first
 |((exists L3.amG);(·ext:0);(·ext:0);(·rfl);(·rfl);(·ext:19))
 |((exists L3.alo);(·ext:0);(·rfl);(·rfl);(·with_reducible assumption))
 |((exists L3.amt);(·ext:0);(·rfl);(·first|ext:19|rfl))
 |ext:0)
local macro_rules| `(tactic|ext:0)=> `(tactic|first
 |with_reducible assumption
 |((exists L3.wH);(·ext:0);(·intro _;ext:27))
 |((exists L3.aiz);(·ext:0);(·intro _;ext:27))
 |((exists L3.ajL);(·ext:0);(·ext:0);(·ext:0);(·rfl);(·rfl);(·rfl);(·ext:19);(·intro _;ext:19))
 |((exists L3.xK);(·ext:0);(·rfl);(·rfl);(·rfl)))
local macro_rules| `(tactic|ext:15)=> `(tactic|first
 |((exists L3.ef);(·ext:0);(·rfl);ext:20;try ext:15)
 |((exists L3.alp);(·ext:0);try ext:15)
 |((exists L3.Ky);try ext:15)
 |((exists L3.gS);try ext:15)
 |((exists L3.jH);(·ext:0);(·rfl))
 |((exists L3.pI);(·ext:0))
 |((exists L3.alY);(·ext:0);(·rfl);ext:20)
 |((exists L3.xk);(·ext:0))
 |((exists L3.gC);(·ext:0);(·rfl))
 |((exists L3.HN);(·ext:0))
 |(exists L3.xV))
namespace STP
open PySem L2 L3
def ji(c:Nat):Str:=#[#v[97+c]]
inductive Mn where
 |V6 (c:Nat)
 |Yu (n:Int)
 |tap (c:Nat) (n:Int)
 |once (n:Int)
 |none
 |below
 deriving DecidableEq
def mD:Mn->D
 |.V6 c=>.tuple [.str "letter",.str (ji c)]
 |.Yu n=>.tuple [.str "layer",.int n]
 |.tap c n=>.tuple [.str "tap",.str (ji c),.int n]
 |.once n=>.tuple [.str "once",.int n]
 |.none=>.tuple [.str "none"]
 |.below=>.tuple [.str "below"]
def VM(L a:Int):Mn->Prop
 |.V6 c=>c<26
 |.Yu n=>1<=n/\n<a
 |.tap c n=>c<26/\1<=n/\n<a
 |.once n=>1<=n/\n<a
 |.none=>True
 |.below=>L≠0
def Mn.isL:Mn->Bool
 |.V6 _=>P
 |_=>Vq
structure Bd where
 n:Int
 ls:G (G Mn)
 cs:G (G Nat×Nat)
 wt:Int
def lh(l:G Mn):D:=.tuple (l.map mD)
def gG(c:G Nat×Nat):D:=.tuple [.tuple (bZ c.1),.str (ji c.2)]
def bD(b:Bd):D:=.tuple [.int b.n,.tuple (b.ls.map lh),.tuple (b.cs.map gG),.int b.wt]
def VL(n a:Int)(b:G (G Mn)):Prop:=∀(i:Nat) l,b[i]?=R l->(l.length:Int)=n/\∀m∈l,VM i a m
def EE(l0:G Mn)(k:Nat):Bool:=(l0[k]?.map Mn.isL).getD Vq
def VC(l0:G Mn)(c:G Nat×Nat):Prop:=2<=c.1.length/\c.1.Pairwise (·<·)/\(∀k∈c.1,EE l0 k=P)/\c.2<26
structure VB(b:Bd):Prop where
 n1:1<=b.n
 n5:b.n<=5
 l1:1<=b.ls.length
 l3:b.ls.length<=3
 vl:VL b.n b.ls.length b.ls
 c4:b.cs.length<=4
 vc:∀c∈b.cs,VC (b.ls.headD []) c
 cu:b.cs.Pairwise λa c=>a.1≠c.1
 w1:1<=b.wt
 w4:b.wt<=4
def wn:Mn->Nat
 |.V6 _=>0
 |.Yu _=>1
 |.tap _ _=>2
 |.once _=>3
 |.none=>4
 |.below=>5
def ws:Nat->Str
 |0=> "letter"
 |1=> "layer"
 |2=> "tap"
 |3=> "once"
 |4=> "none"
 |_=> "below"
def wd(m:Mn):Str:=ws (wn m)
def rm(m:Mn):wn m<6:=by ext m<;>show Vl W
def rh(m:Mn):bv (mD m) (.int 0)=R (.fz (.str (wd m))):=by ext m<;>show iL
theorem Ov(m:Mn):Vo.strOk (wd m)=P:=(by left:∀i,i<6->Vo.strOk (ws i)=P) _ (rm m)
def zh:∀i,i<6->∀j,j<6->(ws i==ws j)=decide (i=j):=by left
def yz(m:Mn)(j:Nat)(a:j<6):dJ (.str (wd m)) (.str (ws j))=R (.fz (.bool (decide (wn m=j)))):=by rw[UB (Ov m) ((by left:∀i,i<6->Vo.strOk (ws i)=P) j a)];ext wd;rw[zh _ (rm m) _ a]
def Mn.isB:Mn->Bool
 |.below=>P
 |_=>Vq
def Mn.afC:Mn->Bool
 |.Yu _=>P
 |_=>Vq
def Mn.isT:Mn->Bool
 |.tap _ _=>P
 |_=>Vq
def Mn.isO:Mn->Bool
 |.once _=>P
 |_=>Vq
theorem mQ(m:Mn):dJ (.str (wd m)) (.str "letter")=R (.fz (.bool m.isL)):=(yz m 0 ()).trans (by ext m<;>rfl)
theorem HU(m:Mn):dJ (.str (wd m)) (.str "below")=R (.fz (.bool m.isB)):=(yz m 5 ()).trans (by ext m<;>rfl)
theorem Kl(m:Mn):dJ (.str (wd m)) (.str "layer")=R (.fz (.bool m.afC)):=(yz m 1 ()).trans (by ext m<;>rfl)
theorem RA(m:Mn):dJ (.str (wd m)) (.str "tap")=R (.fz (.bool m.isT)):=(yz m 2 ()).trans (by ext m<;>rfl)
theorem ME(m:Mn):dJ (.str (wd m)) (.str "once")=R (.fz (.bool m.isO)):=(yz m 3 ()).trans (by ext m<;>rfl)
def Sf(m:Mn):A6 (.str (wd m)) (.tuple [.str "layer",.str "once"])=R (.fz (.bool (!(m.afC||m.isO)))):=by
 let h:∀a:Str,Vo.strOk a=P->A6 (.str a) (.tuple [.str "layer",.str "once"])=R (.fz (.bool (!(("layer":Str)==a||("once":Str)==a)))):=λa b=>by show(if(mK (.str a)&&(Vo.strOk "layer"&&(Vo.strOk "once"&&P)))=P then R (RV.fz (.bool (!(Vo.eqv (.str "layer") (.str a)||(Vo.eqv (.str "once") (.str a)||false)))))else M)=_;rw[show mK (.str a)=P by ext mK;rw[show Vo.canLay0 (.str a)=P from b];rfl,show Vo.strOk "layer"=P by left,show Vo.strOk "once"=P by left,adF];rfl
 rw[h _ (Ov m)];ext wd;rw[show(("layer":Str)==ws (wn m))=_ from zh 1 () _ (rm m),show(("once":Str)==ws (wn m))=_ from zh 3 () _ (rm m)];ext m<;>rfl
def LB:Mn->Prop
 |.V6 c=>c<26
 |.tap c _=>c<26
 |_=>True
def VM.lb(h:VM L nL m):LB m:=by
 cases m with
 |V6 c=>show h
 |tap c n=>show h.1
 |_=>trivial
def nV(h:c<26):Vo.strOk (ji c)=P:=by show((#v[97+c]:Array Nat).all λc=>decide (c<0x110000))=P;simp;ext
def sg(h:ji c=ji d):c=d:=by
 let:(97+c)=97+d:=by let a:=eH (λz:Str=>z.cps.toList) h;show List.head_eq_of_cons_eq a
 ext
def wg(h:LB m):Vo.canLay0 (mD m)=P:=by
 cases m with
 |V6 c=>show(Vo.strOk "letter"&&(Vo.strOk (ji c)&&P))=P;rw[nV h,show Vo.strOk "letter"=P by left];rfl
 |Yu n=>show(Vo.strOk "layer"&&(P&&P))=P;left
 |tap c n=>show(Vo.strOk "tap"&&(Vo.strOk (ji c)&&(P&&P)))=P;rw[nV h,show Vo.strOk "tap"=P by left];rfl
 |once n=>show(Vo.strOk "once"&&(P&&P))=P;left
 |none=>show(Vo.strOk "none"&&P)=P;left
 |below=>show(Vo.strOk "below"&&P)=P;left
def GI(h:LB m):mK (mD m)=P:=by ext mK;rw[wg h];ext m<;>rfl
def mR:Mn->G D
 |.V6 c=>[.str (ji c)]
 |.Yu n=>[.int n]
 |.tap c n=>[.str (ji c),.int n]
 |.once n=>[.int n]
 |.none=>[]
 |.below=>[]
def O8(m:Mn):mD m=.tuple (.str (wd m)::mR m):=by ext m<;>rfl
def Tn(a b:Mn):decide (wd a=wd b)=decide (wn a=wn b):=by let h:=zh _ (rm a) _ (rm b);ext wd;rw[<-h];rfl
theorem Ew(c d:Nat):decide (ji c=ji d)=decide (c=d):=decide_eq_decide.mpr #[sg,λh=>by rw[h]]
def PB(a b:Mn)(h:wn a=wn b):Vo.eqvAll (mR a) (mR b)=decide (a=b):=by
 ext a<;>ext b<;>first|ext h|skip
 .show(decide (ji _=ji _)&&P)=_;rw[Ew,abw];show decide_eq_decide.mpr #[λh=>by rw[h],λh=>by ext h;rfl]
 .show(decide (_=_)&&P)=_;rw[abw];show decide_eq_decide.mpr #[λh=>by rw[h],λh=>by ext h;rfl]
 .show(decide (ji _=ji _)&&(decide (_=_)&&P))=_;rw[Ew,abw,<-Bool.decide_and];show decide_eq_decide.mpr #[λh=>by rw[h.1,h.2],λh=>by ext h;show#[W,W]]
 .show(decide (_=_)&&P)=_;rw[abw];show decide_eq_decide.mpr #[λh=>by rw[h],λh=>by ext h;rfl]
 .rfl
 .rfl
def Qz(a b:Mn):Vo.eqv (mD a) (mD b)=decide (a=b):=by
 rw[O8,O8];show(decide (wd a=wd b)&&Vo.eqvAll (mR a) (mR b))=_;rw[Tn];by_cases h:wn a=wn b
 .rw[ax h,aag,PB a b h]
 .rw[aP h,ZP,aP λz=>h (by rw[z])]
theorem Dq:∀{l:G Mn},(∀m∈l,LB m)->Vo.canLayAll0 (l.map mD)=P
 |[],_=>rfl
 |m::r,h=>by show(Vo.canLay0 (mD m)&&Vo.canLayAll0 (r.map mD))=P;rw[wg (h m Vn),Dq λx a=>h x (Vr _ a)];rfl
theorem EB(a:Mn):∀l:G Mn,((l.map mD).any λe=>Vo.eqv e (mD a))=decide (a∈l)
 |[]=>rfl
 |m::r=>by rw[VP,Zt,EB a r,Qz,<-Bool.decide_or];show decide_eq_decide.mpr (by rw[VG];show#[λh=>h.imp (λz=>z.symm) id,λh=>h.imp (λz=>z.symm) id])
def MU{l:G Mn}(c:LB a)(b:∀m∈l,LB m):Nj (mD a) (.list (l.map mD))=R (.fz (.bool (decide (a∈l)))):=by show(if(mK (mD a)&&Vo.canLayAll0 (l.map mD))=P then _ else _)=_;rw[GI c,Dq b,X7,ag W,EB]
def D4(e:α->D)(g:α->br D)(I:bx->Prop)(xs:G α)(p:I d)(i:xs.length<=1000)(b:∀x∈xs,∀d,I d->∃c,lK gt C J (e x) d=.ok (g x,c)/\I c):k8 (d4 gt C J (xs.map e) d [])=.ok (xs.filterMap g):=by
 let h:∀(xs:G α) (a:G D) (d:bx),I d->a.length+xs.length<=1000->(∀x∈xs,∀d,I d->∃c,lK gt C J (e x) d=.ok (g x,c)/\I c)->d4 gt C J (xs.map e) d a=.ok (a++xs.filterMap g):=by
  intro xs
  induction xs with
  |nil=>intro a d _ _ _;show Res.ok a=_;rw[List.filterMap_nil,V2]
  |cons x r j=>
   intro a d m i b;rw[VI]at i;let(c,o,n):=b x Vn d m;rw[VP,uO o ()];let f:(a++(g x).toList).length+r.length<=1000:=by
    rw[Vs];cases g x with
    |none=>rw[ae6,Xb];ext
    |some y=>rw[Option.toList_some,Zp];ext
   rw[j _ c n f λy l=>b y (Vr _ l),Wc];cases q:g x with
   |none=>rw[adK q];rfl
   |some y=>rw[adL q];rfl
 rw[h xs [] d p (by simpa using i) b];rfl
def D3(a:dR o=o):dR (R (PV.fz d)::o)=R (.fz d)::o:=by show HY _::dR o=_;rw[a];rfl
def xo{α:Type}{d:FT}{k:FE}{c:bx}(e f:α->D)(p:α->Bool)(xs:G α)(i:xs.length<=1000)(l:dR c=c)(g:∀x∈xs,d (R (.fz (e x))::c)=.ok (p x,R (.fz (e x))::c))(j:∀x∈xs,p x=P->k (R (.fz (e x))::c)=.ok (.fz (f x),R (.fz (e x))::c)):k8 (d4 (gN 0) d k (xs.map e) (M::c) [])=.ok ((xs.filter p).map f):=by
 rw[D4 e (λx=>if p x=P then R (f x)else M) (λm=>∃o,m=o::c) xs #[M,W] i ?_]
 .congr 1
  clear i g j
  induction xs with
  |nil=>rfl
  |cons x r h=>
   cases q:p x with
   |true=>rw[adL (b:=f x) (by rw[ag q]),List.filter_cons_of_pos q,h];rfl
   |false=>rw[adK (by rw[av (by rw[q];simp)]),List.filter_cons_of_neg (by rw[q];simp),h]
 .rintro x a m ⟨o,rfl⟩
  cases q:p x with
  |true=>show#[_,NC W ((g x a).trans (by rw[q])) (j x a q) W (D3 l),_,W]
  |false=>show#[_,Tc W ((g x a).trans (by rw[q])) (D3 l),_,W]
theorem Bh(xs:G α):xs.filter (λ_=>P)=xs:=List.filter_eq_self.mpr λ_ _=>W
def jv{α:Type}(e f:α->D)(xs:G α)(b:xs.length<=1000)(h:dR cp=cp)(g:∀x∈xs,o (R (.fz (e x))::cp)=.ok (.fz (f x),R (.fz (e x))::cp)):k8 (d4 (gN 0) eD o (xs.map e) (M::cp) [])=.ok (xs.map f):=by rw[xo e f (λ_=>P) xs b h (λ_ _=>W) λx a _=>g x a,Bh]
theorem lJ(p:α->Bool):∀l:G α,rK (l.map λc=>Vo.bool (p c))=R (l.map p)
 |[]=>rfl
 |c::r=>by show(rK (r.map λc=>Vo.bool (p c))).map (p c::·)=_;rw[lJ p r];rfl
def oW(p:α->Bool)(l:G α):Aa [.list (l.map λc=>Vo.bool (p c))]=R (.fz (.bool (l.all p))):=by show(rK _).map (λbs=>RV.fz (.bool (bs.all id)))=_;rw[lJ];show R (RV.fz (.bool _))=_;rw[aiP];rfl
theorem tK:∀ns:G Int,qA (ns.map Vo.int)=R ns
 |[]=>rfl
 |n::r=>by show(qA (r.map Vo.int)).map (n::·)=_;rw[tK r];rfl
abbrev Ac:=Nat->br Mn
abbrev Wq:=br (G Nat×Int×br (Nat×Int))
structure X6 where
 ac:Ac
 wt:Wq
 oc:br Int
def g9(ac:Ac):G (Nat×Mn):=(VO 5).filterMap λk=>(ac k).map λa=>(k,a)
def pD(p:Nat×Mn):D:=.tuple [nd p.1,mD p.2]
def ud:br (Nat×Int)->D
 |some (c,n)=>mD (.tap c n)
 |none=>.tuple [.str "chord"]
def jL:Wq->D
 |some (b,a,w)=>.tuple [.tuple (bZ b),.int a,ud w]
 |none=>.none
def rc:br Int->D
 |some o=>.int o
 |none=>.none
def cN(s:X6):D:=.tuple [.tuple ((g9 s.ac).map pD),jL s.wt,rc s.oc]
inductive Yy where
 |down (k:Nat)
 |up (k:Nat)
 |turn
def eY:Yy->D
 |.down k=>.tuple [.str "down",nd k]
 |.up k=>.tuple [.str "up",nd k]
 |.turn=>.tuple [.str "turn",.int 0]
def fZ:p∈g9 ac↔p.1<5/\ac p.1=R p.2:=by
 ext g9;rw[ZQ];constructor
 .rintro⟨k,e,b⟩
  cases q:ac k with
  |none=>rw[q]at b;ext b
  |some a=>rw[q]at b;ext b;show#[WH.mp e,q]
 .rintro⟨e,b⟩;show#[p.1,WH.mpr e,by rw[b];rfl]
theorem xP(ac:Ac):(g9 ac).length<=5:=List.length_filterMap_le _ _
def OL:Nat×Mn->br Int
 |(_,.Yu n)=>R n
 |_=>M
def ve(ac:Ac):Int:=(((g9 ac).filterMap OL).foldl m9 M).getD 0
def lay(ac:Ac):br Int->Int
 |some o=>o
 |none=>ve ac
def Ku(ac:Ac):k8 (d4 (gT 2 (RO (gN 0) (RO (gN 1) TU))) (aW (aO dJ (aO bv (af 1) (~~~0)) (pC (.str "layer")))) (aO bv (af 1) (~~~1)) ((g9 ac).map pD) [M,M] [])=.ok (((g9 ac).filterMap OL).map .int):=by
 rw[D4 pD (λp=>(OL p).map .int) (λi=>∃e b,i=[e,b]) (g9 ac) #[M,M,W] (Wk (xP ac) ()) ?_,List.map_filterMap];rintro⟨k,a⟩ _ i ⟨e,b,rfl⟩;let h:=rh a;let g:=Kl a;let f:aW (aO dJ (aO bv (af 1) (~~~0)) (pC (.str "layer"))) [R (.fz (nd k)),R (.fz (mD a))]=.ok (a.afC,[R (.fz (nd k)),R (.fz (mD a))]):=by ext:0
 show#[[R (.fz (nd k)),R (.fz (mD a))],?_,_,_,W];cases a with
 |Yu n=>show NC W f (aK (aj W) aI W W jp) W W
 |_=>show Tc W f W
def zG(s:X6):ez [cN s]=.ok (.fz (.int (lay s.ac s.oc))):=by
 show jN W ?_;let a:bv (cN s) (.int 2)=R (.fz (rc s.oc)):=sV;let e0:bv (cN s) (.int 0)=R (.fz (.tuple ((g9 s.ac).map pD))):=iL;ext nQ;cases q:s.oc with
 |some o=>
  rw[q]at a;let b:pc (rc (R o)) .none=R (.fz (.bool P)):=W;ext:15
  .intro _;show jH (by ext:0) W W
  .intro h;ext h
 |none=>
  rw[q]at a;let b:pc (rc M) .none=R (.fz (.bool Vq)):=W;ext:15
  .intro h;ext h
  .intro _;show gS (gC (fw (rv:=.fz (.int (ve s.ac))) (ao (fG (by ext:0) W (Ku s.ac)) aM) W ?_) W W);show(qA _).map _=_;rw[tK];rfl
def mAt(b:Bd)(L k:Nat):Mn:=((b.ls[L]?.getD [])[k]?).getD .none
def look(b:Bd)(L:Int)(k:Nat):Mn:=if(mAt b L.toNat k).isB=P then mAt b 0 k else mAt b L.toNat k
section
variable{b:Bd}(Z:VB b)
include Z
def Os{L k:Nat}(a:L<b.ls.length)(f:(k:Int)<b.n):∃l,b.ls[L]?=R l/\l[k]?=R (mAt b L k):=by
 let g:=Z.vl L _ (Vv a);let e:k<(b.ls[L]).length:=by ext
 show#[_,Vv a,?_];ext mAt;rw[Vv a,aaf,Vv e];rfl
def AH{L k:Nat}(e:L<b.ls.length)(a:(k:Int)<b.n):VM L b.ls.length (mAt b L k):=by let(l,g,f):=Os Z e a;show(Z.vl L l g).2 _ (VQ f)
def JW{L k:Nat}(e:L<b.ls.length)(a:(k:Int)<b.n):∃d,bv (.tuple (b.ls.map lh)) (nd L)=R (.fz d)/\bv d (nd k)=R (.fz (mD (mAt b L k))):=by let(l,g,f):=Os Z e a;show#[lh l,RB (by rw[Vx,g];rfl),RB (by rw[Vx,f];rfl)]
def LL{L:Int}{k:Nat}(r:0<=L)(p:L<b.ls.length)(e:(k:Int)<b.n):jq [bD b,.int L,nd k]=.ok (.fz (mD (look b L k))):=by
 obtain⟨n,rfl⟩:∃n:Nat,L=(n:Int):=#[L.toNat,by ext];let o:=Z.l1;let(d,u,j):=JW Z (L:=n) () e;let(l,i,h):=JW Z (L:=0) () e;let v:bv (bD b) (.int 1)=R (.fz (.tuple (b.ls.map lh))):=jp;let g:=rh (mAt b n k);let f:=HU (mAt b n k);let t:bv (.tuple (b.ls.map lh)) (.int 0)=R (.fz l):=i;let a:look b (n:Int) k=if(mAt b n k).isB=P then mAt b 0 k else mAt b n k:=W
 rw[a];generalize mAt b n k=m at j g f a;generalize mAt b 0 k=m0 at h a;show jN W ?_;ext l9;ext:15
 .intro q;rw[ag q];show jH (by ext:0) W W
 .intro q;rw[av (by rw[q];simp)];show gS (gC (by ext:0) W W)
def x8{L:Int}{k:Nat}(g:0<=L)(i:L<b.ls.length)(f:(k:Int)<b.n):VM L b.ls.length (look b L k)/\look b L k≠.below:=by
 let h:=Z.l1;let a:=AH Z (L:=0) (k:=k) () f;let v:=AH Z (L:=L.toNat) (k:=k) () f;let e:mAt b 0 k≠.below:=λz=>by rw[z]at a;show a W
 rw[abu g]at v;ext look;split
 .show#[?_,e]
  generalize mAt b 0 k=m at a e;cases m with
  |below=>show a6 W e
  |_=>show a
 .rename_i q;show#[v,λz=>?_];rw[z]at q;show q W
omit Z in
theorem Iy(ks:bg Nat)(a:ks.length<=5)(c:bg Nat×Nat):aW (gq Aa {fW 1 [0] (jo (af 1)) (gN 0) eD (aO Nj (af 0) (aO bv (af 1) (~~~0)))}) [lD (.fz (gG c)),lD (.fz (.tuple (bZ ks)))]=.ok (ks.all λk=>decide (k∈c.1),[lD (.fz (gG c)),lD (.fz (.tuple (bZ ks)))]):=by
 have e:k8 (d4 (gN 0) eD (aO Nj (af 0) (aO bv (af 1) (~~~0))) (bZ ks) [Vg,lD (.fz (gG c))] [])=.ok (ks.map λk=>.bool (decide (k∈c.1))):=jv nd (λk=>.bool (decide (k∈c.1))) ks (by ext) rfl λk _=>by have e0:bv (gG c) (.int 0)=lD (.fz (.tuple (bZ c.1))):=iL;exact aK (rv:=.fz (.bool (decide (k∈c.1)))) (aj rfl) (by ext:0) rfl rfl (wc _ _)
 exact bO (fw (rv:=.fz (.bool (ks.all λk=>decide (k∈c.1)))) (ds:=[.list (ks.map λk=>.bool (decide (k∈c.1)))]) (ao (fG (cs:=[gG c]) (ds:=bZ ks) (by ext:0) rfl e) aM) rfl (oW _ _)) rfl
def over(b:Bd)(a:G Nat):G (G Nat×Nat):=b.cs.filter λc=>a.all λk=>decide (k∈c.1)
def DU(a:o.length<=5):bT [bD b,.tuple (bZ o)]=.ok (.ow ((over b o).map gG)):=by let f:bv (bD b) (.int 2)=R (.fz (.tuple (b.cs.map gG))):=sV;let e:=Z.c4;show jN W ?_;ext jK;show gC (fG (cs:=[.tuple (bZ o)]) (by ext:0) W (xo gG gG (λc=>o.all λk=>decide (k∈c.1)) b.cs () W (λc _=>Iy o a c) λc _ _=>aj W)) W W
def qQ(a:G Nat):G Nat:=(lA (a.map acy)).map ael
omit Z in
theorem oK(ks:bg Nat):(qQ ks).Perm ks:=by have h:=(gc (ks.map acy)).map ael;rw[Wt]at h;exact h.trans (by rw[show(ael∘acy)=id from funext λx=>rfl,List.map_id])
omit Z in
theorem Nz(ks:bg Nat):(lA (ks.map acy)).map Vo.int=bZ (qQ ks):=by unfold qQ bZ;rw[Wt];refine YR λx a=>?_;obtain⟨n,_,rfl⟩:=VX.mp ((gc _).mem_iff.mp a);rfl
omit Z in
theorem uI(ks:bg Nat):(qQ ks).Pairwise (·<=·):=by
 have h:∀l:bg Int,l.Pairwise (·<=·)->(l.map ael).Pairwise (·<=·):=λl h=>by rw[Z8];exact h.imp λh=>by ext
 exact h _ (fH _)
omit Z in
theorem De(ks:bg Nat):(qQ ks).length=ks.length:=(oK ks).length_eq
omit Z in
theorem Aq{ks:bg Nat}(h:ks.length<64):L9.iE [.tuple (bZ ks)]=lD (.ow (bZ (qQ ks))):=by
 have e:bZ ks=(ks.map acy).map Vo.int:=by rw[Wt];rfl
 show(match qA (bZ ks)with
  |some a=>if a.length<64 then lD (RV.ow ((lA a).map .int))else Vg
  |none=>Vg)=_
 rw[e,tK];dsimp only;rw[ag (by rw[Vj];exact h),Nz]
def KJ(b:Bd)(a:G Nat):G Mn:=match b.cs.find? λc=>decide (c.1=qQ a)with
 |some c=>.V6 c.2::Vw (a.length - 1) .none
 |none=>a.map (mAt b 0)
omit Z in
omit Z in
theorem SC(n:Nat)(d:D):(Vw n [d]).flatten=Vw n d:=by
 induction n with
 |zero=>rfl
 |succ n a=>rw[WK,X5,a];rfl
def Pz{n:bg Nat}(G:1<=n.length)(F:n.length<=5)(B:∀k∈n,(k:Int)<b.n):gA [bD b,.tuple (bZ n)]=.ok (.ow ((KJ b n).map mD)):=by
 let H:bv (bD b) (.int 2)=R (.fz (.tuple (b.cs.map gG))):=sV;let I:bv (bD b) (.int 1)=R (.fz (.tuple (b.ls.map lh))):=jp;let E:=Z.l1;let i:=Aq (ks:=n) ();show jN W ?_;ext kG;let rt:∀c:bg Nat×Nat,(aO dC (dL {ci {pC (.str "letter"),aO bv (af 2) (~~~1)}}) (aO ig (dL {pC (.tuple [(.str "none")])}) (aO oH (gq cT {af 1}) (~~~1)))) [R (.fz (bD b)),R (.fz (.tuple (bZ n))),R (.fz (gG c))]=.ok (.ow ((Mn.V6 c.2::Vw (n.length - 1) Mn.none).map mD),[R (.fz (bD b)),R (.fz (.tuple (bZ n))),R (.fz (gG c))]):=λc=>by
  let l:bv (gG c) (.int 1)=R (.fz (.str (ji c.2))):=jp;let j:ig (.list [.tuple [.str "none"]]) (.int (((bZ n).length:Int) - 1))=R (.ow (Vw (n.length - 1) (.tuple [.str "none"]))):=by rw[gu,show((n.length:Int) - 1)=((n.length - 1:Nat):Int) by ext];show(Re () ()).trans (by rw[SC])
  let y:dC (.list [mD (.V6 c.2)]) (.list (Vw (n.length - 1) (.tuple [.str "none"])))=R (.ow ((Mn.V6 c.2::Vw (n.length - 1) Mn.none).map mD)):=by show(if 1+(Vw (n.length - 1) (Vo.tuple [.str "none"])).length<=1000000 then R (RV.ow ([mD (.V6 c.2)]++Vw (n.length - 1) (Vo.tuple [.str "none"])))else M)=_;rw[Wb,ag (),VP,List.map_replicate];rfl
  show aK (by ext:0) (aK (by ext:0) (aK (by ext:0) aI W W (lY _ _)) W W j) W W y
 let f:∀(e:bg (bg Nat×Nat)) (o:br PV),(∀c,e.find? (λc=>decide (c.1=qQ n))=R c->rG (gN 2) (oE (aW (aO dJ (gq xU {aO bv (af 2) (~~~0)}) (gq L9.iE {af 1}))) (fO (aO dC (dL {ci {pC (.str "letter"),aO bv (af 2) (~~~1)}}) (aO ig (dL {pC (.tuple [(.str "none")])}) (aO oH (gq cT {af 1}) (~~~1))))) gm) (e.map gG) [R (.fz (bD b)),R (.fz (.tuple (bZ n))),o]=.ok (.rt (.ow ((Mn.V6 c.2::Vw (n.length - 1) Mn.none).map mD))))/\
   (e.find? (λc=>decide (c.1=qQ n))=M->∃u,rG (gN 2) (oE (aW (aO dJ (gq xU {aO bv (af 2) (~~~0)}) (gq L9.iE {af 1}))) (fO (aO dC (dL {ci {pC (.str "letter"),aO bv (af 2) (~~~1)}}) (aO ig (dL {pC (.tuple [(.str "none")])}) (aO oH (gq cT {af 1}) (~~~1))))) gm) (e.map gG) [R (.fz (bD b)),R (.fz (.tuple (bZ n))),o]=.ok (.nx [R (.fz (bD b)),R (.fz (.tuple (bZ n))),u])):=by
  intro e
  induction e with
  |nil=>show λo=>#[λc h=>(by ext h),λ_=>#[o,W]]
  |cons c r A=>
   intro o;let C:bv (gG c) (.int 0)=R (.fz (.tuple (bZ c.1))):=iL
   let a:aW (aO dJ (gq xU {aO bv (af 2) (~~~0)}) (gq L9.iE {af 1})) [R (.fz (bD b)),R (.fz (.tuple (bZ n))),R (.fz (gG c))]=.ok (decide (c.1=qQ n),[R (.fz (bD b)),R (.fz (.tuple (bZ n))),R (.fz (gG c))]):=
    bO (aK (fw (by ext:0) W W) (fw (by ext:0) W i) W W (yx _ _)) W
   rw[Wn];by_cases h:c.1=qQ n
   .rw[ax h]at a⊢;show#[λJ t=>?_,λt=>(by ext t)];ext t;show((gN 2 (.fz (gG c)) [R (.fz (bD b)),R (.fz (.tuple (bZ n))),o]).bind λg=>_)=_;rw[Kk,e8];show((oE _ _ _ [R (.fz (bD b)),R (.fz (.tuple (bZ n))),R (.fz (gG c))]).bind _)=_;rw[Us a,xp (rt c) W];rfl
   .rw[aP h]at a⊢
    let w:rG (gN 2) (oE (aW (aO dJ (gq xU {aO bv (af 2) (~~~0)}) (gq L9.iE {af 1}))) (fO (aO dC (dL {ci {pC (.str "letter"),aO bv (af 2) (~~~1)}}) (aO ig (dL {pC (.tuple [(.str "none")])}) (aO oH (gq cT {af 1}) (~~~1))))) gm) ((c::r).map gG) [R (.fz (bD b)),R (.fz (.tuple (bZ n))),o]=rG (gN 2) (oE (aW (aO dJ (gq xU {aO bv (af 2) (~~~0)}) (gq L9.iE {af 1}))) (fO (aO dC (dL {ci {pC (.str "letter"),aO bv (af 2) (~~~1)}}) (aO ig (dL {pC (.tuple [(.str "none")])}) (aO oH (gq cT {af 1}) (~~~1))))) gm) (r.map gG) [R (.fz (bD b)),R (.fz (.tuple (bZ n))),R (.fz (gG c))]:=by show((gN 2 (.fz (gG c)) [R (.fz (bD b)),R (.fz (.tuple (bZ n))),o]).bind λg=>_)=_;rw[Kk,e8];show((oE _ _ _ [R (.fz (bD b)),R (.fz (.tuple (bZ n))),R (.fz (gG c))]).bind _)=_;rw[Ut a];rfl
    rw[w];show A _
 let(z,m):=f b.cs M;let v:jo (aO bv (af 0) (~~~2)) [R (.fz (bD b)),R (.fz (.tuple (bZ n))),M]=.ok (b.cs.map gG,[R (.fz (bD b)),R (.fz (.tuple (bZ n))),M]):=by ext:0
 ext KJ;cases q:b.cs.find? λc=>decide (c.1=qQ n)with
 |some c=>show .eq (GU ((AM v).trans (z c q))) #[W]
 |none=>let(u,m):=m q;show .eq (B4 ((AM v).trans m)) ?_;show gC (fG (by ext:0) W ?_) W W;rw[Wt];show jv nd (mD∘mAt b 0) n () W λk p=>?_;let(d,l,j):=JW Z (L:=0) () (B k p);let l:bv (.tuple (b.ls.map lh)) (.int 0)=R (.fz d):=l;show aK (by ext:0) (aj W) W W j
end
end STP
namespace STP
open PySem L2 L3
open L10
def lf(p:Nat×Mn):db×SV:=(.inl (p.1:Int),.fz (mD p.2))
def k9(ac:Ac)(k:Nat)(o:br Mn):Ac:=λj=>if j=k then o else ac j
def fQ:k9 ac k o k=o:=by ext k9;rw[ag W]
def ib(h:j≠k):k9 ac k o j=ac j:=by ext k9;rw[av h]
def Ks(ac:Ac):(g9 ac).Pairwise λp q=>p.1<q.1:=by
 ext g9;show ajx _ (λa g h p f q b=>?_) (aav);cases e:ac a with
 |none=>rw[e]at f;ext f
 |some x=>
  cases i:ac g with
  |none=>rw[i]at b;ext b
  |some y=>rw[e]at f;rw[i]at b;ext f;ext b;show h
def uw(ac:Ac):((g9 ac).map (·.1)).Nodup:=by rw[WJ,Z8];show(Ks ac).imp λh=>VW h
def C4{l:G (Nat×Mn)}(h:(l.map (·.1)).Nodup):l.Nodup:=by rw[WJ,Z8]at h;show h.imp λh e=>h (by rw[e])
theorem t7{l:G (Nat×Mn)}(h:(l.map (·.1)).Nodup)(hm:∀p,p∈l↔p.1<5/\ac p.1=R p.2):l.Perm (g9 ac):=
 (List.perm_ext_iff_of_nodup (C4 h) (C4 (uw ac))).mpr λp=>(hm p).trans fZ.symm
section
variable{Y:bg (Nat×Mn)}{X:Ac}(Z:Y.Perm (g9 X))
include Z
theorem mh:p∈Y↔p.1<5/\X p.1=R p.2:=Z.mem_iff.trans fZ
theorem Jx:(Y.map (·.1)).Nodup:=(Z.map (·.1)).nodup_iff.mpr (uw X)
def JM:Y.length<=5:=by rw[Z.length_eq];show xP X
def pB{k:Nat}(f:k<5):kE (Y.map lf) (.inl (k:Int))=(X k).map λa=>SV.fz (mD a):=by
 ext kE;cases q:(Y.map lf).find? λb=>decide (b.1=(.inl (k:Int):db))with
 |none=>
  cases e:X k with
  |none=>rfl
  |some a=>let:=List.find?_eq_none.mp q (lf (k,a)) (VX.mpr #[(k,a),(mh Z).mpr #[f,e],W]);show a6 (ax W) this
 |some b=>
  let(p,i,rfl):=VX.mp (adj q);let h:=a5 (List.find?_some (p:=λb:db×SV=>decide (b.1=(.inl (k:Int):db))) q);let g:p.1=k:=by let:=Sum.inl.inj h;ext
  rw[<-g,((mh Z).mp i).2];rfl
def NY{k:Nat}(o:k<5):∃c:G (Nat×Mn),kW (Y.map lf) (.inl (k:Int)) (.fz (mD a))=c.map lf/\c.Perm (g9 (k9 X k (R a))):=by
 ext kW;let g:∀p:Nat×Mn,((lf p).1=(.inl (k:Int):db))↔p.1=k:=λp=>#[λh=>by let:=Sum.inl.inj h;ext,λh=>by rw[<-h];rfl];split
 .rename_i h
  show#[Y.map λp=>if p.1=k then(k,a)else p,?_,t7 ?_ λp=>?_]
  .rw[Wt,Wt]
   show YR λp _=>?_;show(if(lf p).1=(.inl (k:Int):db)then((lf p).1,SV.fz (mD a))else lf p)=lf (if p.1=k then(k,a)else p);by_cases e:p.1=k
   .rw[ag ((g p).mpr e),ag e,(g p).mpr e];rfl
   .rw[av (λz=>e ((g p).mp z)),av e]
  .rw[Wt,show Y.map ((·.1)∘λp:Nat×Mn=>if p.1=k then(k,a)else p)=Y.map (·.1)from YR λp _=>by
    show(if p.1=k then(k,a)else p).1=p.1;split
    .rename_i e;show e.symm
    .rfl]
   show Jx Z
  .let(w,l,j):=ack.mp h
   let(n,v,rfl):=VX.mp l;let b:=(g n).mp (a5 j);rw[VX];constructor
   .rintro⟨r,u,rfl⟩
    split
    .show#[o,fQ]
    .rename_i e;let:=(mh Z).mp u;show#[this.1,by rw[ib e];show this.2]
   .rintro⟨f,i⟩
    by_cases e:p.1=k
    .rw[e,fQ]at i;show#[n,v,?_];rw[ag b,<-e,VR i]
    .rw[ib e]at i;show#[p,(mh Z).mpr #[f,i],by rw[av e]]
 .rename_i h
  let A:=λp m e=>h (ack.mpr #[lf p,VX.mpr #[p,m,W],ax ((g p).mpr e)]);show#[Y++[(k,a)],by rw[VY];rfl,t7 ?_ λp=>?_]
  .rw[VY,Zf];show#[Jx Z,Wj.mpr #[Xh,Xv],λx t y q=>?_];let(p,b,rfl):=VX.mp t;rw[Vz.mp q];show A p b
  .rw[Wi,Vz]
   constructor
   .rintro(b|rfl)
    .let:=(mh Z).mp b;show#[this.1,by rw[ib (A p b)];show this.2]
    .show#[o,fQ]
   .rintro⟨b,f⟩
    by_cases e:p.1=k
    .rw[e,fQ]at f;show .inr (by rw[<-e,VR f])
    .rw[ib e]at f;show .inl ((mh Z).mpr #[b,f])
def Hr{k:Nat}:∃c:G (Nat×Mn),oj (Y.map lf) (.inl (k:Int))=c.map lf/\c.Perm (g9 (k9 X k M)):=by
 let g:∀p:Nat×Mn,((lf p).1=(.inl (k:Int):db))↔p.1=k:=λp=>#[λh=>by let:=Sum.inl.inj h;ext,λh=>by rw[<-h];rfl];show#[Y.filter λp=>decide (p.1≠k),?_,t7 ?_ λp=>?_]
 .ext oj;rw[List.filter_map];congr 1;show List.filter_congr λp _=>?_;show decide_eq_decide.mpr (not_congr (g p))
 .show anT ((List.filter_sublist).map _) (Jx Z)
 .rw[Yn,mh Z,decide_eq_true_eq]
  constructor
  .rintro⟨⟨b,a⟩,f⟩;show#[b,by rw[ib f];show a]
  .rintro⟨b,a⟩
   by_cases e:p.1=k
   .rw[e,fQ]at a;ext a
   .rw[ib e]at a;show#[#[b,a],e]
def HF:a8 Bu ((Y.map lf).map (·.1))=R (Y.map λp=>(p.1:Int)):=by
 clear Z
 induction Y with
 |nil=>rfl
 |cons p r a=>rw[VP,VP];ext a8;rw[a];rfl
def GZ:lA (Y.map λp=>(p.1:Int))=(g9 X).map λp=>(p.1:Int):=by show mz ((gc _).trans (Z.map _)) (fH _) ?_;rw[Z8];show(Ks X).imp λh=>by ext
end
abbrev Sn:=G (Nat×Bool)
def pd(ac:Ac)(a:Mn):Bool:=decide (a∈(g9 ac).map (·.2))
def uK(ac:Ac):Mn->Sn
 |.V6 c=>if pd ac (.V6 c)=P then[]else[(c,P)]
 |_=>[]
def QA(ac:Ac):Mn->Sn
 |.V6 c=>if pd ac (.V6 c)=P then[]else[(c,Vq)]
 |_=>[]
def gM(p:X6×Sn)(k:Nat)(a:Mn):X6×Sn:=({p.1 with ac:=k9 p.1.ac k (R a)},p.2++uK p.1.ac a)
def go(p:X6×Sn)(k:Nat):X6×Sn:=match p.1.ac k with
 |some a=>({p.1 with ac:=k9 p.1.ac k M},p.2++QA (k9 p.1.ac k M) a)
 |none=>p
def jr(p:X6×Sn)(a:G (Nat×Mn)):X6×Sn:=a.foldl (λp q=>gM p q.1 q.2) p
def iu(b:Bd)(a:G Nat):br (Nat×Int)->G Mn
 |some (_,n)=>[.Yu n]
 |none=>KJ b a
def cQ(b:Bd)(p:X6×Sn):X6×Sn:=match p.1.wt with
 |none=>p
 |some (a,_,w)=>jr ({p.1 with wt:=M},p.2) (a.zip (iu b a w))
def isW:Wq->Nat->Bool
 |some (a,_,_),k=>decide (k∈a)
 |none,_=>Vq
def Ag(b:Bd)(s:X6)(k:Nat):Bool:=match s.wt with
 |some (a,_,M)=>decide (lay s.ac s.oc=0)&& !(over b (a++[k])).isEmpty
 |_=>Vq
def pU(b:Bd)(p:X6×Sn)(k:Nat):X6×Sn:=match p.1.wt with
 |some (a,g,_)=>if(over b (a++[k])).map (·.1.length)=[(a++[k]).length]then cQ b ({p.1 with wt:=R (a++[k],g,M)},p.2)else({p.1 with wt:=R (a++[k],g,M)},p.2)
 |none=>p
def im(s:X6)(m:Mn):X6:=if(m.afC||m.isO)=P then s else{s with oc:=M}
def zW(b:Bd)(L:Int)(p:X6×Sn)(k:Nat):Mn->X6×Sn
 |.tap c n=>({p.1 with wt:=R ([k],0,R (c,n))},p.2)
 |.V6 c=>if(decide (L=0)&& !(over b [k]).isEmpty)=P then({p.1 with wt:=R ([k],0,M)},p.2)else gM p k (.V6 c)
 |.once n=>({(gM p k .none).1 with oc:=R n},(gM p k .none).2)
 |m=>gM p k m
def Ff(b:Bd)(p:X6×Sn)(k:Nat):X6×Sn:=
 zW b (lay p.1.ac p.1.oc) (im p.1 (look b (lay p.1.ac p.1.oc) k),p.2) k (look b (lay p.1.ac p.1.oc) k)
def l8(b:Bd)(p:X6×Sn)(k:Nat):X6×Sn:=
 if((p.1.ac k).isSome||isW p.1.wt k)=P then p else if Ag b p.1 k=P then pU b p k else Ff b (cQ b p) k
def dH(b:Bd)(p:X6×Sn)(k:Nat):X6×Sn:=match p.1.wt with
 |some (_,_,M)=>cQ b p
 |some (_,_,R (c,_))=>gM ({p.1 with wt:=M},p.2) k (.V6 c)
 |none=>p
def vg(b:Bd)(p:X6×Sn)(k:Nat):X6×Sn:=go (if isW p.1.wt k=P then dH b p k else p) k
def kZ(b:Bd)(p:X6×Sn):X6×Sn:=match p.1.wt with
 |none=>p
 |some (a,g,w)=>if g+1=b.wt then cQ b ({p.1 with wt:=R (a,g+1,w)},p.2)else({p.1 with wt:=R (a,g+1,w)},p.2)
def aQ(b:Bd)(s:X6):Yy->X6×Sn
 |.down k=>l8 b (s,[]) k
 |.up k=>vg b (s,[]) k
 |.turn=>kZ b (s,[])
def vo(b:Bd)(s:X6):G (Str×SV):=[("bed",.fz (bD b)),("acts",.rf 1),("waiting",.fz (jL s.wt)),("once",.fz (rc s.oc)),("sent",.rf 2)]
def iO(p:Nat×Bool):D:=.tuple [.str (ji p.1),.str (if p.2=P then "down" else "up")]
def dI(b:Bd)(s:X6)(sn:Sn)(a:G (Nat×Mn))(J:bh):bh:=.obj "Hand" (vo b s):: .dct (a.map lf):: .lst ((sn.map iO).map .fz)::J
def HS(b:Bd)(p:X6×Sn)(Z:bh):Prop:=∃a J,a.Perm (g9 p.1.ac)/\Z=dI b p.1 p.2 a J
section
variable{b:Bd}{s:X6}{sn:Sn}{Y:bg (Nat×Mn)}{J:bh}{ρ:bH}{i:Nat}{Z:bh}{p:X6×Sn}{k:Nat}{a:Mn}
def QF:(vo b s).lookup ("bed":Str)=R (.fz (bD b)):=by ext vo;rw[Yp]
def Nc:(vo b s).lookup ("acts":Str)=R (.rf 1):=by ext vo;rw[VU,show(("acts":Str)== "bed")=Vq by left];dsimp only;rw[Yp]
def MR:(vo b s).lookup ("waiting":Str)=R (.fz (jL s.wt)):=by ext vo;rw[VU,show(("waiting":Str)== "bed")=Vq by left];dsimp only;rw[VU,show(("waiting":Str)== "acts")=Vq by left];dsimp only;rw[Yp]
def N3:(vo b s).lookup ("once":Str)=R (.fz (rc s.oc)):=by ext vo;rw[VU,show(("once":Str)== "bed")=Vq by left];dsimp only;rw[VU,show(("once":Str)== "acts")=Vq by left];dsimp only;rw[VU,show(("once":Str)== "waiting")=Vq by left];dsimp only;rw[Yp]
def NT:(vo b s).lookup ("sent":Str)=R (.rf 2):=by ext vo;rw[VU,show(("sent":Str)== "bed")=Vq by left];dsimp only;rw[VU,show(("sent":Str)== "acts")=Vq by left];dsimp only;rw[VU,show(("sent":Str)== "waiting")=Vq by left];dsimp only;rw[VU,show(("sent":Str)== "once")=Vq by left];dsimp only;rw[Yp]
def Ug(m:Str):Bool:=(m== "bed"||m== "acts"||m== "waiting"||m== "once"||m== "sent")==Vq
def Sc(h:Ug m=P):(vo b s).lookup m=M:=by unfold Ug at h;simp only[beq_iff_eq,ae7]at h;let((((l,j),g),f),e):=h;ext vo;rw[VU,l];dsimp only;rw[VU,j];dsimp only;rw[VU,g];dsimp only;rw[VU,f];dsimp only;rw[VU,e];rfl
theorem qv(h:ρ[i]?=R (R (.rf 0))):bC "Hand" "bed" (aC i) ρ (dI b s sn Y J)=.ok (.fz (bD b)) (dI b s sn Y J):=i7 (b3 h) W QF
theorem iQ(h:ρ[i]?=R (R (.rf 0))):bC "Hand" "acts" (aC i) ρ (dI b s sn Y J)=.ok (.rf 1) (dI b s sn Y J):=i7 (b3 h) W Nc
theorem cy(h:ρ[i]?=R (R (.rf 0))):bC "Hand" "waiting" (aC i) ρ (dI b s sn Y J)=.ok (.fz (jL s.wt)) (dI b s sn Y J):=i7 (b3 h) W MR
theorem ED(h:ρ[i]?=R (R (.rf 0))):bC "Hand" "once" (aC i) ρ (dI b s sn Y J)=.ok (.fz (rc s.oc)) (dI b s sn Y J):=i7 (b3 h) W N3
theorem wE(h:ρ[i]?=R (R (.rf 0))):bC "Hand" "sent" (aC i) ρ (dI b s sn Y J)=.ok (.rf 2) (dI b s sn Y J):=i7 (b3 h) W NT
def Hg(w:Wq):fS "waiting" (.fz (jL w)) (vo b s)=vo b {s with wt:=w}:=by ext vo;ext fS;rw[av (by left)];ext fS;rw[av (by left)];ext fS;rw[ag W]
def KB(o:br Int):fS "once" (.fz (rc o)) (vo b s)=vo b {s with oc:=o}:=by ext vo;ext fS;rw[av (by left)];ext fS;rw[av (by left)];ext fS;rw[av (by left)];ext fS;rw[ag W]
theorem my(w:Wq)(h:ρ[i]?=R (R (.rf 0)))(e:o ρ Z=.ok (.fz (jL w)) (dI b s sn Y J)):gx "Hand" "waiting" (aC i) o ρ Z=.ok (.nx ρ) (dI b {s with wt:=w} sn Y J):=
 (pL e (b3 h) W (by show Vl W)).trans (by rw[Hg];rfl)
theorem Dw(o:br Int)(h:ρ[i]?=R (R (.rf 0)))(e:C ρ Z=.ok (.fz (rc o)) (dI b s sn Y J)):gx "Hand" "once" (aC i) C ρ Z=.ok (.nx ρ) (dI b {s with oc:=o} sn Y J):=
 (pL e (b3 h) W (by show Vl W)).trans (by rw[KB];rfl)
def cD(e:HS b p Z)(hm:Ug m=P)(h:ρ[i]?=R (R (.rf 0)))(d:fa ρ Z=.ok xs Z)(c:(SV.rf 0::xs).length=n)(f:F (.rf 0::xs) Z=.ok x o):bp "Hand" m F n (aC i) fa ρ Z=.ok x o:=by let(Y,J,g,rfl):=e;show CF (b3 h) W (Sc hm) d c f
def GG(Y:G (Nat×Mn)):(Y.map lf).map (·.2)=((Y.map (·.2)).map mD).map SV.fz:=by rw[Wt,Wt,Wt];rfl
def AK(ac:Ac):Prop:=∀k a,ac k=R a->k<5/\LB a
def G2(f:HS b p Z)(g:AK p.1.ac)(d:LB a):∃c,b6 [.rf 0,.fz (mD a)] Z=.ok (.fz (.bool (pd p.1.ac a))) c/\HS b p c:=by
 let(Y,J,e,rfl):=f;let j:pd p.1.ac a=decide (a∈Y.map (·.2)):=decide_eq_decide.mpr (e.map (·.2)).symm.mem_iff;let lb:∀m∈Y.map (·.2),LB m:=λm hm=>by let(q,h,rfl):=VX.mp hm;show(g _ _ ((mh e).mp h).2).2
 show#[dI b p.1 p.2 Y (J++[.lst ((Y.map lf).map (·.2))]),?_,Y,_,e,W];rw[j];show kA W (jS (cV (ai (aj W)) (Ml (iQ W) W) (BM W (eZ (by rw[GG];show bc)) (MU d lb))))
theorem D1(f:sn.length<1000)(h:ρ[i]?=R (R (.rf 0)))(e:o ρ (dI b s sn Y J)=.ok (.fz (iO (c,d))) (dI b s sn Y J)):nZ (bC "Hand" "sent" (aC i)) o ρ (dI b s sn Y J)=.ok (.fz .none) (dI b s (sn++[(c,d)]) Y J):=
 (wV (wE h) W e W (by rw[Vj,Vj];ext)).trans (by ext dI;rw[VY,VY];rfl)
def sT(e:Y.Perm (g9 s.ac))(h:k<5)(o:ρ[0]?=R (R (.rf 0)))(n:ρ[1]?=R (R (.fz (nd k))))(m:ρ[2]?=R (R (.fz (mD a)))):∃c:G (Nat×Mn),c.Perm (g9 (k9 s.ac k (R a)))/\yY (bC "Hand" "acts" (aC 0)) (ah (af 1)) (ah (af 2)) ρ (dI b s sn Y J)=.ok (.nx ρ) (dI b {s with ac:=k9 s.ac k (R a)} sn c J):=by let(c,l,j):=NY e h;let g:af 1 (cj ρ)=.ok (.fz (nd k),cj ρ):=aj (by ext cj;rw[Vx,n];rfl);let f:af 2 (cj ρ)=.ok (.fz (mD a),cj ρ):=aj (by ext cj;rw[Vx,m];rfl);show#[c,j,(NL (ai f) (iQ o) (ai g) W W (by rw[Vj];let:=JM e;ext)).trans ?_];rw[l];rfl
def rX(m:HS b p Z)(w:AK p.1.ac)(x:LB a)(n:k<5)(v:p.2.length<1000):∃d,bL [.rf 0,.fz (nd k),.fz (mD a)] Z=.ok (.fz .none) d/\HS b (gM p k a) d:=by
 let e0:=rh a;let u:=mQ a;cases q:a.isL with
 |false=>
  let(Y,J,h,rfl):=m;rw[q]at u;let(f,j,y):=sT (ρ:=[R (.rf 0),R (.fz (nd k)),R (.fz (mD a))]) h n W W W;show#[_,pz W (dG (hG (iV (bJ (by ext:0))) gU) y),f,J,j,?_];let:uK p.1.ac a=[]:=by ext a<;>first|rfl|ext q
  ext gM;rw[this,V2]
 |true=>
  rw[q]at u;let(z,j,l):=G2 m w x;let g:∀t,pd p.1.ac a=t->(oJ (bN (aW (aO dJ (aO bv (af 2) (~~~0)) (pC (.str "letter"))))) (yJ (b8 (bp "Hand" "has_act" b6 2 (aC 0) (aq (ah (af 2)) aV))))) [R (.rf 0),R (.fz (nd k)),R (.fz (mD a))] Z=.ok (!t) z:=λt e=>by rw[e]at j;show jX (bJ (by ext:0)) (xq (bj (cD m (by left) W (au (ai (aj W)) aR) W j)))
  let(Y,J,h,rfl):=l;cases C:pd p.1.ac a with
  |true=>
   let(f,r,o):=sT (ρ:=[R (.rf 0),R (.fz (nd k)),R (.fz (mD a))]) h n W W W;show#[_,pz W (dG (hG (g P C) gU) o),f,J,r,?_];let:uK p.1.ac a=[]:=by
    ext a<;>first|ext q|skip
    show(if pd p.1.ac _=P then _ else _)=_;rw[ag C]
   ext gM;rw[this,V2]
  |false=>
   ext a<;>first|ext q|skip
   rename_i c;let(f,r,o):=sT (ρ:=[R (.rf 0),R (.fz (nd k)),R (.fz (mD (.V6 c)))]) (sn:=p.2++[(c,P)]) h n W W W;let A:bv (mD (.V6 c)) (.int 1)=R (.fz (.str (ji c))):=jp;show#[_,pz W (dG (fR (g Vq C) (jE (D1 v W (ai (show _=Res.ok (PV.fz (.tuple [.str (ji c),.str "down"]),_) by ext:0))))) o),f,J,r,?_];let:uK p.1.ac (.V6 c)=[(c,P)]:=by show(if pd p.1.ac _=P then _ else _)=_;rw[av (by rw[C];simp)]
   ext gM;rw[this]
end
end STP
namespace STP
open PySem L2 L3 L10
def VA(a:Int):Mn->Prop
 |.V6 c=>c<26
 |.Yu n=>1<=n/\n<a
 |.none=>True
 |_=>False
def VA.lb(h:VA nL m):LB m:=by
 cases m with
 |V6 c=>show h
 |tap c n=>show h.elim
 |_=>trivial
structure SA(b:Bd)(s:X6):Prop where
 ac:∀k a,s.ac k=R a->(k:Int)<b.n/\VA b.ls.length a
 oc:∀o,s.oc=R o->1<=o/\o<b.ls.length
structure WV(b:Bd)(ac:Ac)(ks:G Nat)(g:Int)(w:br (Nat×Int)):Prop where
 ne:ks≠[]
 nd:ks.Nodup
 kn:∀k∈ks,(k:Int)<b.n
 kf:∀k∈ks,ac k=M
 g0:0<=g
 tp:∀c n,w=R (c,n)->c<26/\(1<=n/\n<b.ls.length)/\ks.length=1
 ch:w=M->∀k∈ks,EE (b.ls.headD []) k=P
structure SW(b:Bd)(s:X6):Prop where
 sa:SA b s
 wt:∀ks g w,s.wt=R (ks,g,w)->WV b s.ac ks g w/\g<b.wt
def Cq{c:G Nat}(hd:c.Nodup)(h:∀k∈c,k<n):c.length<=n:=by rw[<-De c];let b:=(oK c).nodup_iff.mpr hd;show NH (((uI c).and b).imp λh=>by ext) λk a=>h k ((oK c).mem_iff.mp a)
section
variable{b:Bd}(Z:VB b){s:X6}{p:X6×Sn}{Y:bg Nat}{g:Int}{w:br (Nat×Int)}{X:Ac}{k:Nat}{a:Mn}
include Z
theorem WV.len(h:WV b X Y g w):Y.length<=5:=Cq h.nd λk e=>by let:=h.kn k e;let:=Z.n5;ext
omit Z in
theorem WV.amS(h:WV b X Y g w):1<=Y.length:=List.length_pos_iff.mpr h.ne
theorem SA.ak(h:SA b s):AK s.ac:=λk a e=>by let:=h.ac k a e;let:=Z.n5;show#[by ext,(h.ac k a e).2.lb]
omit Z in
theorem SA.cm(h:SA b p.1)(f:(k:Int)<b.n)(ha:VA b.ls.length a):SA b (gM p k a).1:=by
 refine⟨λj x e=>?_,h.oc⟩;by_cases z:j=k
 .subst z;have i:lD a=lD x:=(fQ (ac:=p.1.ac) (k:=j) (o:=lD a)).symm.trans e;cases i;exact⟨f,ha⟩
 .exact h.ac j x ((ib z).symm.trans e)
omit Z in
theorem SA.gg(h:SA b p.1):SA b (go p k).1:=by
 unfold go;split
 .refine⟨λj x e=>?_,h.oc⟩
  by_cases z:j=k
  .subst z;exact a6 ((fQ (ac:=p.1.ac) (k:=j) (o:=Vg)).symm.trans e) (by simp)
  .exact h.ac j x ((ib z).symm.trans e)
 .exact h
omit Z in
theorem sQ:(gM p k a).2.length<=p.2.length+1:=by
 show(p.2++uK p.1.ac a).length<=_;rw[Vs];have:(uK p.1.ac a).length<=1:=by
  cases a with
  |V6 c=>show(if _ then _ else _:Sn).length<=1;split<;>simp
  |_=>simp[uK]
 ext
omit Z in
theorem Fe(e:bg (Nat×Mn)):∀p:X6×Sn,(jr p e).2.length<=p.2.length+e.length:=by
 induction e with
 |nil=>exact λp=>Vy _
 |cons q r f=>intro p;have i:=f (gM p q.1 q.2);have h:=sQ (p:=p) (k:=q.1) (a:=q.2);show(jr (gM p q.1 q.2) r).2.length<=_;rw[VI];ext
omit Z in
theorem SA.cms(e:bg (Nat×Mn)):∀{p:X6×Sn},SA b p.1->(∀q∈e,(q.1:Int)<b.n/\VA b.ls.length q.2)->SA b (jr p e).1/\(jr p e).1.wt=p.1.wt/\(jr p e).1.oc=p.1.oc:=by
 induction e with
 |nil=>exact λh _=>⟨h,rfl,rfl⟩
 |cons q r j=>intro p h f;have i:=f q Vn;exact j (h.cm i.1 i.2) λx l=>f x (Vr _ l)
def RG(h:EE (b.ls.headD []) k=P):∃c,mAt b 0 k=.V6 c:=by
 let i:=Z.l1;obtain⟨f,r,e⟩:∃f r,b.ls=f::r:=by
  cases q:b.ls with
  |nil=>rw[q]at i;ext i
  |cons l r=>show#[l,r,W]
 unfold EE at h;ext mAt;rw[e]at h⊢;rw[adT,aaf];rw[List.headD_cons]at h;cases q:f[k]? with
 |none=>rw[q]at h;ext h
 |some m=>
  rw[q]at h;cases m with
  |V6 c=>show#[c,W]
  |_=>ext h
def LC(f:(k:Int)<b.n)(h:EE (b.ls.headD []) k=P):VA b.ls.length (mAt b 0 k):=by let i:=Z.l1;let(c,e):=RG Z h;let:=AH Z (L:=0) () f;rw[e]at this⊢;show this
def QK(h:WV b X Y g M):∀m∈KJ b Y,VA b.ls.length m:=by
 intro m hm;unfold KJ at hm;split at hm
 .rename_i c f
  rcases VG.mp hm with rfl|hm
  .show(Z.vc c (adj f)).2.2.2
  .rw[(List.mem_replicate.mp hm).2];trivial
 .let(j,e,rfl):=VX.mp hm;show LC Z (h.kn j e) (h.ch W j e)
def xh(h:WV b X Y g w):∀q∈Y.zip (iu b Y w),(q.1:Int)<b.n/\VA b.ls.length q.2:=by
 intro q f;let e:=ZE f;show#[h.kn _ e.1,?_];cases w with
 |none=>show QK Z h _ e.2
 |some i=>let(c,n):=i;rw[Vz.mp e.2];show(h.tp c n W).2.1
def WD(b:Bd)(s:X6):Prop:=∀Y g w,s.wt=R (Y,g,w)->WV b s.ac Y g w
def j8(h:SA b p.1)(i:WD b p.1):SW b (cQ b p).1/\(cQ b p).1.wt=M/\(cQ b p).2.length<=p.2.length+5/\(cQ b p).1.oc=p.1.oc:=by
 ext cQ;split
 .rename_i q;show#[#[h,λY g w e=>by rw[q]at e;ext e],q,agW _ _,W]
 .rename_i Y g w q
  let v:=i Y g w q;let(l,f,j):=SA.cms (Y.zip (iu b Y w)) (p:=({p.1 with wt:=M},p.2)) #[h.ac,h.oc] (xh Z v);show#[#[l,λ_ _ _ e=>?_],f,?_,j]
  .rw[f]at e;ext e
  .let:=Fe (Y.zip (iu b Y w)) ({p.1 with wt:=M},p.2);let m:=v.len Z;rw[agX]at this;let:(jr ({p.1 with wt:=M},p.2) (Y.zip (iu b Y w))).2.length<=p.2.length+min Y.length (iu b Y w).length:=this;ext
omit Z in
theorem CL:∀(l:bg Int) (m:br Int),l.foldl m9 m=m\/∃x∈l,l.foldl m9 m=lD x
 |[],m=>.inl rfl
 |x::r,m=>by
  rw[aax];rcases CL r (m9 m x)with h|⟨y,hy,h⟩
  .rw[h]
   cases m with
   |none=>exact .inr ⟨x,Vn,rfl⟩
   |some z=>
    show lD (if x>z then x else z)=lD z\/_;split
    .exact .inr ⟨x,Vn,by show lD (if x>z then x else z)=_;rename_i q;rw[ag q]⟩
    .exact .inl rfl
  .exact .inr ⟨y,Vr _ hy,h⟩
omit Z in
theorem Er:∀(l:bg Int) (m:br Int),(∀x∈l,∃y,l.foldl m9 m=lD y/\x<=y)/\∀z,m=lD z->∃y,l.foldl m9 m=lD y/\z<=y
 |[],m=>⟨λx i=>(by cases i),λz h=>⟨z,h,aa9 _⟩⟩
 |x::r,m=>by
  rw[aax];obtain⟨q,o⟩:=Er r (m9 m x);have n:∃z,m9 m x=lD z/\x<=z/\∀u,m=lD u->u<=z:=by
   cases m with
   |none=>exact⟨x,rfl,aa9 _,λu h=>by cases h⟩
   |some u=>
    refine⟨if x>u then x else u,rfl,?_,λv h=>?_⟩
    .split<;>ext
    .cases h;split<;>ext
  obtain⟨z,A,C,t⟩:=n;obtain⟨y,f,B⟩:=o z A;refine⟨λv e=>?_,λu j=>⟨y,f,by have:=t u j;ext⟩⟩;rcases VG.mp e with rfl|e
  .exact⟨y,f,by ext⟩
  .exact q v e
omit Z in
theorem DW{X:Ac}{n:Int}:n∈(g9 X).filterMap OL↔∃k,k<5/\X k=lD (.Yu n):=by
 rw[ZQ];constructor
 .rintro⟨⟨k,m⟩,f,e⟩
  have h:=fZ.mp f;cases m with
  |Yu x=>have:x=n:=VR e;subst this;exact⟨k,h.1,h.2⟩
  |_=>cases e
 .rintro⟨k,f,e⟩;exact⟨(k,.Yu n),fZ.mpr ⟨f,e⟩,rfl⟩
def MC(h:SA b s):0<=ve s.ac/\ve s.ac<b.ls.length/\(∀k n,s.ac k=R (.Yu n)->n<=ve s.ac)/\(ve s.ac=0\/∃k,s.ac k=R (.Yu (ve s.ac))):=by
 let o:=Z.l1;let q:=Z.n5;ext ve;generalize hm:((g9 s.ac).filterMap OL).foldl m9 M=m;let j:=(Er ((g9 s.ac).filterMap OL) M).1;let f:=CL ((g9 s.ac).filterMap OL) M;rw[hm]at j f;let up:∀k n,s.ac k=R (.Yu n)->∃y,m=R y/\n<=y:=λk n e=>j n (DW.mpr #[k,by let:=(h.ac k _ e).1;ext,e]);cases m with
 |none=>show#[aa9 _,by show(0:Int)<_;ext,λk n e=>?_,.inl W];let(y,i,_):=up k n e;ext i
 |some x=>
  rcases f with f|⟨y,r,f⟩
  .ext f
  .ext f;let(k,_,e):=DW.mp r;let:=(h.ac k _ e).2;let:1<=x/\x<b.ls.length:=this;show#[by show 0<=x;ext,by show x<_;ext,λk n e=>?_,.inr #[k,e]];let(y,i,l):=up k n e;ext i;show l
def Cj(h:SA b s):0<=lay s.ac s.oc/\lay s.ac s.oc<b.ls.length:=by
 cases q:s.oc with
 |none=>let:=MC Z h;show#[this.1,this.2.1]
 |some o=>let:=h.oc o q;show#[by show 0<=o;ext,this.2]
end
section
variable{b:Bd}{s:X6}{U:Sn}{Y:bg (Nat×Mn)}{J:bh}{X:bH}{i:Nat}{Z:bh}{p:X6×Sn}{k:Nat}{a:Mn}
def Ch(h:f x=R y):a8 f [x]=R [y]:=by ext a8;rw[h];rfl
def gB:(l++[c]).set l.length o=l++[o]:=by simp
def pN(f:HS b p Z):∃c,bV [.rf 0] Z=.ok (.fz (cN p.1)) c/\HS b p c:=by
 let(Y,J,e,rfl):=f;let h:=JM e;let j:kX (vW (bC "Hand" "acts" (aC 0))) [R (.rf 0)] (dI b p.1 p.2 Y J)=.ok ((g9 p.1.ac).map λq=>nd q.1) (dI b p.1 p.2 Y (J++[.dead])):=by
  show(x9 (ds:=(g9 p.1.ac).map λq=>nd q.1) (Lq (iQ W) W (HF e) (by rw[Vj];ext)) ?_).trans ?_
  .rw[GZ e];show bc.trans ?_;rw[Wt,Wt];rfl
  .rw[gB];rfl
 let l:dh (gr 0) g6 (mY (aq (ah (af 0)) (aq (vB (bC "Hand" "acts" (aC 1)) (ah (af 0))) aV))) ((g9 p.1.ac).map λq=>nd q.1) [M,R (.rf 0)] (dI b p.1 p.2 Y (J++[.dead])) []=.ok (((g9 p.1.ac).map pD).map .fz) (dI b p.1 p.2 Y (J++[.dead])):=by show(ke (λq:Nat×Mn=>nd q.1) (λq=>.fz (pD q)) _ (λX=>∃o,X=[o,R (.rf 0)]) (g9 p.1.ac) _ [] #[M,W] (by let:=xP p.1.ac;rw[Xb];ext) ?_).trans (by rw[Wt];rfl);rintro q g X ⟨o,rfl⟩;let hm:=fZ.mp g;show#[[R (.fz (nd q.1)),R (.rf 0)],W,W,?_,_,W];show yc (au (ai (aj W)) (au (Mh (iQ W) (ai (aj W)) W W (by rw[pB e hm.1,hm.2];rfl)) aR)) (Vl W)
 let tp:rR iJ (aq (kT 1 [0] (kX (vW (bC "Hand" "acts" (aC 0)))) (gr 0) g6 (mY (aq (ah (af 0)) (aq (vB (bC "Hand" "acts" (aC 1)) (ah (af 0))) aV)))) aV) [R (.rf 0)] (dI b p.1 p.2 Y J)=.ok (.fz (.tuple ((g9 p.1.ac).map pD))) (dI b p.1 p.2 Y (J++[.dead]++[.lst (((g9 p.1.ac).map pD).map .fz)])):=
  uu (au (oX j l) aR) (Ch (eZ bc)) W
 show#[_,kA W (jS (yc (au tp (au (cy W) (au (ED W) aR))) (Vl W))),Y,_,e,W]
def Jy(h:HS b p Z):cH [.rf 0,.fz (nd k)] Z=.ok (.fz (.bool (isW p.1.wt k))) Z:=by
 let(Y,J,l,rfl):=h;show kA W (jS ?_);cases q:p.1.wt with
 |none=>
  let e:pc (jL p.1.wt) .none=R (.fz (.bool Vq)):=by rw[q];rfl
  show EY (bj (cV (cy W) (ai aI) (b9 e)))
 |some x=>
  let(f,g,w):=x;let e:pc (jL p.1.wt) .none=R (.fz (.bool P)):=by rw[q];rfl
  let j:bv (jL p.1.wt) (.int 0)=R (.fz (.tuple (bZ f))):=by rw[q];show iL
  show qh (bj (cV (cy W) (ai aI) (b9 e))) (cV (ai (aj W)) (dk (cy W) (ai aI) j) (b9 (wc _ _)))
def R9(F:HS b p Z)(t:AK p.1.ac)(S:p.1.ac k=R a)(G:p.2.length<1000):∃D,jV [.rf 0,.fz (nd k)] Z=.ok (.fz .none) D/\HS b (go p k) D:=by
 let(Y,J,B,rfl):=F;let H:=(t k a S).1;let lb:=(t k a S).2;let(f,L,w):=Hr B
 let m:Ad (bC "Hand" "acts" (aC 0)) (ah (af 1)) [R (.rf 0),R (.fz (nd k)),Vg] (dI b p.1 p.2 Y J)=.ok (.fz (mD a)) (dI b {p.1 with ac:=k9 p.1.ac k Vg} p.2 f J):=
  (M0 (iQ W) W (ai (aj W)) W W (by rw[pB B H,S];rfl)).trans (by rw[L];rfl)
 let I:go p k=({p.1 with ac:=k9 p.1.ac k Vg},p.2++QA (k9 p.1.ac k Vg) a):=by ext go;rw[S]
 rw[I];let o:AK (k9 p.1.ac k Vg):=λj x e=>by
  by_cases z:j=k
  .subst z;rw[fQ]at e;ext e
  .rw[ib z]at e;show t j x e
 let e0:=rh a;let N:=mQ a;let h:aW (aO dJ (aO bv (af 2) (~~~0)) (pC (.str "letter"))) (cj [R (.rf 0),R (.fz (nd k)),R (.fz (mD a))])=.ok (a.isL,cj [R (.rf 0),R (.fz (nd k)),R (.fz (mD a))]):=by ext:0
 let v:ZM (cM (oJ (bN (aW (aO dJ (aO bv (af 2) (~~~0)) (pC (.str "letter"))))) (yJ (b8 (bp "Hand" "has_act" b6 2 (aC 0) (aq (ah (af 2)) aV))))) (b7 (nZ (bC "Hand" "sent" (aC 0)) (ah (ci {aO bv (af 2) (~~~1),pC (.str "up")})))) cU [R (.rf 0),R (.fz (nd k)),R (.fz (mD a))] (dI b {p.1 with ac:=k9 p.1.ac k Vg} p.2 f J)) (λ_ D=>SV.fz .none=.fz .none/\HS b ({p.1 with ac:=k9 p.1.ac k Vg},p.2++QA (k9 p.1.ac k Vg) a) D) (λ_ _=>False) (λr D=>r=.fz .none/\HS b ({p.1 with ac:=k9 p.1.ac k Vg},p.2++QA (k9 p.1.ac k Vg) a) D):=by
  cases q:a.isL with
  |false=>
   rw[q]at h;show fq (iV (bJ h)) (mW #[W,f,J,w,?_]);let:QA (k9 p.1.ac k Vg) a=[]:=by ext a<;>first|rfl|ext q
   rw[this,V2]
  |true=>
   rw[q]at h;let(C,u,n):=G2 (p:=({p.1 with ac:=k9 p.1.ac k Vg},p.2)) #[f,J,w,W] o lb;let g:∀l,pd (k9 p.1.ac k Vg) a=l->(oJ (bN (aW (aO dJ (aO bv (af 2) (~~~0)) (pC (.str "letter"))))) (yJ (b8 (bp "Hand" "has_act" b6 2 (aC 0) (aq (ah (af 2)) aV))))) [R (.rf 0),R (.fz (nd k)),R (.fz (mD a))] (dI b {p.1 with ac:=k9 p.1.ac k Vg} p.2 f J)=.ok (!l) C:=λl e=>by
    let u:b6 [.rf 0,.fz (mD a)] (dI b {p.1 with ac:=k9 p.1.ac k Vg} p.2 f J)=.ok (.fz (.bool l)) C:=by rw[<-e];show u
    show jX (bJ h) (xq (bj (cD (p:=({p.1 with ac:=k9 p.1.ac k Vg},p.2)) #[f,J,w,W] (by left) W (au (ai (aj W)) aR) W u)))
   let(y,E,A,K):=n;rw[K]at g;cases Q:pd (k9 p.1.ac k Vg) a with
   |true=>
    show fq (g P Q) (mW #[W,y,E,A,?_]);let:QA (k9 p.1.ac k Vg) a=[]:=by
     ext a<;>first|ext q|skip
     show(if pd (k9 p.1.ac k Vg) _=P then _ else _)=_;rw[ag Q]
    rw[this,V2]
   |false=>
    ext a<;>first|ext q|skip
    rename_i c;let M:bv (mD (.V6 c)) (.int 1)=R (.fz (.str (ji c))):=jp;show uf (g Vq Q) (jB (D1 (d:=Vq) G W (ai (show _=Res.ok (PV.fz (.tuple [.str (ji c),.str "up"]),_) by ext:0))) #[W,y,E,A,?_]);let:QA (k9 p.1.ac k Vg) (.V6 c)=[(c,Vq)]:=by show(if pd (k9 p.1.ac k Vg) _=P then _ else _)=_;rw[av (by rw[Q];simp)]
    rw[this]
 show jQ W (kF m W v)
end
section
variable{b:Bd}(Y:VB b){s:X6}{S:Sn}{U:bg (Nat×Mn)}{J:bh}{T:bH}{i:Nat}{Z:bh}{p:X6×Sn}{k:Nat}{a:Mn}{X:bg Nat}{g:Int}{w:br (Nat×Int)}
theorem J7:∀(X:G Nat) (e:G Mn),lL (bZ X) (e.map mD)=(X.zip e).map pD
 |[],_=>by cases ‹G Mn›<;>rfl
 |_::_,[]=>rfl
 |k::r,a::t=>by show Vo.tuple [nd k,mD a]::lL (bZ r) (t.map mD)=_;rw[J7 r t];rfl
def BG(h:∀c n,w=R (c,n)->c<26):dJ (ud w) (.tuple [.str "chord"])=R (.fz (.bool w.isNone))/\nk (ud w) (.tuple [.str "chord"])=R (.fz (.bool w.isSome)):=by
 cases w with
 |none=>
  let l:mK (.tuple [.str "chord"])=P:=by left
  let j:Vo.canLay0 (.tuple [.str "chord"])=P:=by left
  let f:Vo.eqv (.tuple [.str "chord"]) (.tuple [.str "chord"])=P:=by left
  constructor
  .show(if(mK (.tuple [.str "chord"])&&Vo.canLay0 (.tuple [.str "chord"]))=P then R (RV.fz (.bool (Vo.eqv (.tuple [.str "chord"]) (.tuple [.str "chord"]))))else M)=_;rw[l,j,f];rfl
  .show(if(mK (.tuple [.str "chord"])&&Vo.canLay0 (.tuple [.str "chord"]))=P then R (RV.fz (.bool (!Vo.eqv (.tuple [.str "chord"]) (.tuple [.str "chord"]))))else M)=_;rw[l,j,f];rfl
 |some m=>
  let(c,n):=m;let lb:LB (.tap c n):=h c n W;let e:Vo.eqv (mD (.tap c n)) (.tuple [.str "chord"])=Vq:=by show(decide (("tap":Str)= "chord")&&Vo.eqvAll [.str (ji c),.int n] [])=Vq;rw[show decide (("tap":Str)= "chord")=Vq by left];rfl
  constructor
  .show(if(mK (mD (.tap c n))&&Vo.canLay0 (.tuple [.str "chord"]))=P then R (RV.fz (.bool (Vo.eqv (mD (.tap c n)) (.tuple [.str "chord"]))))else M)=_;rw[GI lb,show Vo.canLay0 (.tuple [.str "chord"])=P by left,e];rfl
  .show(if(mK (mD (.tap c n))&&Vo.canLay0 (.tuple [.str "chord"]))=P then R (RV.fz (.bool (!Vo.eqv (mD (.tap c n)) (.tuple [.str "chord"]))))else M)=_;rw[GI lb,show Vo.canLay0 (.tuple [.str "chord"])=P by left,e];rfl
theorem z6(X:G Nat)(w:br (Nat×Int))(f:G Mn):∀(h:G (Nat×Mn)) (p:X6×Sn) (Z:bh) (n m:br SV),HS b p Z->AK p.1.ac->(∀q∈h,q.1<5/\LB q.2)->p.2.length+h.length<1000->
  ∃c d,mi (MH 2 (pQ (gr 4) (pQ (gr 5) A8))) (b7 (bp "Hand" "come" bL 3 (aC 0) (aq (ah (af 4)) (aq (ah (af 5)) aV)))) (h.map pD) [R (.rf 0),R (.fz (.tuple (bZ X))),R (.fz (ud w)),R (.fz (.list (f.map mD))),n,m] Z=.ok (.nx c) d/\HS b (jr p h) d
 |[],p,Z,n,m,L,_,_,_=>#[_,Z,W,L]
 |q::r,p,Z,n,m,L,Q,N,hl=>by
  rw[VI]at hl;let l:=N q Vn;let(v,C,t):=rX L Q l.2 l.1 ();let u:AK (gM p q.1 q.2).1.ac:=λj x e=>by
   by_cases z:j=q.1
   .let E:R q.2=R x:=by rw[z]at e;show(fQ).symm.trans e
    ext E;show#[by rw[z];show l.1,l.2]
   .show Q j x ((ib z).symm.trans e)
  let:=sQ (p:=p) (k:=q.1) (a:=q.2);let(c,d,B,o):=z6 X w f r (gM p q.1 q.2) v (R (.fz (nd q.1))) (R (.fz (mD q.2))) t u (λx A=>N x (Vr _ A)) ();show#[c,d,?_,o]
  let y:b7 (bp "Hand" "come" bL 3 (aC 0) (aq (ah (af 4)) (aq (ah (af 5)) aV))) [R (.rf 0),R (.fz (.tuple (bZ X))),R (.fz (ud w)),R (.fz (.list (f.map mD))),R (.fz (nd q.1)),R (.fz (mD q.2))] Z=.ok (.nx [R (.rf 0),R (.fz (.tuple (bZ X))),R (.fz (ud w)),R (.fz (.list (f.map mD))),R (.fz (nd q.1)),R (.fz (mD q.2))]) v:=
   jE (cD L (by left) W (au (ai (aj W)) (au (ai (aj W)) aR)) W C)
  show((b7 (bp "Hand" "come" bL 3 (aC 0) (aq (ah (af 4)) (aq (ah (af 5)) aV))) [R (.rf 0),R (.fz (.tuple (bZ X))),R (.fz (ud w)),R (.fz (.list (f.map mD))),R (.fz (nd q.1)),R (.fz (mD q.2))] Z).bind _)=_;rw[y,fm];show B
include Y
def mw(u:HS b p Z)(o:SA b p.1)(f:p.1.wt=R (X,g,w))(v:WV b p.1.ac X g w)(K:p.2.length<900):∃d,cB [.rf 0] Z=.ok (.fz .none) d/\HS b (cQ b p) d:=by
 let(U,J,z,rfl):=u;let e0:bv (jL p.1.wt) (.int 0)=R (.fz (.tuple (bZ X))):=by rw[f];show iL
 let F:bv (jL p.1.wt) (.int 2)=R (.fz (ud w)):=by rw[f];show sV
 let r:=v.len Y;let t:=v.amS;let E:=BG λc n h=>(v.tp c n h).1;let C:cQ b p=jr ({p.1 with wt:=M},p.2) (X.zip (iu b X w)):=by ext cQ;rw[f]
 rw[C];let m:aW (aO dJ (af 2) (pC (.tuple [.str "chord"]))) (cj [R (.rf 0),R (.fz (.tuple (bZ X))),R (.fz (ud w)),M,M,M])=.ok (w.isNone,cj [R (.rf 0),R (.fz (.tuple (bZ X))),R (.fz (ud w)),M,M,M]):=bO (aK (aj W) aI W W E.1) W;let l:pk (Rs (bN (aW (aO dJ (af 2) (pC (.tuple [(.str "chord")]))))) (j9 gA 2 (aq (bC "Hand" "bed" (aC 0)) (aq (ah (af 1)) aV))) (ah (dL {ci {pC (.str "layer"),aO bv (af 2) (~~~2)}}))) [R (.rf 0),R (.fz (.tuple (bZ X))),R (.fz (ud w)),M,M,M] (dI b {p.1 with wt:=M} p.2 U J)=.ok (.fz (.list ((iu b X w).map mD))) (dI b {p.1 with wt:=M} p.2 U (J++[.dead])):=by
  cases w with
  |none=>let H:=Pz Y t r v.kn;show(qU (K7 (bJ m) (xH (au (qv W) (au (ai (aj W)) aR)) W H)) (oQ bc)).trans (by rw[gB];rfl)
  |some G=>let(c,n):=G;let I:bv (ud (R (c,n))) (.int 2)=R (.fz (.int n)):=sV;show(qU (No (bJ m) (fx (show _=Res.ok (PV.ow [.tuple [.str "layer",.int n]],_) by ext:0))) (oQ bc)).trans (by rw[gB];rfl)
 let lp:∃e d,zy (ju (ze {af 1,af 3})) (MH 2 (pQ (gr 4) (pQ (gr 5) A8))) (b7 (bp "Hand" "come" bL 3 (aC 0) (aq (ah (af 4)) (aq (ah (af 5)) aV)))) [R (.rf 0),R (.fz (.tuple (bZ X))),R (.fz (ud w)),R (.fz (.list ((iu b X w).map mD))),M,M] (dI b {p.1 with wt:=M} p.2 U (J++[.dead]))=.ok (.nx e) d/\HS b (jr ({p.1 with wt:=M},p.2) (X.zip (iu b X w))) d:=by
  let L:=Y.n5;let(e,d,B,A):=z6 X w (iu b X w) (X.zip (iu b X w)) ({p.1 with wt:=M},p.2) (dI b {p.1 with wt:=M} p.2 U (J++[.dead])) M M #[U,_,z,W] (SA.ak Y #[o.ac,o.oc]) (λq y=>by
   let:=xh Y v q y;show#[by ext,this.2.lb]) (by
   rw[agX];show p.2.length+_<1000;ext)
  show#[e,d,?_,A];ext zy;rw[lM (xK (ao (aj W) (ao (aj W) aM)) W W W),fm,J7];show B
 let(e,d,lp,j):=lp;show#[d,pz (ρ1:=e) W ?_,j];show dG (wQ (dk (cy W) (ai aI) e0) W) (dG (wQ (dk (cy W) (ai aI) F) W) (dG (my M W (ai aI)) (dG (wQ l W) lp)))
omit Y in
theorem Mb{c:bg Nat×Nat}(h:c.2<26):Vo.canLay0 (gG c)=Vi:=by show(Vo.canLayAll0 (bZ c.1)&&(Vo.strOk (ji c.2)&&Vi))=Vi;rw[mF,nV h];rfl
omit Y in
theorem Qb:∀{cs:bg (bg Nat×Nat)},(∀c∈cs,c.2<26)->nk (.list (cs.map gG)) (.list [])=lD (.fz (.bool (!cs.isEmpty))):=by
 intro cs h;have j:∀cs:bg (bg Nat×Nat),(∀c∈cs,c.2<26)->Vo.canLayAll0 (cs.map gG)=Vi:=by
  intro cs
  induction cs with
  |nil=>exact λ_=>rfl
  |cons c r e=>intro h;show(Vo.canLay0 (gG c)&&Vo.canLayAll0 (r.map gG))=Vi;rw[Mb (h c Vn),e λx l=>h x (Vr _ l)];rfl
 have f:∀cs:bg (bg Nat×Nat),Vo.depthAll (cs.map gG)<=2:=by
  intro cs
  induction cs with
  |nil=>exact Wo _
  |cons c r e=>show max (Vo.depth (gG c)) (Vo.depthAll (r.map gG))<=2;refine alQ.mpr ⟨?_,e⟩;show max (Vo.depthAll (bZ c.1)+1) (max 0 0)+1<=2;rw[pK];decide
 show(if((Vo.canLayAll0 (cs.map gG)&&decide (Vo.depthAll (cs.map gG)+1<=64))&&Vi)=Vi then lD (RV.fz (.bool (!Vo.eqvAll (cs.map gG) [])))else Vg)=_;rw[j cs h,ax (show Vo.depthAll (cs.map gG)+1<=64 by have:=f cs;ext)];cases cs<;>rfl
theorem M4(h:c∈over b X):c.2<26:=(Y.vc c (Yn.mp h).1).2.2.2
omit Y in
theorem C0(h:X≠[])(e:X.length<=5):dC (.tuple (bZ X)) (.tuple [nd k])=lD (.fz (.tuple (bZ (X++[k])))):=by
 show(if bZ X≠[]/\(bZ X).length+1<=1000000 then lD (RV.fz (.tuple (bZ X++[nd k])))else Vg)=_;rw[ag ⟨by cases X with
  |nil=>exact a6 rfl h
  |cons x r=>simp[bZ],by rw[gu];ext⟩,Lw]
 rfl
def Di{d:dY}{Z1:bh}(e:∃U J,Z1=dI b s S U J)(l:T[0]?=R (R (.rf 0)))(f:X.length<=5)(h:d T Z1=.ok (.fz (.tuple (bZ X))) Z1):k7 nk (j9 bT 2 (aq (bC "Hand" "bed" (aC 0)) (aq d aV))) (ah (dL aB)) T Z1=.ok (.fz (.bool (!(over b X).isEmpty))) (Z1++[.lst (((over b X).map gG).map .fz)]++[.lst []]):=by let(U,J,rfl):=e;show cV (xH (ds:=[bD b,.tuple (bZ X)]) (au (qv l) (au h aR)) W (DU Y f)) (fx (ds:=[]) (ρ':=cj T) (sY aM W (Wo _))) ?_;show BM (eZ (jc bc)) (eZ (ds:=[]) bc) (Qb λc j=>M4 Y j)
def QL(m:HS b p Z)(sw:SW b p.1)(L:(k:Int)<b.n)(d:isW p.1.wt k=Vq):∃D,d7 [.rf 0,.fz (nd k)] Z=.ok (.fz (.bool (Ag b p.1 k))) D/\HS b p D:=by
 cases q:p.1.wt with
 |none=>
  let o:Ag b p.1 k=Vq:=by ext Ag;rw[q]
  rw[o];let(U,J,j,rfl):=m;let r:uZ (jL p.1.wt) .none=R (.fz (.bool P)):=by rw[q];rfl
  show#[_,kA W (p7 (fR (tL (bj (cV (cy W) (ai aI) (b9 r)))) (jS (ai aI)))),U,J,j,W]
 |some x=>
  let(X,g,w):=x;let v:=(sw.wt X g w q).1;let F:=v.len Y;let r:uZ (jL p.1.wt) .none=R (.fz (.bool Vq)):=by rw[q];rfl
  let E:bv (jL p.1.wt) (.int 2)=R (.fz (ud w)):=by rw[q];show sV
  let e0:bv (jL p.1.wt) (.int 0)=R (.fz (.tuple (bZ X))):=by rw[q];show iL
  let C:=(BG λc n h=>(v.tp c n h).1).2;cases w with
  |some N=>
   let o:Ag b p.1 k=Vq:=by ext Ag;rw[q]
   rw[o];let(U,J,j,rfl):=m;show#[_,kA W (p7 (fR (j4 (bj (cV (cy W) (ai aI) (b9 r))) (tL (bj (cV (dk (cy W) (ai aI) E) (ai aI) (b9 C))))) (jS (ai aI)))),U,J,j,W]
  |none=>
   let o:Ag b p.1 k=(decide (lay p.1.ac p.1.oc=0)&& !(over b (X++[k])).isEmpty):=by ext Ag;rw[q]
   rw[o];let(A,I,l):=pN m;let f:(FD (b8 (k7 uZ (bC "Hand" "waiting" (aC 0)) (ah (pC .none)))) (FD (b8 (k7 nk (jU (bC "Hand" "waiting" (aC 0)) (ah (~~~2))) (ah (pC (.tuple [(.str "chord")]))))) (b8 (k7 nk (j9 ez 1 (aq (bp "Hand" "stands" bV 1 (aC 0) aV) aV)) (ah (~~~0)))))) [R (.rf 0),R (.fz (nd k))] Z=.ok (!decide (lay p.1.ac p.1.oc=0)) A:=by
    let K:b8 (k7 nk (j9 ez 1 (aq (bp "Hand" "stands" bV 1 (aC 0) aV) aV)) (ah (~~~0))) [R (.rf 0),R (.fz (nd k))] Z=.ok (!decide (lay p.1.ac p.1.oc=0)) A:=
     bj (cV (Bo (au (cD m (by left) W aR W I) aR) W (zG p.1)) (ai aI) (b9 (on _ _)))
    let(U,J,j,rfl):=m;show j4 (bj (cV (cy W) (ai aI) (b9 r))) (j4 (bj (cV (dk (cy W) (ai aI) E) (ai aI) (b9 C))) K)
   by_cases B:lay p.1.ac p.1.oc=0
   .rw[ax B]at f⊢
    let(U,J,j,rfl):=l;let z:k∉X:=by rw[q]at d;show of_decide_eq_false d
    let t:(X++[k]).Nodup:=by rw[Zf];show#[v.nd,Wj.mpr #[Xh,Xv],λx u y G e=>z (by rw[<-Vz.mp G,<-e];show u)]
    let H:(X++[k]).length<=5:=Cq t λx u=>by
     let M:=Y.n5;rcases Wi.mp u with h|h
     .let:=v.kn x h;ext
     .rw[Vz.mp h];ext
    show#[_,kA W (dG (hG f gU) (jS (Di Y #[U,J,W] W H (cV (dk (cy W) (ai aI) e0) (ai (df (ao (aj W) aM) W (Vl W))) (b9 (C0 v.ne F)))))),U,_,j,W]
   .rw[aP B]at f⊢;show#[A,kA W (p7 (fR f (jS (ai aI)))),l]
end
section
variable{b:Bd}(Y:VB b){s:X6}{sn:Sn}{ps:bg (Nat×Mn)}{J:bh}{ρ:bH}{i:Nat}{Z:bh}{p:X6×Sn}{k:Nat}{a:Mn}{ks:bg Nat}{g:Int}{w:br (Nat×Int)}
include Y
def Rp(v:WV b p.1.ac ks g w)(c:k∉ks)(m:(k:Int)<b.n):(ks++[k]).Nodup/\(ks++[k]).length<=5:=by
 let f:(ks++[k]).Nodup:=by rw[Zf];show#[v.nd,Wj.mpr #[Xh,Xv],λx j y l e=>c (by rw[<-Vz.mp l,<-e];show j)]
 show#[f,Cq f λx j=>?_];let o:=Y.n5;rcases Wi.mp j with h|h
 .let:=v.kn x h;ext
 .rw[Vz.mp h];ext
def Cf(sw:SW b p.1)(m:(k:Int)<b.n)(C:p.1.ac k=M)(d:isW p.1.wt k=Vq)(hm:Ag b p.1 k=P):∃ks g,p.1.wt=R (ks,g,M)/\k∉ks/\WV b p.1.ac (ks++[k]) g M/\g<b.wt:=by
 unfold Ag at hm;split at hm
 .rename_i ks g q
  rw[VZ]at hm;let(v,o):=sw.wt ks g M q;let f:k∉ks:=by rw[q]at d;show of_decide_eq_false d
  let(l,z):=Rp Y v f m;show#[ks,g,q,f,#[by simp,l,λx e=>?_,λx e=>?_,v.g0,λc n h=>(by ext h),λ_ x e=>?_],o]
  .rcases Wi.mp e with h|h
   .show v.kn x h
   .rw[Vz.mp h];show m
  .rcases Wi.mp e with h|h
   .show v.kf x h
   .rw[Vz.mp h];show C
  .let j:=hm.2
   cases A:over b (ks++[k])with
   |nil=>rw[A]at j;ext j
   |cons c r=>
    let t:c∈over b (ks++[k]):=by rw[A];show Vn
    let(y,u):=Yn.mp t;let:=Xq.mp u x e;show(Y.vc c y).2.2.1 x (a5 this)
 .ext hm
def K9(t:HS b p Z)(sw:SW b p.1)(h:p.1.wt=R (ks,g,M))(v:WV b p.1.ac (ks++[k]) g M)(j:WV b p.1.ac ks g M)(u:p.2.length<900):∃d,dM [.rf 0,.fz (nd k)] Z=.ok (.fz .none) d/\HS b (pU b p k) d:=by
 let(ps,J,l,rfl):=t;let m:=v.len Y;let e0:bv (jL p.1.wt) (.int 0)=R (.fz (.tuple (bZ ks))):=by rw[h];show iL
 let C:bv (jL p.1.wt) (.int 1)=R (.fz (.int g)):=by rw[h];show jp
 let B:pU b p k=if(over b (ks++[k])).map (·.1.length)=[(ks++[k]).length]then cQ b ({p.1 with wt:=R (ks++[k],g,M)},p.2)else({p.1 with wt:=R (ks++[k],g,M)},p.2):=by ext pU;rw[h]
 let r:HS b ({p.1 with wt:=R (ks++[k],g,M)},p.2) (dI b {p.1 with wt:=R (ks++[k],g,M)} p.2 ps J):=#[ps,J,l,W];let E:dh (gr 0) g6 (ah (gq cT {aO bv (af 0) (~~~0)})) ((over b (ks++[k])).map gG) [M] (dI b {p.1 with wt:=R (ks++[k],g,M)} p.2 ps (J++[.dead])) []=.ok ((bZ ((over b (ks++[k])).map (·.1.length))).map .fz) (dI b {p.1 with wt:=R (ks++[k],g,M)} p.2 ps (J++[.dead])):=by
  show(ke gG (λc=>.fz (nd c.1.length)) _ (λρ=>∃o,ρ=[o]) (over b (ks++[k])) _ [] #[M,W] ?_ ?_).trans (by ext bZ;rw[Wt,Wt];rfl)
  .let:=aaL (λc:G Nat×Nat=>(ks++[k]).all λk=>decide (k∈c.1)) b.cs;let:=Y.c4;show 0+(over b (ks++[k])).length<=_;ext over;ext
  .rintro c _ ρ ⟨o,rfl⟩;let n:bv (gG c) (.int 0)=R (.fz (.tuple (bZ c.1))):=iL;show#[[R (.fz (gG c))],W,W,ai (fw (ao (aK (aj W) aI W W n) aM) W ((lw _).trans (by rw[gu]))),_,W]
 let A:kX (j9 bT 2 (aq (bC "Hand" "bed" (aC 0)) (aq (ah (af 2)) aV))) [R (.rf 0),R (.fz (nd k)),R (.fz (.tuple (bZ (ks++[k]))))] (dI b {p.1 with wt:=R (ks++[k],g,M)} p.2 ps J)=.ok ((over b (ks++[k])).map gG) (dI b {p.1 with wt:=R (ks++[k],g,M)} p.2 ps (J++[.dead])):=
  (x9 (xH (au (qv W) (au (ai (aj W)) aR)) W (DU Y m)) bc).trans (by rw[gB];rfl)
 let rt:dL {gq cT {af 2}} (cj [R (.rf 0),R (.fz (nd k)),R (.fz (.tuple (bZ (ks++[k]))))])=.ok (.ow (bZ [(ks++[k]).length]),cj [R (.rf 0),R (.fz (nd k)),R (.fz (.tuple (bZ (ks++[k]))))]):=by show sY (ao (fw (ao (aj W) aM) W ((lw _).trans (by rw[gu]))) aM) W (Vl W)
 let f:b8 (k7 dJ (kT 1 [] (kX (j9 bT 2 (aq (bC "Hand" "bed" (aC 0)) (aq (ah (af 2)) aV)))) (gr 0) g6 (ah (gq cT {aO bv (af 0) (~~~0)}))) (ah (dL {gq cT {af 2}}))) [R (.rf 0),R (.fz (nd k)),R (.fz (.tuple (bZ (ks++[k]))))] (dI b {p.1 with wt:=R (ks++[k],g,M)} p.2 ps J)=.ok (decide ((over b (ks++[k])).map (·.1.length)=[(ks++[k]).length])) (dI b {p.1 with wt:=R (ks++[k],g,M)} p.2 ps (J++[.dead])++[.lst ((bZ ((over b (ks++[k])).map (·.1.length))).map .fz)]++[.lst ((bZ [(ks++[k]).length]).map .fz)]):=
  bj (cV (oX A E) (fx rt) (BM (eZ (jc bc)) (eZ bc) (yx _ _)))
 let e:HS b ({p.1 with wt:=R (ks++[k],g,M)},p.2) (dI b {p.1 with wt:=R (ks++[k],g,M)} p.2 ps (J++[.dead])++[.lst ((bZ ((over b (ks++[k])).map (·.1.length))).map .fz)]++[.lst ((bZ [(ks++[k]).length]).map .fz)]):=#[ps,_,l,W];generalize (dI b {p.1 with wt:=R (ks++[k],g,M)} p.2 ps (J++[.dead])++[.lst ((bZ ((over b (ks++[k])).map (·.1.length))).map .fz)]++[.lst ((bZ [(ks++[k]).length]).map .fz)]:bh)=L at f e;rw[B];show jQ W (kF (cV (dk (cy W) (ai aI) e0) (ai (df (ao (aj W) aM) W (Vl W))) (b9 (C0 j.ne (j.len Y)))) W (DB (my (R (ks++[k],g,M)) W (yc (au (ai (aj W)) (au (dk (cy W) (ai aI) C) (au (ai aI) aR))) (Vl W))) (yN f (λq=>?_) λq=>?_)))
 .rw[ag (a5 q)];let(F,z,y):=mw Y e #[sw.sa.ac,sw.sa.oc] W v u;show jB (cD e (by left) W aR W z) #[W,y]
 .rw[av (of_decide_eq_false q)];show mW #[W,e]
def MK(sw:SW b p.1)(f:p.1.wt=R (ks,g,M))(v:WV b p.1.ac (ks++[k]) g M)(h:g<b.wt):SW b (pU b p k).1:=by
 let j:pU b p k=if(over b (ks++[k])).map (·.1.length)=[(ks++[k]).length]then cQ b ({p.1 with wt:=R (ks++[k],g,M)},p.2)else({p.1 with wt:=R (ks++[k],g,M)},p.2):=by ext pU;rw[f]
 rw[j];split
 .show(j8 Y (p:=({p.1 with wt:=R (ks++[k],g,M)},p.2)) #[sw.sa.ac,sw.sa.oc] λ_ _ _ e=>by ext e;show v).1
 .show#[#[sw.sa.ac,sw.sa.oc],λ_ _ _ e=>by ext e;show#[v,h]]
omit Y in
theorem Df(s:X6)(m:Mn):(im s m).ac=s.ac/\(im s m).wt=s.wt:=by unfold im;split<;>exact⟨rfl,rfl⟩
omit Y in
theorem CJ{m:Mn}(h:SA b s):SA b (im s m):=by
 unfold im;split
 .exact h
 .exact⟨h.ac,λo e=>by cases e⟩
def Q8(E:HS b p Z)(S:SA b p.1)(hw:p.1.wt=Vg)(U:(k:Int)<b.n)(V:p.2.length<900):∃D,gv [.rf 0,.fz (nd k)] Z=.ok (.fz .none) D/\HS b (Ff b p k) D:=by
 let(Q,P):=Cj Y S;let K:=LL Y Q P U;let(v,I):=x8 Y Q P U;let(Z1,h1,N):=pN E;let h5:=Y.n5;let eb:Ff b p k=zW b (lay p.1.ac p.1.oc) (im p.1 (look b (lay p.1.ac p.1.oc) k),p.2) k (look b (lay p.1.ac p.1.oc) k):=W;rw[eb];let T:j9 ez 1 (aq (bp "Hand" "stands" bV 1 (aC 0) aV) aV) [lD (.rf 0),lD (.fz (nd k)),Vg,Vg,Vg] Z=.ok (.fz (.int (lay p.1.ac p.1.oc))) Z1:=Bo (au (cD E (by left) W aR W h1) aR) W (zG p.1);generalize lay p.1.ac p.1.oc=L at K v I T Q P;generalize look b L k=m at K v I;let(ps,J,hp,rfl):=N;let lb:=v.lb;let c0:=rh m;let c1:=Sf m;let c2:=RA m;let c3:=mQ m;let c4:=ME m;let eL:dJ (.int L) (.int 0)=lD (.fz (.bool (decide (L=0)))):=gY _ _;let A:(aX (cM (bN (aW (aO A6 (af 4) (ci {pC (.str "layer"),pC (.str "once")})))) (gx "Hand" "once" (aC 0) (ah (pC .none))) cU) cU) [lD (.rf 0),lD (.fz (nd k)),lD (.fz (.int L)),lD (.fz (mD m)),lD (.fz (.str (wd m)))] (dI b p.1 p.2 ps J)=.ok (.nx [lD (.rf 0),lD (.fz (nd k)),lD (.fz (.int L)),lD (.fz (mD m)),lD (.fz (.str (wd m)))]) (dI b (im p.1 m) p.2 ps J):=by
  let t:bN (aW (aO A6 (af 4) (ci {pC (.str "layer"),pC (.str "once")}))) [lD (.rf 0),lD (.fz (nd k)),lD (.fz (.int L)),lD (.fz (mD m)),lD (.fz (.str (wd m)))] (dI b p.1 p.2 ps J)=.ok (!(m.afC||m.isO)) (dI b p.1 p.2 ps J):=bJ (by ext:0);ext im;cases q:(m.afC||m.isO)with
  |true=>rw[q]at t;rw[ag W];show dG (hG t gU) gU
  |false=>rw[q]at t;rw[av Vu];show dG (fR t (Dw Vg W (ai aI))) gU
 let R:=Df p.1 m;let H:SA b (im p.1 m):=CJ S;let j:ps.Perm (g9 (im p.1 m).ac):=by rw[R.1];show hp
 let e:HS b (im p.1 m,p.2) (dI b (im p.1 m) p.2 ps J):=#[ps,J,j,W];generalize im p.1 m=s2 at A R H j e;let O:ZM ((cM (bN (aW (aO dJ (af 4) (pC (.str "tap"))))) (gx "Hand" "waiting" (aC 0) (ah (ci {ci {af 1},~~~0,af 3}))) (cM (oJ (bN (aW (aO dJ (af 4) (pC (.str "letter"))))) (oJ (bN (aW (aO dJ (af 2) (~~~0)))) (b8 (k7 nk (j9 bT 2 (aq (bC "Hand" "bed" (aC 0)) (aq (ah (ci {af 1})) aV))) (ah (dL aB)))))) (gx "Hand" "waiting" (aC 0) (ah (ci {ci {af 1},~~~0,pC (.tuple [(.str "chord")])}))) (cM (bN (aW (aO dJ (af 4) (pC (.str "once"))))) (aX (b7 (bp "Hand" "come" bL 3 (aC 0) (aq (ah (af 1)) (aq (ah (pC (.tuple [(.str "none")]))) aV))))
 (gx "Hand" "once" (aC 0) (ah (aO bv (af 3) (~~~1))))) (b7 (bp "Hand" "come" bL 3 (aC 0) (aq (ah (af 1)) (aq (ah (af 3)) aV))))))) [lD (.rf 0),lD (.fz (nd k)),lD (.fz (.int L)),lD (.fz (mD m)),lD (.fz (.str (wd m)))] (dI b s2 p.2 ps J)) (λ_ D=>SV.fz .none=.fz .none/\HS b (zW b L (s2,p.2) k m) D) (λ_ _=>False) (λr D=>r=.fz .none/\HS b (zW b L (s2,p.2) k m) D):=by
  let z:∀{Z:bh},bN (aW (aO dJ (af 4) (pC (.str "tap")))) [lD (.rf 0),lD (.fz (nd k)),lD (.fz (.int L)),lD (.fz (mD m)),lD (.fz (.str (wd m)))] Z=.ok m.isT Z:=bJ (by ext:0);let C:∀{Z:bh},bN (aW (aO dJ (af 4) (pC (.str "letter")))) [lD (.rf 0),lD (.fz (nd k)),lD (.fz (.int L)),lD (.fz (mD m)),lD (.fz (.str (wd m)))] Z=.ok m.isL Z:=bJ (by ext:0);let B:∀{Z:bh},bN (aW (aO dJ (af 4) (pC (.str "once")))) [lD (.rf 0),lD (.fz (nd k)),lD (.fz (.int L)),lD (.fz (mD m)),lD (.fz (.str (wd m)))] Z=.ok m.isO Z:=bJ (by ext:0);let F:∀{Z:bh},bN (aW (aO dJ (af 2) (~~~0))) [lD (.rf 0),lD (.fz (nd k)),lD (.fz (.int L)),lD (.fz (mD m)),lD (.fz (.str (wd m)))] Z=.ok (decide (L=0)) Z:=bJ (by ext:0);let kt:∀{Z:bh},ah (ci {af 1}) [lD (.rf 0),lD (.fz (nd k)),lD (.fz (.int L)),lD (.fz (mD m)),lD (.fz (.str (wd m)))] Z=.ok (.fz (.tuple (bZ [k]))) Z:=ai (df (ao (aj W) aM) W (Vl W));let cm:∀{Z:bh},HS b (s2,p.2) Z->VA b.ls.length m->∃D,b7 (bp "Hand" "come" bL 3 (aC 0) (aq (ah (af 1)) (aq (ah (af 3)) aV))) [lD (.rf 0),lD (.fz (nd k)),lD (.fz (.int L)),lD (.fz (mD m)),lD (.fz (.str (wd m)))] Z=.ok (.nx [lD (.rf 0),lD (.fz (nd k)),lD (.fz (.int L)),lD (.fz (mD m)),lD (.fz (.str (wd m)))]) D/\HS b (gM (s2,p.2) k m) D:=λ{Z} E va=>by let(D,u,l):=rX (k:=k) E (H.ak Y) va.lb () (show p.2.length<1000 by ext);show#[D,jE (cD E (by left) W (au (ai (aj W)) (au (ai (aj W)) aR)) W u),l]
  cases m with
  |below=>show a6 W I
  |tap c n=>show uf z (oB (my (lD ([k],0,lD (c,n))) W (ai (ρ':=cj [lD (.rf 0),lD (.fz (nd k)),lD (.fz (.int L)),lD (.fz (mD (.tap c n))),lD (.fz (.str (wd (.tap c n))))]) ?_)) #[W,ps,J,j,W]);show _=Res.ok (PV.fz (.tuple [.tuple [nd k],.int 0,mD (.tap c n)]),_);ext:0
  |V6 c=>
   obtain⟨d1,d2⟩:VA b.ls.length (.V6 c)/\True:=#[v,trivial];by_cases G:L=0
   .rw[ax G]at F
    let ov:=Di Y (Z1:=dI b s2 p.2 ps J) #[ps,J,W] W (Vl W) kt;let M:HS b (s2,p.2) (dI b s2 p.2 ps J++[.lst (((over b [k]).map gG).map .fz)]++[.lst []]):=#[ps,_,j,W];let y:zW b L (s2,p.2) k (.V6 c)=if(!(over b [k]).isEmpty)=Vi then({s2 with wt:=lD ([k],0,Vg)},p.2)else gM (s2,p.2) k (.V6 c):=by show(if(decide (L=0)&& !(over b [k]).isEmpty)=Vi then _ else _)=_;rw[ax G,aag]
    rw[y];show fq z (yN (jX C (jX F (bj ov))) (λq=>?_) λq=>?_)
    .rw[ag q];show oB (my (lD ([k],0,Vg)) W (ai (ρ':=cj [lD (.rf 0),lD (.fz (nd k)),lD (.fz (.int L)),lD (.fz (mD (.V6 c))),lD (.fz (.str (wd (.V6 c))))]) ?_)) #[W,ps,_,j,W];show _=Res.ok (PV.fz (.tuple [.tuple [nd k],.int 0,.tuple [.str "chord"]]),_);ext:0
    .rw[av (by rw[q];simp)];let(D,u,l):=cm M v;show fq B (oB u #[W,l])
   .rw[aP G]at F
    let y:zW b L (s2,p.2) k (.V6 c)=gM (s2,p.2) k (.V6 c):=by show(if(decide (L=0)&& !(over b [k]).isEmpty)=Vi then _ else _)=_;rw[aP G,ZP,av Vu]
    rw[y];let(D,u,l):=cm e v;show fq z (fq (jX C (iV F)) (fq B (oB u #[W,l])))
  |Yu n=>let(D,u,l):=cm e v;show fq z (fq (iV C) (fq B (oB u #[W,l])))
  |none=>let(D,u,l):=cm e trivial;show fq z (fq (iV C) (fq B (oB u #[W,l])))
  |once n=>let(D,u,l):=rX (k:=k) (a:=.none) e (H.ak Y) trivial () (show p.2.length<1000 by ext);let i1:bv (mD (.once n)) (.int 1)=lD (.fz (.int n)):=jp;let(qs,J2,hq,rfl):=l;show fq z (fq (iV C) (uf B (DB (jE (cD e (by left) W (au (ai (aj W)) (au (ai aI) aR)) W u)) (oB (Dw (lD n) W (ai (ρ':=cj [lD (.rf 0),lD (.fz (nd k)),lD (.fz (.int L)),lD (.fz (mD (.once n))),lD (.fz (.str (wd (.once n))))]) ?_)) #[W,qs,J2,hq,W]))));show _=Res.ok (PV.fz (.int n),_);show aK (rv:=.fz (.int n)) (aj W) aI W W i1
 show jQ (ρ:=[lD (.rf 0),lD (.fz (nd k)),Vg,Vg,Vg]) W (kF T W (kF (Bo (ds:=[bD b,.int L,nd k]) (au (qv W) (au (ai (aj W)) (au (ai (aj W)) aR))) W K) W (kF (ai (d:=.str (wd m)) (ρ':=cj [lD (.rf 0),lD (.fz (nd k)),lD (.fz (.int L)),lD (.fz (mD m)),Vg]) (aK (rv:=.fz (.str (wd m))) (aj W) aI W W c0)) W ?_)));show .eq ?_ O;let X:∀{f g:fJ} {ρ:bH} {Z D:bh},aX f cU ρ Z=.ok (.nx ρ) D->aX f g ρ Z=g ρ D:=λ{f g ρ Z D} h=>by
  unfold aX at h⊢;cases q:f ρ Z with
  |bad=>rw[q]at h;ext h
  |er x o=>rw[q]at h;ext h
  |ok fl o=>
   rw[q]at h;cases fl with
   |nx r=>ext h;rfl
   |_=>ext h
 show X A
end
section
variable{b:Bd}(Y:VB b){s:X6}{sn:Sn}{U:bg (Nat×Mn)}{J:bh}{ρ:bH}{i:Nat}{Z:bh}{p:X6×Sn}{k:Nat}{a:Mn}{X:bg Nat}{g:Int}{w:br (Nat×Int)}
include Y
omit Y in
theorem Dg(h:SA b s)(f:s.wt=Vg):SW b s:=⟨h,λ_ _ _ e=>by rw[f]at e;cases e⟩
def Pq(A:SA b p.1)(M:p.1.wt=Vg)(y:(k:Int)<b.n)(d:p.1.ac k=Vg):SW b (Ff b p k).1:=by
 let(H,G):=Cj Y A;let(f,v):=x8 Y H G y;let O:Ff b p k=zW b (lay p.1.ac p.1.oc) (im p.1 (look b (lay p.1.ac p.1.oc) k),p.2) k (look b (lay p.1.ac p.1.oc) k):=W;rw[O];generalize lay p.1.ac p.1.oc=L at f v H G;generalize look b L k=m at f v;let z:=Df p.1 m;let l:SA b (im p.1 m):=CJ A;let j:=z.2.trans M;let u:(im p.1 m).ac k=Vg:=by rw[z.1];show d
 generalize im p.1 m=s2 at l j u;let S:=Y.w1;let C:[k].Nodup:=Wj.mpr #[Xh,Xv];let E:∀x∈[k],(x:Int)<b.n:=λx t=>by rw[Vz.mp t];show y
 let F:∀x∈[k],s2.ac x=Vg:=λx t=>by rw[Vz.mp t];show u
 let cm:∀m,VA b.ls.length m->SW b (gM (s2,p.2) k m).1:=λm I=>Dg (l.cm y I) j;cases m with
 |below=>show a6 W v
 |tap c n=>show#[#[l.ac,l.oc],λ_ _ _ e=>?_];ext e;show#[#[by simp,C,E,F,aa9 _,λR K e=>by ext e;show#[f.1,f.2,W],λe=>by ext e],by ext]
 |V6 c=>
  show SW b (if(decide (L=0)&& !(over b [k]).isEmpty)=Vi then({s2 with wt:=lD ([k],0,Vg)},p.2)else gM (s2,p.2) k (.V6 c)).1;split
  .rename_i q
   show#[#[l.ac,l.oc],λ_ _ _ e=>?_];ext e;show#[#[by simp,C,E,F,aa9 _,λR K e=>(by ext e),λ_ x t=>?_],by ext];let B:=(VZ _ _▸q:_/\_).2;cases T:over b [k]with
   |nil=>rw[T]at B;ext B
   |cons c r=>
    let N:c∈over b [k]:=by rw[T];show Vn
    let(Q,P):=Yn.mp N;show(Y.vc c Q).2.2.1 x (a5 (Xq.mp P x t))
  .show cm _ f
 |Yu n=>show cm _ f
 |none=>show cm _ trivial
 |once n=>let h:=cm .none trivial;show#[#[h.sa.ac,λo e=>by ext e;show f],λX g w e=>by let e:s2.wt=lD (X,g,w):=e;rw[j]at e;ext e]
theorem SW.wd(h:SW b s):WD b s:=λX g w e=>(h.wt X g w e).1
omit Y in
theorem AN(e:bg (Nat×Mn)):∀{p:X6×Sn},p.1.ac k=Vg->k∉e.map (·.1)->(jr p e).1.ac k=Vg:=by
 induction e with
 |nil=>exact λh _=>h
 |cons q r f=>intro p h hn;rw[VP,VG,not_or]at hn;exact f (p:=gM p q.1 q.2) ((ib hn.1).trans h) hn.2
omit Y in
theorem Co(ha:p.1.ac k=Vg)(hn:isW p.1.wt k=Vq):(cQ b p).1.ac k=Vg:=by
 unfold cQ;split
 .exact ha
 .rename_i X g w q;refine AN _ (p:=({p.1 with wt:=Vg},p.2)) ha λz=>?_;rw[q]at hn;obtain⟨x,e,rfl⟩:=VX.mp z;exact of_decide_eq_false hn (ZE e).1
def Js(sw:SW b p.1)(e:(k:Int)<b.n):SW b (l8 b p k).1:=by
 ext l8;split
 .show sw
 .rename_i q
  rw[X0,not_or]at q;let o:p.1.ac k=M:=by
   cases z:p.1.ac k with
   |none=>rfl
   |some x=>rw[z]at q;show a6 W q.1
  let n:isW p.1.wt k=Vq:=by
   cases z:isW p.1.wt k with
   |false=>rfl
   |true=>show a6 z q.2
  split
  .rename_i f;let(X,g,l,m,j,h):=Cf Y sw e o n f;show MK Y sw l j h
  .let d:=j8 Y sw.sa (SW.wd Y sw);show Pq Y d.1.sa d.2.1 e (Co o n)
def IL(h:HS b p Z)(sw:SW b p.1)(A:(k:Int)<b.n)(P:p.2.length<800):∃c,iM [.rf 0,.fz (nd k)] Z=.ok (.fz .none) c/\HS b (l8 b p k) c:=by
 let Q:=Y.n5;let y:k<5:=by ext
 let N:FD (b8 (zg Vq (ah (af 1)) (bC "Hand" "acts" (aC 0)))) (b8 (bp "Hand" "is_waiting" cH 2 (aC 0) (aq (ah (af 1)) aV))) [lD (.rf 0),lD (.fz (nd k))] Z=.ok ((p.1.ac k).isSome||isW p.1.wt k) Z:=by
  let H:=cD (ρ:=[lD (.rf 0),lD (.fz (nd k))]) (i:=0) (m:= "is_waiting") (fa:=aq (ah (af 1)) aV) h (by left) W (au (ai (aj W)) aR) W (Jy h);let(U,J,v,rfl):=h
  let t:zg Vq (ah (af 1)) (bC "Hand" "acts" (aC 0)) [lD (.rf 0),lD (.fz (nd k))] (dI b p.1 p.2 U J)=.ok (.fz (.bool (p.1.ac k).isSome)) (dI b p.1 p.2 U J):=
   (Cp (ai (aj W)) (iQ W) W W).trans (by rw[show kE (U.map lf) (.inl (k:Int))=_ from pB v y];cases p.1.ac k<;>rfl)
  cases q:(p.1.ac k).isSome with
  |true=>rw[q]at t;rw[XD];show tL (bj t)
  |false=>rw[q]at t;rw[Zs];show j4 (bj t) (bj H)
 show jQ W (zE N (λq=>?_) λq=>oG ?_)
 .ext l8;rw[ag q];show xx #[W,h]
 rw[ae7]at q;let ha:p.1.ac k=Vg:=by
  cases z:p.1.ac k with
  |none=>rfl
  |some x=>rw[z]at q;show a6 q.1 (by simp)
 let K:l8 b p k=if Ag b p.1 k=Vi then pU b p k else Ff b (cQ b p) k:=by ext l8;rw[av (by rw[q.1,q.2];simp)]
 rw[K];let(O,G,e):=QL Y h sw A q.2;show zE (bj (cD h (by left) W (au (ai (aj W)) aR) W G)) (λo=>?_) λo=>oG ?_
 .rw[ag o];let(X,g,j,S,M,R):=Cf Y sw A ha q.2 o;let(l,B,f):=K9 Y e sw j M (sw.wt _ _ _ j).1 ();show PR (mS (cD e (by left) W (au (ai (aj W)) aR) W B) (xx #[W,f]))
 .rw[av (by rw[o];simp)]
  let d:=j8 Y sw.sa (SW.wd Y sw);let E:∀l,HS b (cQ b p) l->ZM (b7 (bp "Hand" "begin" gv 2 (aC 0) (aq (ah (af 1)) aV)) [lD (.rf 0),lD (.fz (nd k))] l) (λ_ c=>SV.fz .none=.fz .none/\HS b (Ff b (cQ b p) k) c) (λ_ _=>False) (λr c=>r=.fz .none/\HS b (Ff b (cQ b p) k) c):=λl f=>by let(T,I,u):=Q8 Y f d.1.sa d.2.1 A (by let:=d.2.2.1;ext);show jB (cD f (by left) W (au (ai (aj W)) aR) W I) #[W,u]
  cases n:p.1.wt with
  |none=>
   let L:cQ b p=p:=by ext cQ;rw[n]
   let j:pc (jL p.1.wt) .none=lD (.fz (.bool Vq)):=by rw[n];rfl
   let C:=E O (by rw[L];show e);let(U,J,v,rfl):=e;show ub (bj (cV (cy W) (ai aI) (b9 j))) (oG C)
  |some x=>
   let(X,g,w):=x;let j:pc (jL p.1.wt) .none=lD (.fz (.bool Vi)):=by rw[n];rfl
   let(l,B,f):=mw Y e sw.sa n (sw.wt _ _ _ n).1 ();let F:=cD (ρ:=[lD (.rf 0),lD (.fz (nd k))]) (i:=0) (m:= "decide") e (by left) W aR W B;let(U,J,v,rfl):=e;show xj (bj (cV (cy W) (ai aI) (b9 j))) (mS F (E l f))
def pO(sw:SW b p.1)(e:isW p.1.wt k=P):SW b (dH b p k).1/\(dH b p k).2.length<=p.2.length+5:=by
 ext dH;split
 .let d:=j8 Y sw.sa (SW.wd Y sw);show#[d.1,d.2.2.1]
 .rename_i X g c n q;let v:=(sw.wt _ _ _ q).1;rw[q]at e;let f:=v.kn k (a5 e);let h:=(v.tp c n W).1;show#[Dg (SA.cm #[sw.sa.ac,sw.sa.oc] f h) W,?_];let:=sQ (p:=({p.1 with wt:=M},p.2)) (k:=k) (a:=.V6 c);let:(gM ({p.1 with wt:=M},p.2) k (.V6 c)).2.length<=p.2.length+1:=this;ext
 .show#[sw,agW _ _]
def kj(l:HS b p Z)(sw:SW b p.1)(j:isW p.1.wt k=P)(G:p.2.length<800):∃d,gX [.rf 0,.fz (nd k)] Z=.ok (.fz .none) d/\HS b (dH b p k) d:=by
 let I:=Y.n5;cases q:p.1.wt with
 |none=>rw[q]at j;ext j
 |some x=>
  let(X,g,w):=x;let v:=(sw.wt _ _ _ q).1;let o:k∈X:=by rw[q]at j;show a5 j
  let y:bv (jL p.1.wt) (.int 2)=R (.fz (ud w)):=by rw[q];show sV
  let C:=(BG λc n h=>(v.tp c n h).1).1;let t:∀{Z:bh},bN (aW (aO dJ (af 2) (pC (.tuple [.str "chord"])))) [R (.rf 0),R (.fz (nd k)),R (.fz (ud w))] Z=.ok w.isNone Z:=bJ (bO (aK (aj W) aI W W C) W);cases w with
  |none=>
   let L:dH b p k=cQ b p:=by ext dH;rw[q]
   rw[L];let(F,r,e):=mw Y l sw.sa q v ();let z:=cD (ρ:=[R (.rf 0),R (.fz (nd k)),R (.fz (ud M))]) (i:=0) (m:= "decide") l (by left) W aR W r;let(U,J,u,rfl):=l;show jQ W (kF (dk (cy W) (ai aI) y) W (uf t (jB z #[W,e])))
  |some E=>
   let(c,n):=E;let L:dH b p k=gM ({p.1 with wt:=M},p.2) k (.V6 c):=by ext dH;rw[q]
   rw[L];let B:=(v.tp c n W).1;let H:=v.kn k o;let(U,J,u,rfl):=l;let f:HS b ({p.1 with wt:=M},p.2) (dI b {p.1 with wt:=M} p.2 U J):=#[U,J,u,W];let(F,r,e):=rX (k:=k) (a:=.V6 c) f (SA.ak Y #[sw.sa.ac,sw.sa.oc]) B () (show p.2.length<1000 by ext);let A:bv (ud (R (c,n))) (.int 1)=R (.fz (.str (ji c))):=jp;show jQ W (kF (dk (cy W) (ai aI) y) W (fq t (DB (my M W (ai aI)) (jB (cD f (by left) W (au (ai (aj W)) (au (ai (df (ao aI (ao (aK (aj W) aI W W A) aM)) W (Vl W))) aR)) W r) #[W,e]))))
omit Y in
theorem OY(sw:SW b p.1):SW b (go p k).1:=by
 refine⟨sw.sa.gg,?_⟩;unfold go;split
 .intro X g w e;obtain⟨v,h⟩:=sw.wt X g w e;exact⟨⟨v.ne,v.nd,v.kn,λx f=>by
   by_cases z:x=k
   .rw[z];exact fQ
   .exact(ib z).trans (v.kf x f),v.g0,v.tp,v.ch⟩,h⟩
 .exact sw.wt
def K0(sw:SW b p.1):SW b (vg b p k).1:=by
 ext vg;split
 .rename_i q;show OY (pO Y sw q).1
 .show OY sw
def Nu(e:HS b p Z)(sw:SW b p.1)(B:(k:Int)<b.n)(u:p.2.length<700):∃c,jD [.rf 0,.fz (nd k)] Z=.ok (.fz .none) c/\HS b (vg b p k) c:=by
 let C:=Y.n5;let h:k<5:=by ext
 let f:∀{p:X6×Sn} {Z:bh},HS b p Z->SW b p.1->p.2.length<800->ZM (cM (b8 (zg Vq (ah (af 1)) (bC "Hand" "acts" (aC 0)))) (b7 (bp "Hand" "go" jV 2 (aC 0) (aq (ah (af 1)) aV))) cU [R (.rf 0),R (.fz (nd k))] Z) (λ_ c=>SV.fz .none=.fz .none/\HS b (go p k) c) (λ_ _=>False) (λr c=>r=.fz .none/\HS b (go p k) c):=λ{p Z} e sw u=>by
  cases n:p.1.ac k with
  |none=>
   let A:go p k=p:=by ext go;rw[n]
   rw[A];let(U,J,j,rfl):=e;show fq (bj ((Cp (ai (aj W)) (iQ W) W W).trans (by rw[show kE (U.map lf) (.inl (k:Int))=_ from pB j h,n];rfl))) (mW #[W,U,J,j,W])
  |some a=>let(E,v,l):=R9 e (sw.sa.ak Y) n ();let t:=cD (ρ:=[R (.rf 0),R (.fz (nd k))]) (i:=0) (m:= "go") (fa:=aq (ah (af 1)) aV) e (by left) W (au (ai (aj W)) aR) W v;let(U,J,j,rfl):=e;show uf (bj ((Cp (ai (aj W)) (iQ W) W W).trans (by rw[show kE (U.map lf) (.inl (k:Int))=_ from pB j h,n];rfl))) (jB t #[W,l])
 show jQ W (zE (bj (cD e (by left) W (au (ai (aj W)) aR) W (Jy e))) (λq=>?_) λq=>?_)
 .ext vg;rw[ag q];let(F,y,o):=kj Y e sw q ();let z:=pO Y sw q;show mS (cD e (by left) W (au (ai (aj W)) aR) W y) (f o z.1 ())
 .ext vg;rw[av (by rw[q];simp)];show oG (f e sw ())
def Mo(sw:SW b p.1):SW b (kZ b p).1:=by
 ext kZ;split
 .show sw
 .rename_i X g w q
  let(v,j):=sw.wt X g w q;let f:WV b p.1.ac X (g+1) w:=#[v.ne,v.nd,v.kn,v.kf,by let:=v.g0;ext,v.tp,v.ch];split
  .show(j8 Y (p:=({p.1 with wt:=R (X,g+1,w)},p.2)) #[sw.sa.ac,sw.sa.oc] λ_ _ _ e=>by ext e;show f).1
  .rename_i h;show#[#[sw.sa.ac,sw.sa.oc],λ_ _ _ e=>by ext e;show#[f,by ext]]
def Lk(n:HS b p Z)(sw:SW b p.1)(y:p.2.length<800):∃c,gz [.rf 0] Z=.ok (.fz .none) c/\HS b (kZ b p) c:=by
 let(U,J,l,rfl):=n;cases q:p.1.wt with
 |none=>
  let h:kZ b p=p:=by ext kZ;rw[q]
  rw[h];let j:uZ (jL p.1.wt) .none=R (.fz (.bool P)):=by rw[q];rfl
  show jQ W (xj (bj (cV (cy W) (ai aI) (b9 j))) (xx #[W,U,J,l,W]))
 |some x=>
  let(X,g,w):=x;let v:=(sw.wt _ _ _ q).1;let m:WV b p.1.ac X (g+1) w:=#[v.ne,v.nd,v.kn,v.kf,by let:=v.g0;ext,v.tp,v.ch];let h:kZ b p=if g+1=b.wt then cQ b ({p.1 with wt:=R (X,g+1,w)},p.2)else({p.1 with wt:=R (X,g+1,w)},p.2):=by ext kZ;rw[q]
  rw[h];let j:uZ (jL p.1.wt) .none=R (.fz (.bool Vq)):=by rw[q];rfl
  let e0:bv (jL p.1.wt) (.int 0)=R (.fz (.tuple (bZ X))):=by rw[q];show iL
  let u:bv (jL p.1.wt) (.int 2)=R (.fz (ud w)):=by rw[q];show sV
  let t:bv (jL p.1.wt) (.int 1)=R (.fz (.int g)):=by rw[q];show jp
  let r:bv (bD b) (.int 3)=R (.fz (.int b.wt)):=RB W;let e:HS b ({p.1 with wt:=R (X,g+1,w)},p.2) (dI b {p.1 with wt:=R (X,g+1,w)} p.2 U J):=#[U,J,l,W];show jQ W (ub (bj (cV (cy W) (ai aI) (b9 j))) (oG (kF (cV (dk (cy W) (ai aI) t) (ai aI) (b9 (gh _ _))) W (DB (my (R (X,g+1,w)) W (yc (au (dk (cy W) (ai aI) e0) (au (ai (aj W)) (au (dk (cy W) (ai aI) u) aR))) (Vl W))) (yN (bj (cV (ai (aj W)) (dk (qv W) (ai aI) r) (b9 (gY _ _)))) (λz=>?_) λz=>?_)))))
  .rw[ag (a5 z)];let(A,o,f):=mw Y e #[sw.sa.ac,sw.sa.oc] W m (show p.2.length<900 by ext);show jB (cD e (by left) W aR W o) #[W,f]
  .rw[av (of_decide_eq_false z)];show mW #[W,e]
def Yy.ags:Yy->Bool
 |.turn=>P
 |_=>Vq
def Yy.isDown:Yy->Bool
 |.down _=>P
 |_=>Vq
def EV(b:Bd):Yy->Prop
 |.down k=>(k:Int)<b.n
 |.up k=>(k:Int)<b.n
 |.turn=>True
def kz(sw:SW b s)(f:EV b e):SW b (aQ b s e).1:=by
 cases e with
 |down k=>show Js Y sw f
 |up k=>show K0 Y sw
 |turn=>show Mo Y sw
omit Y in
theorem vA:∀l:bg (Nat×Mn),a8 uo (l.map pD)=lD (l.map lf)
 |[]=>rfl
 |q::r=>by rw[VP];unfold a8;rw[vA r];rfl
omit Y in
theorem zS:∀(l f:bg (Nat×Mn)),((f++l).map (·.1)).Nodup->nK (f.map lf) (l.map lf)=(f++l).map lf
 |[],f,_=>by rw[V2];rfl
 |q::r,f,h=>by
  have hn:∀x∈f,x.1≠q.1:=λx j e=>by rw[VY,Zf]at h;exact h.2.2 _ (VX.mpr ⟨x,j,rfl⟩) q.1 Vn e
  have t:kW (f.map lf) (lf q).1 (lf q).2=(f++[q]).map lf:=by
   unfold kW;rw[av ?_,VY]
   .rfl
   .intro z;obtain⟨u,o,n⟩:=ack.mp z;obtain⟨x,m,rfl⟩:=VX.mp o;have:=Sum.inl.inj (a5 n);exact hn x m (by ext)
  show nK (kW (f.map lf) (lf q).1 (lf q).2) (r.map lf)=_;rw[t,zS r (f++[q]) (by rw[Wc];exact h),Wc];rfl
omit Y in
theorem MB:eC [.rf 0,.fz (bD b),.fz (cN s)] [.obj "Hand" []]=.ok (.fz .none) (dI b s [] (g9 s.ac) []):=by
 have e0:bv (cN s) (.int 0)=lD (.fz (.tuple ((g9 s.ac).map pD))):=iL;have y:bv (cN s) (.int 1)=lD (.fz (jL s.wt)):=jp;have v:bv (cN s) (.int 2)=lD (.fz (rc s.oc)):=sV;have z:fS "bed" (.fz (bD b)) []=([("bed",.fz (bD b))]:bg (Str×SV)):=rfl;have q:fS "acts" (.rf 1) ([("bed",.fz (bD b))]:bg (Str×SV))=([("bed",.fz (bD b)),("acts",.rf 1)]:bg (Str×SV)):=by unfold fS;rw[av (by left)];rfl
 have o:fS "waiting" (.fz (jL s.wt)) ([("bed",.fz (bD b)),("acts",.rf 1)]:bg (Str×SV))=([("bed",.fz (bD b)),("acts",.rf 1),("waiting",.fz (jL s.wt))]:bg (Str×SV)):=by unfold fS;rw[av (by left)];unfold fS;rw[av (by left)];rfl
 have n:fS "once" (.fz (rc s.oc)) ([("bed",.fz (bD b)),("acts",.rf 1),("waiting",.fz (jL s.wt))]:bg (Str×SV))=([("bed",.fz (bD b)),("acts",.rf 1),("waiting",.fz (jL s.wt)),("once",.fz (rc s.oc))]:bg (Str×SV)):=by unfold fS;rw[av (by left)];unfold fS;rw[av (by left)];unfold fS;rw[av (by left)];rfl
 have m:fS "sent" (.rf 2) ([("bed",.fz (bD b)),("acts",.rf 1),("waiting",.fz (jL s.wt)),("once",.fz (rc s.oc))]:bg (Str×SV))=vo b s:=by unfold fS;rw[av (by left)];unfold fS;rw[av (by left)];unfold fS;rw[av (by left)];unfold fS;rw[av (by left)];rfl
 have r:nK [] ((g9 s.ac).map lf)=(g9 s.ac).map lf:=zS (g9 s.ac) [] (uw s.ac);have e:∀{x:SV} {ρ:bH} {fs:bg (Str×SV)} {Z:bh} {j:dY} {f:Str} {c:Cell} {l:bh},ρ[0]?=lD (lD (.rf 0))->j ρ Z=.ok x (.obj "Hand" fs::l)->fs.length<100->gx "Hand" f (aC 0) j ρ Z=.ok (.nx ρ) (.obj "Hand" (fS f x fs)::l):=λh u t=>(pL u (b3 h) rfl t).trans rfl
 have ha:yI (ah (aO bv (af 2) (~~~0))) [lD (.rf 0),lD (.fz (bD b)),lD (.fz (cN s))] [.obj "Hand" ([("bed",.fz (bD b))]:bg (Str×SV))]=.ok (.rf 1) [.obj "Hand" ([("bed",.fz (bD b))]:bg (Str×SV)),.dct ((g9 s.ac).map lf)]:=
  (Mm (ai (d:=.tuple ((g9 s.ac).map pD)) (aK (rv:=.fz (.tuple ((g9 s.ac).map pD))) (aj rfl) aI rfl rfl e0)) (vA _)).trans (by rw[r];rfl)
 refine pz (ρ:=[lD (.rf 0),lD (.fz (bD b)),lD (.fz (cN s))]) (ρ1:=[lD (.rf 0),lD (.fz (bD b)),lD (.fz (cN s))]) rfl (dG (e rfl (c:=.dead) (ai (d:=bD b) (aj rfl)) (Vl rfl)) (dG (e rfl (c:=.dead) ha (Vl rfl)) (dG (e rfl (c:=.dead) (ai (d:=jL s.wt) (aK (rv:=.fz (jL s.wt)) (aj rfl) aI rfl rfl y)) (Vl rfl)) (dG (e rfl (c:=.dead) (ai (d:=rc s.oc) (aK (rv:=.fz (rc s.oc)) (aj rfl) aI rfl rfl v)) (Vl rfl)) ?_))));rw[q,o,n];refine(e (fs:=([("bed",.fz (bD b)),("acts",.rf 1),("waiting",.fz (jL s.wt)),("once",.fz (rc s.oc))]:bg (Str×SV))) rfl (c:=.dead) (fx (ds:=[]) (sY aM rfl (Wo _))) (Vl rfl)).trans ?_;show RS.ok _ (Cell.obj "Hand" (fS "sent" (.rf 2) ([("bed",.fz (bD b)),("acts",.rf 1),("waiting",.fz (jL s.wt)),("once",.fz (rc s.oc))]:bg (Str×SV)))::_)=_;rw[m];rfl
omit Y in
theorem LF(e:Yy):∃x:Str,bv (eY e) (.int 0)=lD (.fz (.str x))/\dJ (.str x) (.str "turn")=lD (.fz (.bool (e.ags)))/\dJ (.str x) (.str "down")=lD (.fz (.bool (e.isDown))):=by
 have h:Vo.strOk "down"=Vi:=by left
 have j:Vo.strOk "up"=Vi:=by left
 have f:Vo.strOk "turn"=Vi:=by left
 cases e with
 |down k=>exact⟨"down",iL,Ek h f (by left),Ob h⟩
 |up k=>exact⟨"up",iL,Ek j f (by left),Ek j h (by left)⟩
 |turn=>exact⟨"turn",iL,Ob f,Ek f h (by left)⟩
def Mw(sw:SW b s)(v:EV b e):∃c,io [.fz (bD b),.fz (cN s),.fz (eY e)] []=.ok (.tp [.rf 2,.fz (cN (aQ b s e).1)]) c/\sh c (.rf 2)=R (.list ((aQ b s e).2.map iO)):=by
 let h:HS b (s,[]) (dI b s [] (g9 s.ac) []):=#[g9 s.ac,[],.refl _,W];let(x,t,z,y):=LF e;let n:∀{Z:bh},bN (aW (aO dJ (aO bv (af 2) (~~~0)) (pC (.str "turn")))) [R (.fz (bD b)),R (.fz (cN s)),R (.fz (eY e)),R (.rf 0)] Z=.ok (e.ags) Z:=bJ (bO (aK (aK (aj W) aI W W t) aI W W z) W);let u:∀{Z:bh},bN (aW (aO dJ (aO bv (af 2) (~~~0)) (pC (.str "down")))) [R (.fz (bD b)),R (.fz (cN s)),R (.fz (eY e)),R (.rf 0)] Z=.ok (e.isDown) Z:=bJ (bO (aK (aK (aj W) aI W W t) aI W W y) W);let l:∀{Z:bh},HS b (aQ b s e) Z->ZM (gP (mY (aq (bC "Hand" "sent" (aC 3)) (aq (bp "Hand" "stands" bV 1 (aC 3) aV) aV))) [R (.fz (bD b)),R (.fz (cN s)),R (.fz (eY e)),R (.rf 0)] Z) (λ_ c=>SV.fz .none=.tp [.rf 2,.fz (cN (aQ b s e).1)]/\sh c (.rf 2)=R (.list ((aQ b s e).2.map iO))) (λ_ _=>False) (λr c=>r=.tp [.rf 2,.fz (cN (aQ b s e).1)]/\sh c (.rf 2)=R (.list ((aQ b s e).2.map iO))):=λ{Z} L=>by let(q,j,f):=pN L;let m:=cD (ρ:=[R (.fz (bD b)),R (.fz (cN s)),R (.fz (eY e)),R (.rf 0)]) (i:=3) (m:= "stands") L (by left) W aR W j;let(U,J,E,rfl):=L;let(B,F,C,rfl):=f;show PY (Dh (au (wE W) (au m aR)) (Vl W) W W) #[W,eZ W]
 let A:v4 "Hand" eC 3 (aq (ah (af 0)) (aq (ah (af 1)) aV)) [R (.fz (bD b)),R (.fz (cN s)),R (.fz (eY e)),M] []=.ok (.rf 0) (dI b s [] (g9 s.ac) []):=Qc (au (ai (aj W)) (au (ai (aj W)) aR)) W MB;show jQ W (kF A W ?_);cases e with
 |turn=>let(q,j,f):=Lk Y h sw (show 0<800 by decide);show xj n (mS (cD h (by left) W aR W j) (l f))
 |down k=>let(q,j,f):=IL Y h sw v (show 0<800 by decide);let o:bv (eY (.down k)) (.int 1)=R (.fz (nd k)):=jp;show ub n (xj u (mS (cD h (by left) W (au (ai (aK (aj W) aI W W o)) aR) W j) (l f)))
 |up k=>let(q,j,f):=Nu Y h sw v (show 0<700 by decide);let o:bv (eY (.up k)) (.int 1)=R (.fz (nd k)):=jp;show ub n (ub u (mS (cD h (by left) W (au (ai (aK (aj W) aI W W o)) aR) W j) (l f)))
def N7{e:Yy}(sw:SW b s)(j:EV b e):uD io 3 [.fz (bD b),.fz (cN s),.fz (eY e)] Z=.ok (.tp [.rf Z.length,.fz (cN (aQ b s e).1)]) (Z++[.lst (((aQ b s e).2.map iO).map .fz)]):=by
 let(f,m,l):=Mw Y sw j;ext uD;rw[ag (show([.fz (bD b),.fz (cN s),.fz (eY e)]:G SV).length=3 from rfl),show a8 zK [.fz (bD b),.fz (cN s),.fz (eY e)]=R [bD b,cN s,eY e]from rfl];dsimp only;rw[show[bD b,cN s,eY e].map SV.fz=[.fz (bD b),.fz (cN s),.fz (eY e)]from rfl,m];show(match Gr f Z.length [.rf 2,.fz (cN (aQ b s e).1)]with
  |some (n,cs,o)=>if o.Nodup then RS.ok (SV.tp n) (Z++cs.map TL)else .bad
  |none=>.bad)=_
 let h:Gr f Z.length [.rf 2,.fz (cN (aQ b s e).1)]=R ([.rf Z.length,.fz (cN (aQ b s e).1)],[(aQ b s e).2.map iO],[2]):=by ext Gr;rw[l];rfl
 rw[h];dsimp only;rw[ag ()];rfl
end
def xz:X6:=#[λ_=>M,M,M]
theorem kO(b:Bd):SW b xz:=#[#[λk a e=>(by ext e),λo e=>(by ext e)],λf g w e=>(by ext e)]
theorem xn{α:Type}{f:α->D}:∀{l:G α},(∀a∈l,Vo.canLay0 (f a)=P)->Vo.canLayAll0 (l.map f)=P
 |[],_=>rfl
 |a::r,h=>by show(Vo.canLay0 (f a)&&Vo.canLayAll0 (r.map f))=P;rw[h a Vn,xn λx b=>h x (Vr _ b)];rfl
theorem r8{α:Type}{f:α->D}{n:Nat}:∀{l:G α},(∀a∈l,Vo.depth (f a)<=n)->Vo.depthAll (l.map f)<=n
 |[],_=>Wo _
 |a::r,h=>alQ.mpr #[h a Vn,r8 λx b=>h x (Vr _ b)]
def OT{d:D}(b:Vo.canLay0 d=P)(a:Vo.depth d<=64):mK d=P:=by ext mK;rw[b,ax a];rfl
def qE{d:D}(h:mK d=P):Vo.canLay0 d=P:=by unfold mK at h;show(VZ _ _▸h:_/\_).1
def wa{d:D}(h:mK d=P):nk d d=R (.fz (.bool Vq)):=by ext nk;rw[h,qE h,X7,ag W,Y9 d (qE h)];rfl
def sr{d:D}(h:mK d=P):dJ d d=R (.fz (.bool P)):=by ext dJ;rw[h,qE h,X7,ag W,Y9 d (qE h)]
def ZC(sn:Sn):Prop:=∀q∈sn,q.1<26
def L7{q:Nat×Bool}(h:q.1<26):Vo.canLay0 (iO q)=P:=by show(Vo.strOk (ji q.1)&&(Vo.strOk (if q.2=P then "down" else "up")&&P))=P;rw[nV h];cases q.2<;>left
theorem L8(q:Nat×Bool):Vo.depth (iO q)<=1:=Vl W
def AI{sn:Sn}(h:ZC sn):mK (.list (sn.map iO))=P:=by show OT (xn λq a=>L7 (h q a)) ?_;show Vo.depthAll (sn.map iO)+1<=64;let:=r8 (f:=iO) (l:=sn) λq _=>L8 q;ext
def Rk{b:Bd}{s:X6}(h:SW b s):mK (cN s)=P:=by
 let j:Vo.canLayAll0 ((g9 s.ac).map pD)=P:=xn λq l=>by show(P&&(Vo.canLay0 (mD q.2)&&P))=P;rw[wg (h.sa.ac _ _ (fZ.mp l).2).2.lb];rfl
 let o:∀m:Mn,Vo.depth (mD m)<=1:=λm=>by ext m<;>show Vl W
 let p:Vo.depthAll ((g9 s.ac).map pD)<=2:=r8 λq _=>by show max 0 (max (Vo.depth (mD q.2)) 0)+1<=2;let:=o q.2;ext
 let f:Vo.canLay0 (jL s.wt)=P/\Vo.depth (jL s.wt)<=2:=by
  cases q:s.wt with
  |none=>show#[W,Wo _]
  |some x=>
   let(a,g,w):=x;let v:=(h.wt a g w q).1;constructor
   .show(Vo.canLayAll0 (bZ a)&&(P&&(Vo.canLay0 (ud w)&&P)))=P
    rw[mF];cases w with
    |none=>show Vo.canLay0 (.tuple [.str "chord"])&&P=P;left
    |some i=>let(c,n):=i;let lb:LB (.tap c n):=(v.tp c n W).1;show(Vo.canLay0 (mD (.tap c n))&&P)=P;rw[wg lb];rfl
   .show max (Vo.depthAll (bZ a)+1) (max 0 (max (Vo.depth (ud w)) 0))+1<=2
    rw[pK];cases w with
    |none=>show Vl W
    |some i=>show Vl W
 let e:Vo.canLay0 (rc s.oc)=P/\Vo.depth (rc s.oc)=0:=by cases s.oc<;>show#[W,W]
 show OT ?_ ?_
 .show(Vo.canLayAll0 ((g9 s.ac).map pD)&&(Vo.canLay0 (jL s.wt)&&(Vo.canLay0 (rc s.oc)&&P)))=P;rw[j,f.1,e.1];rfl
 .show max (Vo.depthAll ((g9 s.ac).map pD)+1) (max (Vo.depth (jL s.wt)) (max (Vo.depth (rc s.oc)) 0))+1<=64;rw[e.2];let:=f.2;ext
section
variable{b:Bd}(Z:VB b){s:X6}{p:X6×Sn}{k:Nat}{a:Mn}
theorem ZC.app{x y:Sn}(f:ZC x)(e:ZC y):ZC (x++y):=λq g=>(Wi.mp g).elim (f q) (e q)
def mM(h:ZC p.2)(d:LB a):ZC (gM p k a).2:=by
 show h.app λq e=>?_;cases a with
 |V6 c=>
  let e:q∈(if pd p.1.ac (.V6 c)=P then[]else[(c,P)]:Sn):=e;split at e
  .ext e
  .rw[Vz.mp e];show d
 |_=>ext e
def Iz(e:G (Nat×Mn)):∀{p:X6×Sn},ZC p.2->(∀q∈e,LB q.2)->ZC (jr p e).2:=by
 induction e with
 |nil=>show λh _=>h
 |cons q r g=>show λh f=>g (mM h (f q Vn)) λx i=>f x (Vr _ i)
def OP(h:ZC p.2)(d:SA b p.1):ZC (go p k).2:=by
 ext go;split
 .rename_i a q
  let lb:=(d.ac k a q).2.lb;show h.app λx e=>?_;cases a with
  |V6 c=>
   let e:x∈(if pd (k9 p.1.ac k M) (.V6 c)=P then[]else[(c,Vq)]:Sn):=e;split at e
   .ext e
   .rw[Vz.mp e];show lb
  |_=>ext e
 .show h
include Z
def o0(h:ZC p.2)(i:WD b p.1):ZC (cQ b p).2:=by
 ext cQ;split
 .show h
 .rename_i e g w q;show Iz _ (p:=({p.1 with wt:=M},p.2)) h λx f=>(xh Z (i e g w q) x f).2.lb
def Pt(h:ZC p.2)(g:SA b p.1)(i:(k:Int)<b.n):ZC (Ff b p k).2:=by
 let(o,l):=Cj Z g;let(e,f):=x8 Z (k:=k) o l i;let j:Ff b p k=zW b (lay p.1.ac p.1.oc) (im p.1 (look b (lay p.1.ac p.1.oc) k),p.2) k (look b (lay p.1.ac p.1.oc) k):=W;rw[j];generalize look b (lay p.1.ac p.1.oc) k=m at e f;generalize lay p.1.ac p.1.oc=L at e;let lb:=e.lb;cases m with
 |tap c n=>show h
 |V6 c=>
  show ZC (if(decide (L=0)&& !(over b [k]).isEmpty)=P then({im p.1 (.V6 c)with wt:=R ([k],0,M)},p.2)else gM (im p.1 (.V6 c),p.2) k (.V6 c)).2;split
  .show h
  .show mM (p:=(im p.1 (.V6 c),p.2)) h lb
 |Yu n=>show mM (p:=(im p.1 (.Yu n),p.2)) h lb
 |once n=>show mM (p:=(im p.1 (.once n),p.2)) (k:=k) (a:=.none) h trivial
 |none=>show mM (p:=(im p.1 .none,p.2)) h lb
 |below=>show a6 W f
def D0{e:Yy}(sw:SW b s)(j:EV b e):ZC (aQ b s e).2:=by
 let f:ZC []:=λq m=>by ext m
 cases e with
 |turn=>
  show ZC (kZ b (s,[])).2;ext kZ;split
  .show f
  .rename_i h g w q
   let v:=(sw.wt h g w q).1;split
   .show o0 Z (p:=({s with wt:=R (h,g+1,w)},[])) f λ_ _ _ e=>by ext e;show#[v.ne,v.nd,v.kn,v.kf,by let:=v.g0;ext,v.tp,v.ch]
   .show f
 |up k=>
  show ZC (vg b (s,[]) k).2;ext vg;split
  .rename_i q
   let z:=pO Z (p:=(s,[])) sw q;show OP ?_ z.1.sa;ext dH;split
   .show o0 Z (p:=(s,[])) f (SW.wd Z sw)
   .rename_i c n e;let o:c<26:=((sw.wt _ _ _ e).1.tp c n W).1;show mM (p:=({s with wt:=M},[])) f o
   .show f
  .show OP (p:=(s,[])) f sw.sa
 |down k=>
  show ZC (l8 b (s,[]) k).2;ext l8;split
  .show f
  .rename_i q
   rw[X0,not_or]at q;let A:s.ac k=M:=by
    cases z:s.ac k with
    |none=>rfl
    |some x=>show a6 (show(s.ac k).isSome=P by rw[z];rfl) q.1
   let y:isW s.wt k=Vq:=by
    cases z:isW s.wt k with
    |false=>rfl
    |true=>show a6 z q.2
   split
   .rename_i l
    let(h,g,i,u,r,t):=Cf Z (p:=(s,[])) sw j A y l;let i:s.wt=R (h,g,M):=i;ext pU;dsimp only;rw[i];dsimp only;split
    .show o0 Z (p:=({s with wt:=R (h++[k],g,M)},[])) f λ_ _ _ e=>by ext e;show r
    .show f
   .let d:=j8 Z (p:=(s,[])) sw.sa (SW.wd Z sw);show Pt Z (o0 Z (p:=(s,[])) f (SW.wd Z sw)) d.1.sa j
end
end STP
namespace K54
open PySem L2 L3 STP
def rl:FS:=(cr (oE (aW (aO P2 (af 1) (gq cT {af 0}))) (fO (aO bv (af 0) (af 1))) gm)
 (fO (~~~0)))
def bz:FN:=iB 2 rl
def hJ:FS:=(cr (oE (Qm (aW (aO P2 (af 0) (~~~0))) (aW (aO Tt (af 0) (aO Nf (~~~10) (~~~18))))) (cr (uX (rN k6 {af 1}) (gN 3) (gH (aO Gh (af 0) (~~~1000)) (gN 0)))
 (fO (aO qj (af 0) (af 2)))) gm)
 (cr (gH (aO ig (aO dC (aO dC (aO qj (af 0) (~~~1000033)) (aO ig (~~~77) (af 1))) (~~~5)) (aO dC (aO ig (af 1) (af 1)) (~~~40009))) (gN 4))
 (fO (aO qj (aO Gh (aO qj (aO dC (aO ig (aO qj (af 4) (~~~998857)) (~~~30011)) (af 1)) (~~~999983)) (~~~3)) (af 2)))))
def aF:FN:=iB 5 hJ
def nu:FS:=(fO (aO jU (pC (.str "abz")) (cZ aF 3 {af 0,af 1,~~~3})))
def dD:FN:=iB 2 nu
def e9:FS:=(cr (gH (cZ aF 3 {af 0,~~~11,~~~12}) (gN 3))
 (cr (oE (aW (aO dJ (af 2) (~~~1))) (gH (aO bv (dL {~~~1,~~~1,~~~1,~~~8}) (cZ aF 3 {af 0,~~~12,~~~4})) (gN 3)) gm)
 (cr (gH (aO dC (~~~1) (cZ aF 3 {af 0,~~~13,gq C3 {~~~1,aO oH (af 2) (~~~1)}})) (gN 4))
 (cr (oE (Qm (aW (aO dJ (af 3) (~~~4))) (aW (aO dJ (af 3) (~~~5)))) (fO (ci {pC (.str "layer"),af 4})) gm)
 (cr (oE (Qm (aW (aO dJ (af 3) (~~~6))) (aW (aO dJ (af 3) (~~~7)))) (fO (ci {pC (.str "tap"),cZ dD 2 {af 0,~~~14},af 4})) gm)
 (cr (oE (aW (aO dJ (af 3) (~~~8))) (fO (ci {pC (.str "none")})) gm)
 (cr (oE (aW (aO dJ (af 3) (~~~9))) (fO (ci {pC (.str "once"),af 4})) gm)
 (cr (oE (AY (aW (aO Hf (af 3) (~~~9))) (aW (aO Hf (af 1) (~~~0)))) (fO (ci {pC (.str "below")})) gm)
 (fO (ci {pC (.str "letter"),cZ dD 2 {af 0,~~~15}}))))))))))
def fA:FN:=iB 5 e9
def gW:FS:=(cr (gH (dL aB) (gN 3))
 (cr (uX (rN k6 {aO PU (~~~1) (af 1)}) (gN 4) (cr (gH (gq iJ {fW 1 [4] (rN k6 {af 1}) (gN 0) (aW (aO dJ (aO Ds (aO K8 (af 1) (af 0)) (~~~1)) (~~~1))) (af 0)}) (gN 5))
 (cr (gH (HM (aO Hf (gq cT {af 5}) (~~~1)) (gq Aa {fW 1 [2] (jo (af 5)) (gN 0) eD (aO dJ (aO bv (aO bv (af 1) (af 0)) (~~~0)) (pC (.str "letter")))})) (gN 6))
 (oE (AY (aW (af 6)) (AY (aW (aO P2 (gq cT {af 3}) (~~~4))) (aW (aO dJ (cZ aF 3 {af 0,aO dC (~~~20) (af 4),~~~3}) (~~~0))))) (nr (FW 3 (ci {af 5,aO jU (pC (.str "abcz")) (cZ aF 3 {af 0,aO dC (~~~40) (af 4),~~~4})}))) gm))))
 (fO (gq iJ {af 3}))))
def gQ:FN:=iB 7 gW
def kB:FS:=(cr (gH (cZ bz 2 {af 0,af 1}) (gN 3))
 (cr (gH (aO bv (dL (ae (~~~1) {~~~2,~~~2,~~~2,~~~3})) (cZ aF 3 {af 3,~~~5,~~~5})) (gN 4))
 (cr (gH (dL aB) (gN 5))
 (cr (uX (rN k6 {af 4}) (gN 6) (cr (gH (fW 1 [0,1,2,6] (rN k6 {af 2}) (gN 0) eD (cZ bz 2 {af 1,aO dC (aO dC (aO dC (af 2) (~~~1)) (aO ig (af 3) (af 4))) (af 0)})) (gN 7))
 (nr (FW 5 (gq iJ {fW 1 [6,4] (jo (af 7)) (gN 0) eD (cZ fA 3 {af 0,af 1,af 2})})))))
 (cr (gH (cZ gQ 3 {cZ bz 2 {af 0,aO dC (af 1) (~~~10)},af 2,aO bv (af 5) (~~~0)}) (gN 8))
 (fO (ci {af 2,gq iJ {af 5},af 8,aO dC (~~~1) (cZ aF 3 {af 3,~~~6,aO bv (dL {~~~4,~~~4,~~~2}) (aO oH (af 2) (~~~1))})})))))))
def gL:FN:=iB 9 kB
def rd:FS:=(fO (aO bv (dL {~~~1,~~~2,~~~2,~~~3}) (cZ aF 3 {cZ bz 2 {af 0,~~~0},~~~1,~~~4})))
def jz:FN:=iB 1 rd
def j7:FS:=(cr (gH (aO dC (~~~4) (cZ aF 3 {af 0,~~~80,~~~2})) (gN 1))
 (cr (gH (cZ aF 3 {af 0,~~~81,~~~26}) (gN 2))
 (cr (gH (fW 1 [2] (rN k6 {aO dC (af 1) (~~~1)}) (gN 0) eD (aO jU (pC (.str "abcdefghijklmnopqrstuvwxyz")) (aO qj (aO dC (af 1) (aO ig (~~~5) (af 0))) (~~~26)))) (gN 3))
 (cr (gH (gq L9.TX {af 1}) (gN 4))
 (cr (GH (aW (aO Hf (gq cT {af 4}) (~~~3))) (nr (Cd 4 (cZ aF 3 {af 0,aO dC (~~~82) (gq cT {af 4}),gq cT {af 4}}))))
 (cr (gH (gq iJ {fW 1 [] (jo (Tg Ty (af 3) Ey (zx (af 1)))) (gN 0) eD (ci {pC (.str "letter"),af 0})}) (gN 5))
 (fO (ci {af 1,ci {af 5},ci {ci {gq iJ {af 4},aO bv (af 3) (af 1)}},aO bv (dL {~~~3,~~~1}) (aO oH (af 1) (~~~4))}))))))))
def fD:FN:=iB 6 j7
def md:FS:=(cr (gH (fW 1 [] (rN k6 {aO bv (af 0) (~~~0)}) (gN 0) eD (ci {pC (.str "down"),af 0})) (gN 1))
 (cr (gH (fW 1 [] (rN k6 {aO bv (af 0) (~~~0)}) (gN 0) eD (ci {pC (.str "up"),af 0})) (gN 2))
 (fO (aO dC (aO dC (af 1) (af 2)) (dL {ci {pC (.str "turn"),~~~0}})))))
def d5:FN:=iB 3 md
end K54
namespace K54
open PySem L2 L3 L10 STP
def dU:fJ:=(aX (cM (b8 (Dy P (ah (af 1)) (bC "Places" "numbers" (aC 0)))) (aX (cM (b8 (k7 Tt (rR cT (aq (bC "Places" "found" (aC 0)) aV)) (bC "Places" "most" (aC 0)))) (rZ "TooMany" "most" (bC "Places" "most" (aC 0))) cU)
 (aX (wP (bC "Places" "numbers" (aC 0)) (ah (af 1)) (rR cT (aq (bC "Places" "found" (aC 0)) aV)))
 (b7 (nZ (bC "Places" "found" (aC 0)) (ah (ci {af 1,af 2,af 3})))))) cU)
 (gP (ug (bC "Places" "numbers" (aC 0)) (ah (af 1)))))
def bG:iS:=de 4 dU
def dr:fJ:=(aX (gx "Places" "most" (aC 0) (ah (af 2)))
 (aX (gx "Places" "found" (aC 0) (ah (dL aB)))
 (aX (gx "Places" "numbers" (aC 0) Br)
 (b7 (pJ "Places" "enter" bG 4 (aC 0) (aq (ah (af 1)) (aq (ah (pC .none)) (aq (ah (pC .none)) aV))))))))
def b4:iS:=de 3 dr
def ir:fJ:=(aX (dZ (ah (dL aB)) (gr 2))
 (aX (dZ (jU (bC "Places" "found" (aC 0)) (ah (af 1))) (gr 3))
 (aX (t6 (bN (aW (aO pc (aO bv (af 3) (~~~1)) (pC .none)))) (aX (b7 (nZ (aC 2) (ah (aO bv (af 3) (~~~2)))))
 (dZ (jU (bC "Places" "found" (aC 0)) (ah (aO bv (af 3) (~~~1)))) (gr 3))))
 (gP (C5 (aC 2))))))
def dj:iS:=de 4 ir
def sJ:fJ:=(aX (cM (bN (aW (aO nk (aO bv (af 0) (~~~0)) (aO bv (af 1) (~~~0))))) (oY "NoKeys" (aq (ah (pC (.str "the two beds have not as many keys"))) aV)) cU)
 (aX (dZ (pk (ah (cZ d5 1 {af 0}))) (gr 3))
 (aX (dZ (Fb "Places" b4 3 (aq (ah (ci {pC (.tuple [(.tuple []),.none,.none]),pC (.tuple [(.tuple []),.none,.none])})) (aq (ah (af 2)) aV))) (gr 4))
 (aX (dZ (ah (~~~0)) (gr 5))
 (aX (t6 (b8 (k7 P2 (ah (af 5)) (rR cT (aq (bC "Places" "found" (aC 4)) aV)))) (aX (dZ (jU (jU (bC "Places" "found" (aC 4)) (ah (af 5))) (ah (~~~0))) (gr 6))
 (aX (zy (ju (jo (af 3))) (gr 7) (aX (dZ (pk (ny STP.io 3 (aq (ah (af 0)) (aq (ah (aO bv (af 6) (~~~0))) (aq (ah (af 7)) aV))))) (gr 8))
 (aX (dZ (pk (ny STP.io 3 (aq (ah (af 1)) (aq (ah (aO bv (af 6) (~~~1))) (aq (ah (af 7)) aV))))) (gr 9))
 (aX (cM (bN (aW (aO nk (aO bv (af 8) (~~~0)) (aO bv (af 9) (~~~0))))) (gP (mY (aq (ah (pC (.str "apart"))) (aq (k7 dC (bp "Places" "way_to" dj 2 (aC 4) (aq (ah (af 5)) aV)) (ah (dL {af 7}))) aV)))) cU)
 (b7 (pJ "Places" "enter" bG 4 (aC 4) (aq (ah (ci {aO bv (af 8) (~~~1),aO bv (af 9) (~~~1)})) (aq (ah (af 5)) (aq (ah (af 7)) aV)))))))))
 (KH 5 RT (ah (~~~1))))))
 (gP (mY (aq (ah (pC (.str "same"))) (aq (kT 1 [] (kX (bC "Places" "found" (aC 4))) (gr 0) g6 (ah (aO bv (af 0) (~~~0)))) aV)))))))))
def cC:iS:=de 10 sJ
def uJ:fJ:=(aX (dZ (pk (ah (cZ d5 1 {af 0}))) (gr 2))
 (aX (dZ (Fb "Places" b4 3 (aq (ah (pC (.tuple [(.tuple []),.none,.none]))) (aq (ah (af 1)) aV))) (gr 3))
 (aX (dZ (ah (dL aB)) (gr 4))
 (aX (dZ (ah (dL aB)) (gr 5))
 (aX (t6 (b8 (k7 P2 (rR cT (aq (aC 4) aV)) (rR cT (aq (bC "Places" "found" (aC 3)) aV)))) (aX (dZ (rR cT (aq (aC 4) aV)) (gr 6))
 (aX (dZ (jU (jU (bC "Places" "found" (aC 3)) (ah (af 6))) (ah (~~~0))) (gr 7))
 (aX (dZ (pk (kT 1 [0,7] (ju (jo (af 2))) (gr 0) g6 (ny STP.io 3 (aq (ah (af 1)) (aq (ah (af 2)) (aq (ah (af 0)) aV)))))) (gr 8))
 (aX (b7 (nZ (aC 4) (rR iJ (aq (tO 2 [3,6] (ju (ze {af 2,af 8})) (MH 2 (pQ (gr 0) (pQ (gr 1) A8))) g6 (pJ "Places" "enter" bG 4 (aC 2) (aq (ah (aO bv (af 1) (~~~1))) (aq (ah (af 3)) (aq (ah (af 0)) aV))))) aV))))
 (b7 (nZ (aC 5) (ah (gq iJ {fW 1 [] (jo (af 8)) (gN 0) eD (gq iJ {aO bv (af 0) (~~~0)})})))))))))
 (gP (mY (aq (bC "Places" "found" (aC 3)) (aq (aC 4) (aq (aC 5) aV))))))))))
def lU:iS:=de 9 uJ
def wY:fJ:=(gP (jU (yM lU 2 [] (aq (ah (af 0)) (aq (ah (af 1)) aV))) (ah (~~~0))))
def eU:iS:=de 2 wY
def bF:iS
 |[.fz b,.fz c,.fz (.int m)],Z=>(match cC [.fz b,.fz c,.fz (.int m)] Z with
  |.ok _ a=>.ok (.fz (.tuple [.none,.none])) a
  |.er x a=>(match x with
   |#[cl,[(f,.int k)]]=>if cl=("TooMany":Str)/\f=("most":Str)then .ok (.fz (.tuple [.int 5,.int k])) a else .bad
   |#[cl,[]]=>if cl=("NoKeys":Str)then .ok (.fz (.tuple [.int 6,.none])) a else .bad
   |_=>.bad)
  |_=>.bad)
 |_,_=>.bad
def Uv:fJ:=(aX (dZ (Du cC 2 1 (aq (ah (af 0)) (aq (ah (af 0)) aV)) (aq (ah (~~~2000)) aV)) (MH 2 (pQ (gr 2) (pQ (gr 3) A8))))
 (gP (zt (ah (aO dJ (af 2) (pC (.str "same")))) (zt (k7 Hf (rR cT (aq (aC 3) aV)) (ah (~~~400))) (rR Aa (aq (kT 1 [] (kX (aC 3)) (gr 0) g6 (ah (aO dJ (aO bv (af 0) (~~~0)) (aO bv (af 0) (~~~1))))) aV))))))
def Ip:fJ:=aX (cM (bN (aW (aO dJ (cZ aF 3 {af 1,~~~88,~~~2}) (~~~0)))) Uv cU) Ui
def dA:iS
 |[.fz b,.fz (.int x)],Z=>(match aF [.int x,.int 88,.int 2]with
  |.ok (.fz (.int t))=>if t=0 then de 6 Ip [.fz b,.fz (.int x)] Z else(match cC [.fz b,.fz b,.fz (.int 400)] Z with
   |.er e a=>(match e with
    |#[cl,[(f,.int k)]]=>if cl=("TooMany":Str)/\f=("most":Str)then .ok (.fz (.bool (decide (k=400)))) a else .bad
    |_=>.bad)
   |_=>.bad)
  |_=>.bad)
 |_,_=>.bad
def dw:iS
 |[.fz b],Z=>(match eU [.fz b,.fz (.int 90)] Z with
  |.ok x a=>(match sh a x with
   |some (.list ds)=>.ok (.fz (nd ds.length)) a
   |_=>.bad)
  |.er x a=>if x.cls=("TooMany":Str)then .ok (.fz .none) a else .bad
  |_=>.bad)
 |_,_=>.bad
def Ow:fJ:=(aX (cM (bN (aW (aO dJ (cZ aF 3 {cZ bz 2 {af 0,~~~24},~~~83,~~~16}) (~~~1)))) (gP (nw dA 2 (aq (ah (cZ fD 1 {cZ bz 2 {af 0,~~~24}})) (aq (ah (cZ bz 2 {af 0,~~~24})) aV)))) cU)
 (aX (dZ (ah (cZ gL 3 {af 0,~~~1,cZ jz 1 {af 0}})) (gr 1))
 (aX (dZ (ah (cZ gL 3 {af 0,~~~13,aO dC (~~~1) (cZ aF 3 {cZ bz 2 {af 0,~~~12},~~~75,~~~3})})) (gr 2))
 (aX (cM (bN (aW (aO nk (aO bv (af 1) (~~~0)) (aO bv (af 2) (~~~0))))) (zy (ju (jo (dL {~~~0,~~~1,~~~400}))) (gr 3) (cM (FD (b8 (k7 nk (nw bF 3 (aq (ah (af 1)) (aq (ah (af 2)) (aq (ah (af 3)) aV)))) (ah (ci {~~~6,pC .none})))) (b8 (k7 nk (nw bF 3 (aq (ah (af 2)) (aq (ah (af 1)) (aq (ah (af 3)) aV)))) (ah (ci {~~~6,pC .none}))))) (gP (ah (pC (.bool Vq)))) cU)) cU)
 (aX (dZ (nw dw 1 (aq (ah (af 1)) aV)) (gr 4))
 (aX (cM (bN (aW (aO uZ (af 4) (pC .none)))) (gP (k7 dJ (nw bF 3 (aq (ah (af 1)) (aq (ah (af 1)) (aq (ah (~~~90)) aV)))) (ah (ci {~~~5,~~~90})))) cU)
 (aX (cM (FD (b8 (k7 nk (nw bF 3 (aq (ah (af 1)) (aq (ah (af 1)) (aq (ah (aO oH (af 4) (~~~1))) aV)))) (ah (ci {~~~5,aO oH (af 4) (~~~1)})))) (b8 (k7 nk (nw bF 3 (aq (ah (af 1)) (aq (ah (af 1)) (aq (ah (af 4)) aV)))) (ah (ci {pC .none,pC .none}))))) (gP (ah (pC (.bool Vq)))) cU)
 (gP (k7 dJ (jU (wS cC 3 [(.int 400)] (aq (ah (af 1)) (aq (ah (af 1)) aV))) (ah (~~~0))) (ah (pC (.str "same"))))))))))))
def F_law:iS:=de 5 Ow
abbrev zf(d:D):br PV:=R (.fz d)
abbrev zo(l:G D):br PV:=R (.ow l)
def mE(a:G Int)(k:Nat):∃c:Int,bz [.list (a.map .int),nd k]=.ok (.fz (.int c)):=by
 let f:cT [.list (a.map .int)]=R (.fz (nd a.length)):=(fP _).trans (by rw[Vj]);let lt:=nW (k:Int) (a.length:Int);by_cases h:k<a.length
 .rw[ax ()]at lt;let e:bv (.list (a.map .int)) (nd k)=R (.fz (.int a[k])):=A2 (by rw[Vx,Vv h];rfl);show#[a[k],jN (ρ:=[zf (.list (a.map .int)),zf (nd k)]) W (pI (b:=P) (bO (aK (rv:=.fz (.bool P)) (aj W) (fw (rv:=.fz (nd a.length)) (ao (aj W) aM) W f) W W lt) W) (λ_=>jH (pv:=.fz (.int a[k])) (rv:=.fz (.int a[k])) (aK (rv:=.fz (.int a[k])) (aj W) (aj W) W W e) W W) λq=>nomatch q)]
 .rw[aP ()]at lt;show#[0,jN (ρ:=[zf (.list (a.map .int)),zf (nd k)]) W (pI (b:=Vq) (bO (aK (rv:=.fz (.bool Vq)) (aj W) (fw (rv:=.fz (nd a.length)) (ao (aj W) aM) W f) W W lt) W) (λq=>nomatch q) λ_=>gS (gC (pv:=.fz (.int 0)) (rv:=.fz (.int 0)) aI W W))]
abbrev ET(c:Int)(k m:Nat)(a b:br PV):bx:=[zf (.int c),zf (nd k),zf (nd m),a,b]
def d8(c:Int)(k m:Nat)(o:k<=1000)(hm:0<m):∃r:Nat,aF [.int c,nd k,nd m]=.ok (.fz (nd r))/\r<m:=by
 let a:∀x:Int,∃r:Nat,qj (.int x) (nd m)=R (.fz (nd r))/\r<m:=λx=>by let A:0<=x % (m:Int):=ahu _ ();let J:x % (m:Int)<m:=af3 _ ();show#[(x % (m:Int)).toNat,?_,by ext];rw[tM (),nd,abu A]
 let g:∃L,iB 5 hJ [.int c,nd k,nd m]=.ok L/\∃r:Nat,L=.fz (nd r)/\r<m:=by
  show ui (T:=λL=>∃r:Nat,L=.fz (nd r)/\r<m) (ρ:=ET c k m M M) W ?_;ext hJ;let f:=OH;show pI (b:=decide (c<0)||decide ((10:Int)^18<=c)) (ρ1:=ET c k m M M) (Iw (bO (aK (rv:=.fz (.bool (decide (c<0)))) (aj W) aI W W (nW _ _)) W) λ_=>bO (aK (rv:=.fz (.bool (decide ((10:Int)^18<=c)))) (aj W) (aK (rv:=.fz (.int ((10:Int)^18))) aI aI W W f) W W (Ax _ _)) W) (λ_=>Ky ?_) (λ_=>gS ?_)
  .let B:=ky (n:=k) ()
   show B7 (λ_ N=>∃(x:Int) (t:br PV),N=ET x k m t M) (ds:=bZ (VO k)) (ρ1:=ET c k m M M) (by ext:0) #[c,M,W] ?_ ?_
   .rintro i d N S ⟨x,t,rfl⟩;let e:Gh (.int x) (.int 1000)=R (.fz (.int (x/1000))):=GA #[by decide,by decide];show#[_,W,Ht (ρ2:=ET (x/1000) k m (zf d) M) (aK (rv:=.fz (.int (x/1000))) (aj W) aI W W e) W #[_,_,W]]
   .rintro N ⟨x,t,rfl⟩;let(r,l,j):=a x;show jH (pv:=.fz (nd r)) (rv:=.fz (nd r)) (ρ1:=ET x k m t M) (aK (rv:=.fz (nd r)) (aj W) (aj W) W W l) W #[r,W,j]
  .let K:0<=c % 1000033/\c % 1000033<1000033:=#[ahu _ (),af3 _ ()]
   let I:(k:Int)*k<=1000000:=by
    let:k*k<=1000*1000:=aa7 o o;let e:(k:Int)*k=((k*k:Nat):Int):=by rw[Int.natCast_mul]
    ext
   let v:0<=(k:Int)*k:=Int.mul_nonneg () ();let H:qj (.int c) (.int 1000033)=R (.fz (.int (c % 1000033))):=tM ();let G:ig (.int 77) (nd k)=R (.fz (.int (77*k))):=lS #[by ext,by ext];let F:ig (nd k) (nd k)=R (.fz (.int (k*k))):=lS #[by ext,by ext];let u:ig (.int (c % 1000033+77*k+5)) (.int (k*k+40009))=R (.fz (.int ((c % 1000033+77*k+5)*(k*k+40009)))):=lS #[by ext,by ext];generalize Q:(c % 1000033+77*(k:Int)+5)*(k*k+40009)=x at u;let E:qj (.int x) (.int 998857)=R (.fz (.int (x % 998857))):=tM ();let q:ig (.int (x % 998857)) (.int 30011)=R (.fz (.int (x % 998857*30011))):=Kt #[by ext,by ext];generalize x % 998857*30011=y at q;let p:qj (.int (y+k)) (.int 999983)=R (.fz (.int ((y+k) % 999983))):=tM ();generalize (y+(k:Int)) % 999983=z at p;let C:Gh (.int z) (.int 3)=R (.fz (.int (z/3))):=GA #[by ext,by ext];let(r,l,j):=a (z/3);show ef (ρ3:=ET c k m M (zf (.int x))) (by ext:0) W W ?_;show gC (pv:=.fz (nd r)) (rv:=.fz (nd r)) (ρ1:=ET c k m M (zf (.int x))) (aK (rv:=.fz (nd r)) (by ext:0) (aj W) W W l) W #[r,W,j]
 let(L,h,r,rfl,w):=g;show#[r,h,w]
def GD{z:Str}{cs:G Nat}(d:z.cps.toList=cs.map (97+·))(a:z.length<=1000000){r:Int}{c:Nat}(b:0<=r)(h:cs[r.toNat]?=R c):L3.jU (.str z) (.int r)=R (.fz (.str (ji c))):=by show(if z.length<=1000000 then(nj z.cps.toList r).map (λc=>RV.fz (.str #[#v[c]]))else M)=_;rw[ag a,d,yd (v:=97+c) b (by rw[Vx,h];rfl)];rfl
def Jw{z:Str}(cs:G Nat)(d:z.cps.toList=cs.map (97+·))(b:z.length<=1000000)(e:∀c∈cs,c<26){r:Int}(f:0<=r)(g:r<cs.length):∃c,c<26/\L3.jU (.str z) (.int r)=R (.fz (.str (ji c))):=by
 let a:r.toNat<cs.length:=by ext
 show#[cs[r.toNat],e _ (Yd a),GD d b f (Vv a)]
def Ae{n i k:Nat}(h:(VO n)[i]?=R k):k=i/\i<n:=by let(b,a):=Vk.mp h;rw[afN]at a;rw[Wg]at b;show#[a.symm,b]
def MN{n a:Int}{e:G (G Mn)}{b:G Mn}(h:VL n a e)(g:(b.length:Int)=n)(f:∀m∈b,VM e.length a m):VL n a (e++[b]):=by
 intro i l j;rcases L10.cP j with o|⟨rfl,rfl⟩
 .show h i l o
 .show#[g,f]
def vU(c:Int)(k:Nat)(e:k<=1000):∃l,l<26/\dD [.int c,nd k]=.ok (.fz (.str (ji l))):=by let(r,er,g):=d8 c k 3 e ();let a:aF [.int c,nd k,.int 3]=.ok (.fz (nd r)):=er;let(l,b,f):=Jw (z:= "abz") [0,1,25] (by left) (by left) () (show(0:Int)<=(r:Int) by ext) (show(r:Int)<3 by ext);show#[l,b,jN (ρ:=[zf (.int c),zf (nd k)]) W (gC (pv:=.fz (.str (ji l))) (rv:=.fz (.str (ji l))) (ρ1:=[zf (.int c),zf (nd k)]) (aK (rv:=.fz (.str (ji l))) aI (cA (rv:=.fz (nd r)) (ds:=[.int c,nd k,.int 3]) (ao (aj W) (ao (aj W) (ao aI aM))) W W a) W W f) W W)]
def Qu{a:Nat}(b:1<=a):∃M:Nat,C3 [.int 1,.int ((a:Int) - 1)]=R (.fz (nd M))/\1<=M/\(1<a->M=a - 1):=by
 by_cases h:1<a
 .show#[a - 1,?_,by ext,λ_=>W];show R (RV.fz (.int (if(1:Int)<(a:Int) - 1 then(a:Int) - 1 else 1)))=R (RV.fz (.int ((a - 1:Nat):Int)));congr 3;split<;>ext
 .obtain rfl:a=1:=by ext
  show#[1,W,by ext,λh=>by ext]
abbrev E5(c:Int)(L e:Nat)(a b:br PV):bx:=[zf (.int c),zf (nd L),zf (nd e),a,b]
def Ms(c:Int)(L a:Nat)(o:1<=a)(Q:a<=1000):∃m:Mn,VM L a m/\fA [.int c,nd L,nd a]=.ok (.fz (mD m)):=by
 let(j,e0,F):=d8 c 11 12 () ();let(g,v,E):=d8 c 12 4 () ();let(M,O,M1,M2):=Qu o;let(f,u,G):=d8 c 13 M () ();let(n,I,A):=vU c 14 ();let(l,H,y):=vU c 15 ();let e0:aF [.int c,.int 11,.int 12]=.ok (.fz (nd j)):=e0;let v:aF [.int c,.int 12,.int 4]=.ok (.fz (nd g)):=v;let u:aF [.int c,.int 13,nd M]=.ok (.fz (nd f)):=u;let A:dD [.int c,.int 14]=.ok (.fz (.str (ji n))):=A;let y:dD [.int c,.int 15]=.ok (.fz (.str (ji l))):=y;let p:∃S,iB 5 e9 [.int c,nd L,nd a]=.ok S/\∃m:Mn,VM L a m/\S=.fz (mD m):=by
  show ui (T:=λS=>∃m:Mn,VM L a m/\S=.fz (mD m)) (ρ:=E5 c L a Vg Vg) W ?_;ext e9;show ef (ρ3:=E5 c L a (zf (nd j)) Vg) (cA (rv:=.fz (nd j)) (ds:=[.int c,.int 11,.int 12]) (ao (aj W) (ao aI (ao aI aM))) W W e0) W W ?_;show Hn (Go.imp (N:=λr=>∃w:Int,(a=1->w=1\/w=8)/\r=E5 c L a (zf (.int w)) Vg) (HN (b:=decide ((a:Int)=1)) (ρ1:=E5 c L a (zf (nd j)) Vg) (bO (aK (rv:=.fz (.bool (decide ((a:Int)=1)))) (aj W) aI W W (gY _ _)) W) (λq=>?_) (λq=>?_)) (λr #[w,t,e]=>?_) (λ_ h=>h) (λ_ h=>h))
  .obtain⟨x,C,K⟩:∃x:Int,(x=1\/x=8)/\bv (.list [.int 1,.int 1,.int 1,.int 8]) (nd g)=R (.fz (.int x)):=by
    let:g=0\/g=1\/g=2\/g=3:=by ext
    rcases this with rfl|rfl|rfl|rfl
    .show#[1,.inl W,A2 W]
    .show#[1,.inl W,A2 W]
    .show#[1,.inl W,A2 W]
    .show#[8,.inr W,A2 W]
   show Ht (pv:=.fz (.int x)) (ρ2:=E5 c L a (zf (.int x)) Vg) (aK (rv:=.fz (.int x)) (by ext:0) (cA (rv:=.fz (nd g)) (ds:=[.int c,.int 12,.int 4]) (ao (aj W) (ao aI (ao aI aM))) W W v) W W K) W #[x,λ_=>C,W]
  .let q:=of_decide_eq_false q;show xV #[j,λz=>by ext,W]
  subst e;show ef (ρ3:=E5 c L a (zf (.int w)) (zf (.int (1+(f:Int))))) (aK (rv:=.fz (.int (1+(f:Int)))) aI (cA (rv:=.fz (nd f)) (ds:=[.int c,.int 13,nd M]) (ao (aj W) (ao aI (ao (fw (rv:=.fz (nd M)) (ds:=[.int 1,.int ((a:Int) - 1)]) (ao aI (ao (aK (rv:=.fz (.int ((a:Int) - 1))) (aj W) aI W W (lY _ _)) aM)) W O) aM))) W W u) W W (gh _ _)) W W ?_;let i:1<a->(1:Int)<=1+(f:Int)/\1+(f:Int)<a:=λz=>by let:=M2 z;ext
  show pI (b:=decide (w=4)||decide (w=5)) (ρ1:=E5 c L a (zf (.int w)) (zf (.int (1+(f:Int))))) (by ext:0) (λq=>?_) (λ_=>gS ?_)
  .show jH (pv:=.fz (mD (.Yu (1+(f:Int))))) (rv:=.fz (mD (.Yu (1+(f:Int))))) (ρ1:=E5 c L a (zf (.int w)) (zf (.int (1+(f:Int))))) (show _=Res.ok (PV.fz (.tuple [.str "layer",.int (1+(f:Int))]),_) by ext:0) W #[_,?_,W];rw[X0,decide_eq_true_eq,decide_eq_true_eq]at q;show i (abW o λz=>by let:=t z.symm;ext)
  show pI (b:=decide (w=6)||decide (w=7)) (ρ1:=E5 c L a (zf (.int w)) (zf (.int (1+(f:Int))))) (by ext:0) (λq=>?_) (λ_=>gS ?_)
  .show jH (pv:=.fz (mD (.tap n (1+(f:Int))))) (rv:=.fz (mD (.tap n (1+(f:Int))))) (ρ1:=E5 c L a (zf (.int w)) (zf (.int (1+(f:Int))))) (show _=Res.ok (PV.fz (.tuple [.str "tap",.str (ji n),.int (1+(f:Int))]),_) by ext:0) W #[_,?_,W];rw[X0,decide_eq_true_eq,decide_eq_true_eq]at q;show#[I,i (abW o λz=>by let:=t z.symm;ext)]
  show pI (b:=decide (w=8)) (ρ1:=E5 c L a (zf (.int w)) (zf (.int (1+(f:Int))))) (by ext:0) (λq=>?_) (λ_=>gS ?_)
  .show jH (pv:=.fz (mD .none)) (rv:=.fz (mD .none)) (ρ1:=E5 c L a (zf (.int w)) (zf (.int (1+(f:Int))))) (show _=Res.ok (PV.fz (.tuple [.str "none"]),_) by ext:0) W #[.none,trivial,W]
  show pI (b:=decide (w=9)) (ρ1:=E5 c L a (zf (.int w)) (zf (.int (1+(f:Int))))) (by ext:0) (λq=>?_) (λ_=>gS ?_)
  .show jH (pv:=.fz (mD (.once (1+(f:Int))))) (rv:=.fz (mD (.once (1+(f:Int))))) (ρ1:=E5 c L a (zf (.int w)) (zf (.int (1+(f:Int))))) (show _=Res.ok (PV.fz (.tuple [.str "once",.int (1+(f:Int))]),_) by ext:0) W #[_,?_,W];rw[decide_eq_true_eq]at q;show i (abW o λz=>by let:=t z.symm;ext)
  let J:Hf (nd L) (.int 0)=R (.fz (.bool (decide ((0:Int)<L)))):=W;show pI (b:=(decide (9<w)&&decide ((0:Int)<L))) (ρ1:=E5 c L a (zf (.int w)) (zf (.int (1+(f:Int))))) (by ext:0) (λq=>?_) (λ_=>gS ?_)
  .rw[VZ]at q;let P:=a5 q.2;show jH (pv:=.fz (mD .below)) (rv:=.fz (mD .below)) (ρ1:=E5 c L a (zf (.int w)) (zf (.int (1+(f:Int))))) (show _=Res.ok (PV.fz (.tuple [.str "below"]),_) by ext:0) W #[.below,by show(L:Int)≠0;ext,W]
  show gC (pv:=.fz (mD (.V6 l))) (rv:=.fz (mD (.V6 l))) (ρ1:=E5 c L a (zf (.int w)) (zf (.int (1+(f:Int))))) (show _=Res.ok (PV.fz (.tuple [.str "letter",.str (ji l)]),_) by ext:0) W #[.V6 l,H,W]
 let(S,h,m,B,rfl):=p;show#[m,B,h]
structure CsV(l0:G Mn)(cs:G (G Nat×Nat)):Prop where
 vc:∀c∈cs,VC l0 c
 un:cs.Pairwise λa c=>a.1≠c.1
theorem CsV.nil(l0:G Mn):CsV l0 []:=#[λc a=>(by ext a),aay]
def CsV.add(h:CsV l0 cs)(j:2<=s.length)(f:s.Pairwise (·<·))(i:∀k∈s,EE l0 k=P)(g:l<26)(e:s∉cs.map (·.1)):CsV l0 (cs++[(s,l)]):=by
 show#[λc b=>(Wi.mp b).elim (h.vc c) λz=>?_,ae8.mpr #[h.un,W0 _ _,λa m c b=>?_]]
 .rw[Vz.mp z];show#[j,f,i,g]
 .rw[Vz.mp b];show λz=>e (VX.mpr #[a,m,z])
def QC(a:k<l0.length):∃d,bv (lh l0) (nd k)=R (.fz d)/\∃w,bv d (.int 0)=R (.fz (.str w))/\dJ (.str w) (.str "letter")=R (.fz (.bool (EE l0 k))):=by
 let b:EE l0 k=l0[k].isL:=by ext EE;rw[Vv a];rfl
 rw[b];show#[mD l0[k],RB (by rw[Vx,Vv a];rfl),_,rh _,mQ _]
def SK(i:Int)(k:Nat):K8 (.int i) (nd k)=R (.fz (.int (i/2^k))):=by show(if Uo i (k:Int)=P then R (RV.fz (.int (i/2^((k:Nat):Int).toNat)))else M)=_;rw[ag (by ext Uo;show ax ()),WM]
def Rg(x:Int)(k:Nat):Bool:=decide (Builtin.bitAnd (x/2^k) 1=1)
def rE(n m:Nat):G Nat:=(VO n).filter (Rg m)
def Ny:∀n,n<4->∀a,a<2^n->∀b,b<2^n->rE n a=rE n b->a=b:=by left
theorem lJ(p:α->Bool):∀l:G α,rK (l.map λc=>Vo.bool (p c))=R (l.map p)
 |[]=>rfl
 |c::r=>by show(rK (r.map λc=>Vo.bool (p c))).map (p c::·)=_;rw[lJ p r];rfl
def oW(p:α->Bool)(l:G α):Aa [.list (l.map λc=>Vo.bool (p c))]=R (.fz (.bool (l.all p))):=by show(rK _).map (λbs=>RV.fz (.bool (bs.all id)))=_;rw[lJ];show R (RV.fz (.bool _))=_;rw[aiP];rfl
abbrev E7(c:Int)(n:Nat)(l0:G Mn)(cs:G (G Nat×Nat))(a b d:br PV):bx:=[zf (.int c),zf (nd n),zf (lh l0),zo (cs.map gG),a,b,d]
def E8(c:Int)(n:Nat)(D:n<4)(l0:bg Mn)(V:l0.length=n):∃cs,CsV l0 cs/\cs.length<=4/\gQ [.int c,nd n,lh l0]=.ok (.fz (.tuple (cs.map gG))):=by
 let p8:2^n<=8:=Wk (Nat.pow_le_pow_right () (show n<=3 by ext)) ();let rgm:k6 [nd (2^n)]=lD (bZ (VO (2^n))):=ky ();let rgn:k6 [nd n]=lD (bZ (VO n)):=ky ();let X:=Lj n ();let E:∃rv,iB 7 gW [.int c,nd n,lh l0]=.ok rv/\∃cs,CsV l0 cs/\cs.length<=4/\rv=.fz (.tuple (cs.map gG)):=by
  show ui W ?_;ext gW;show ef (ρ3:=E7 c n l0 [] Vg Vg Vg) (by ext:0) W W ?_;show B7 (λi ρ=>∃(cs:bg (bg Nat×Nat)) (A p o:br PV),CsV l0 cs/\cs.length<=4/\(∀s∈cs.map (·.1),∃m,m<i/\m<2^n/\s=rE n m)/\ρ=E7 c n l0 cs A p o) (by ext:0) #[[],Vg,Vg,Vg,CsV.nil _,Wo _,(λs F=>by ext F),W] ?_ ?_
  .rintro i d ρ hi ⟨cs,A,p,o,g,y,v,rfl⟩
   let(k,hk,rfl):=wT hi;let(rfl,e):=Ae hk;show#[E7 c n l0 cs (zf (nd k)) p o,W,?_];let f:k8 (d4 (gN 0) (aW (aO dJ (aO Ds (aO K8 (af 1) (af 0)) (~~~1)) (~~~1))) (af 0) (bZ (VO n)) [Vg,lD (.fz (nd k))] [])=.ok ((rE n k).map nd):=xo nd nd (Rg k) (VO n) (by rw[Wg];ext) W (λj r=>by let Z:=SK (k:Int) j;let Y:Ds (.int ((k:Int)/2^j)) (.int 1)=lD (.fz (.int (Builtin.bitAnd ((k:Int)/2^j) 1))):=W;show bO (aK (aK (aK (aj W) (aj W) W W Z) aI W W Y) aI W W (gY _ _)) W) λj _ _=>aj W;let N:(rE n k).Pairwise (·<·):=ajy _ aav;let P:∀j∈rE n k,j<n:=λj r=>WH.mp (Yn.mp r).1;let U:(rE n k).length<=n:=by let:=aaL (Rg k) (VO n);rw[Wg]at this;show this
   let O:rE n k∉cs.map (·.1):=λz=>by let(m,m1,C,B):=v _ z;let:=Ny n D k e m C B;ext
   let b:∀s∈cs.map (·.1),∃m,m<k+1/\m<2^n/\s=rE n m:=λs F=>by let(m,m1,C,B):=v s F;show#[m,by ext,C,B]
   let Q:∃m,m<k+1/\m<2^n/\rE n k=rE n m:=#[k,by ext,e,W];generalize rE n k=s at f N P U O Q;show ef (fw (ao (fG (by ext:0) W f) aM) W W) W W ?_;let G:cT [.tuple (bZ s)]=lD (.fz (nd s.length)):=(lw _).trans (by rw[gu]);let L:k8 (d4 (gN 0) eD (aO dJ (aO bv (aO bv (af 1) (af 0)) (~~~0)) (pC (.str "letter"))) (bZ s) [Vg,lD (.fz (lh l0))] [])=.ok (s.map λj=>.bool (EE l0 j)):=jv nd (λj=>.bool (EE l0 j)) s () W (λj r=>by let(d,e1,w,e2,e3):=QC (l0:=l0) (k:=j) (by let:=P j r;ext);show aK (aK (aK (aj W) (aj W) W W e1) aI W W e2) aI W W e3);show ef (wH (bO (aK (fw (ao (aj W) aM) W G) aI W W (yQ _ _)) W) λ_=>fw (ao (fG (by ext:0) W L) aM) W (oW _ _)) W W ?_;let(t,K,ht):=d8 c (20+k) 3 () ();let K:=K;let(u,J,hu):=d8 c (40+k) 4 () ();let J:=J;let(l,M,el):=Jw (z:= "abcz") [0,1,2,25] (by left) (by left) () (show(0:Int)<=(u:Int) by ext) (show(u:Int)<4 by ext);let H:cT [.list (cs.map gG)]=lD (.fz (nd cs.length)):=(fP _).trans (by rw[Vj]);generalize hg:(decide ((1:Int)<(s.length:Int))&&s.all (EE l0))=gd;show HN
    (xg (bO (aj W) W) λ_=>xg (bO (aK (fw (ao (ie W) aM) W H) aI W W (nW _ _)) W) λ_=>bO (aK (cA (ao (aj W) (ao (aK aI (aj W) W W (gh _ _)) (ao aI aM))) W W K) aI W W (gY _ _)) W) (λq=>?_) λ_=>xV #[cs,_,_,_,g,y,b,W]
   rw[VZ,VZ]at q;let(I,R,_):=q;let R:=a5 R;rw[<-hg,VZ,Xq]at I;let g3:=a5 I.1;show xk (AL W (df (ao (aj W) (ao (aK aI (cA (ao (aj W) (ao (aK aI (aj W) W W (gh _ _)) (ao aI aM))) W W J) W W el) aM)) W (Vl W)) W W (by rw[Vj];ext) (by show _=[zf (.int c),zf (nd n),zf (lh l0),zo ((cs++[(s,l)]).map gG),_,_,_];rw[VY];rfl)) #[cs++[(s,l)],_,_,_,g.add () N I.2 M O,by rw[Vs];show cs.length+1<=4;ext,λx a=>by
    rw[VY,Wi]at a;rcases a with a|a
    .show b x a
    .rw[Vz.mp a];show Q,W]
  .rintro ρ ⟨cs,A,p,o,g,y,v,rfl⟩;show gC (fw (ao (ie W) aM) W W) W #[cs,g,y,W]
 let(rv,h,cs,T,S,rfl):=E;show#[cs,T,S,h]
def OC(h:1<=n)(g:n<=5)(j:rs.length<=3)(b:rs[0]?=R l0)(i:VL n rs.length rs)(a:CsV l0 cs)(l:cs.length<=4)(f:1<=w)(e:w<=4):VB #[n,rs,cs,w]:=by
 cases rs with
 |nil=>ext b
 |cons x r=>cases VR b;show#[h,g,by show 1<=r.length+1;ext,j,i,l,a.vc,a.un,f,e]
abbrev E9(b:G Int)(a n:Nat)(c:Int)(e:Nat)(f h g d:br PV):bx:=[zf (.list (b.map .int)),zf (nd a),zf (nd n),zf (.int c),zf (nd e),f,h,g,d]
def U1{n:Nat}(a:n=1\/n=2\/n=3):∃w:Nat,0<w/\w<=4/\bv (.list [.int 4,.int 4,.int 2]) (.int ((n:Int) - 1))=R (.fz (nd w)):=by
 rcases a with rfl|rfl|rfl
 .show#[4,by decide,by decide,Fi () W]
 .show#[4,by decide,by decide,Fi () W]
 .show#[2,by decide,by decide,Fi () W]
def UZ{r:Nat}(a:r<5):∃w:Nat,1<=w/\w<=3/\bv (.list [.int 1,.int 2,.int 2,.int 2,.int 3]) (nd r)=R (.fz (nd w)):=by
 let:r=0\/r=1\/r=2\/r=3\/r=4:=by ext
 rcases this with rfl|rfl|rfl|rfl|rfl
 .show#[1,by decide,by decide,A2 W]
 .show#[2,by decide,by decide,A2 W]
 .show#[2,by decide,by decide,A2 W]
 .show#[2,by decide,by decide,A2 W]
 .show#[3,by decide,by decide,A2 W]
def MA(a:G Int):∃n:Nat,(n=1\/n=2\/n=3)/\jz [.list (a.map .int)]=.ok (.fz (nd n)):=by
 let(c,b):=mE a 0;let b:bz [.list (a.map .int),.int 0]=.ok (.fz (.int c)):=b;let(r,er,f):=d8 c 1 4 () ();let er:aF [.int c,.int 1,.int 4]=.ok (.fz (nd r)):=er;obtain⟨n,g,e⟩:∃n:Nat,(n=1\/n=2\/n=3)/\bv (.list [.int 1,.int 2,.int 2,.int 3]) (nd r)=R (.fz (nd n)):=by
  let:r=0\/r=1\/r=2\/r=3:=by ext
  rcases this with rfl|rfl|rfl|rfl
  .show#[1,by decide,A2 W]
  .show#[2,by decide,A2 W]
  .show#[2,by decide,A2 W]
  .show#[3,by decide,A2 W]
 show#[n,g,jN (ρ:=[zf (.list (a.map .int))]) W (gC (pv:=.fz (nd n)) (rv:=.fz (nd n)) (ρ1:=[zf (.list (a.map .int))]) (aK (rv:=.fz (nd n)) (by ext:0) (cA (rv:=.fz (nd r)) (ds:=[.int c,.int 1,.int 4]) (ao (cA (rv:=.fz (.int c)) (ds:=[.list (a.map .int),.int 0]) (ao (aj W) (ao aI aM)) W W b) (ao aI (ao aI aM))) W W er) W W e) W W)]
def JT(g:bg Int)(a n:Nat)(s:n=1\/n=2\/n=3):∃b:Bd,VB b/\b.n=n/\gL [.list (g.map .int),nd a,nd n]=.ok (.fz (bD b)):=by
 let(p,e0):=mE g a;let(U,S,h5):=d8 p 5 5 () ();let S:aF [.int p,.int 5,.int 5]=.ok (.fz (nd U)):=S;let(l,l1,l3,el):=UZ h5;let(w,Y,w4,ew):=U1 s;let(C,R,h6):=d8 p 6 w () Y;let R:aF [.int p,.int 6,nd w]=.ok (.fz (nd C)):=R;let(J,A):=mE g (a+10);let A:bz [.list (g.map .int),.int ((a:Int)+10)]=.ok (.fz (.int J)):=A;let n1:(1:Int)<=(n:Int):=by rcases s with rfl|rfl|rfl<;>decide
 let n3:(n:Int)<=3:=by rcases s with rfl|rfl|rfl<;>decide
 let rgn:k6 [nd n]=lD (bZ (VO n)):=ky ();let rgl:k6 [nd l]=lD (bZ (VO l)):=ky ();let N:∃rv,iB 9 kB [.list (g.map .int),nd a,nd n]=.ok rv/\∃b:Bd,(VB b/\b.n=n)/\rv=.fz (bD b):=by
  show ui (T:=λrv=>∃b:Bd,(VB b/\b.n=n)/\rv=.fz (bD b)) (ρ:=[zf (.list (g.map .int)),zf (nd a),zf (nd n),Vg,Vg,Vg,Vg,Vg,Vg]) W ?_;ext kB;show ef (ρ3:=[zf (.list (g.map .int)),zf (nd a),zf (nd n),zf (.int p),Vg,Vg,Vg,Vg,Vg]) (by ext:0) W W ?_;show ef (ρ3:=E9 g a n p l Vg Vg Vg Vg) (aK (rv:=.fz (nd l)) (by ext:0) (cA (rv:=.fz (nd U)) (ds:=[.int p,.int 5,.int 5]) (ao (aj W) (ao aI (ao aI aM))) W W S) W W el) W W ?_;show ef (ρ3:=E9 g a n p l (zo []) Vg Vg Vg) (by ext:0) W W ?_;show B7 (λi ρ=>∃(e:bg (bg Mn)) (F E:br PV),e.length=i/\VL n l e/\ρ=E9 g a n p l (zo (e.map lh)) F E Vg) (ds:=bZ (VO l)) (ρ1:=E9 g a n p l (zo []) Vg Vg Vg) (by ext:0) #[[],Vg,Vg,W,(λj r h=>by ext h),W] ?_ ?_
  .rintro i d ρ hi ⟨e,F,E,G,I,rfl⟩
   let(L,hL,rfl):=wT hi;let(rfl,hin):=Ae hL;show#[E9 g a n p l (zo (e.map lh)) (zf (nd L)) E Vg,W,?_];let mu:ig (nd n) (nd L)=lD (.fz (.int ((n:Int)*L))):=lS #[by ext,by ext];let(xs,c1,c2,c3):=zZ (gt:=gN 0) (ft:=eD) (fe:=cZ bz 2 {af 1,aO dC (aO dC (aO dC (af 2) (~~~1)) (aO ig (af 3) (af 4))) (af 0)}) (ds:=bZ (VO n)) (ρ:=[Vg,zf (.list (g.map .int)),zf (nd a),zf (nd n),zf (nd L)]) (λρ=>∃o,ρ=[o,zf (.list (g.map .int)),zf (nd a),zf (nd n),zf (nd L)]) (λ_ x=>∃y:Int,x=.int y/\True) #[Vg,W] (by rw[gu,Wg];ext) (by rintro j d z ρ ⟨o,rfl⟩;let(k,hk,rfl):=wT z;let(c,H):=mE g (a+1+n*L+k);let H:bz [.list (g.map .int),.int ((a:Int)+1+(n:Int)*L+k)]=.ok (.fz (.int c)):=H;show#[.int c,_,NC (ρ1:=[zf (nd k),zf (.list (g.map .int)),zf (nd a),zf (nd n),zf (nd L)]) W W (cA (rv:=.fz (.int c)) (ds:=[.list (g.map .int),.int ((a:Int)+1+(n:Int)*L+k)]) (ao (aj W) (ao (aK (rv:=.fz (.int ((a:Int)+1+(n:Int)*L+k))) (aK (rv:=.fz (.int ((a:Int)+1+(n:Int)*L))) (aK (rv:=.fz (.int ((a:Int)+1))) (aj W) aI W W (gh _ _)) (aK (rv:=.fz (.int ((n:Int)*L))) (aj W) (aj W) W W mu) W W (gh _ _)) (aj W) W W (gh _ _)) aM)) W W H) W W,#[_,W],c,W,trivial]);let(cs,rfl,_):=xI (f:=Vo.int) (Q:=λ_ (_:Int)=>True) xs 0 c3;rw[gu,Wg,Vj]at c2;show ef (pv:=.ow (cs.map .int)) (ρ3:=E9 g a n p l (zo (e.map lh)) (zf (nd L)) (zo (cs.map .int)) Vg) (fG (cs:=[.list (g.map .int),nd a,nd n,nd L]) (ds:=bZ (VO n)) (by ext:0) W c1) W W ?_;let(X,c4,c5,c6):=zZ (gt:=gN 0) (ft:=eD) (fe:=cZ fA 3 {af 0,af 1,af 2}) (ds:=cs.map .int) (ρ:=[Vg,zf (nd L),zf (nd l)]) (λρ=>∃o,ρ=[o,zf (nd L),zf (nd l)]) (λ_ x=>∃y:Mn,x=mD y/\VM L l y) #[Vg,W] (by rw[Vj];ext) (by
    rintro j d z ρ ⟨o,rfl⟩;obtain⟨c,rfl⟩:∃c:Int,d=.int c:=by
     rw[Vx]at z;cases q:cs[j]? with
     |none=>rw[q]at z;ext z
     |some x=>rw[q]at z;show#[x,(VR z).symm]
    let(m,K,em):=Ms c L l l1 ();show#[mD m,_,NC (ρ1:=[zf (.int c),zf (nd L),zf (nd l)]) W W (cA (rv:=.fz (mD m)) (ds:=[.int c,nd L,nd l]) (ao (aj W) (ao (aj W) (ao (aj W) aM))) W W em) W W,#[_,W],m,W,K])
   let(u,rfl,q6):=xI (f:=mD) (Q:=λ_ y=>VM L l y) X 0 c6;rw[Vj,Vj]at c5;let M:iJ [.list (u.map mD)]=lD (.fz (lh u)):=W;let O:(e.map lh).length<1000000:=by rw[Vj];ext
   show xk (pv:=.fz .none) (ρ1:=E9 g a n p l (zo (e.map lh++[lh u])) (zf (nd L)) (zf (.list (cs.map .int))) Vg) (AL (pa:=.fz (lh u)) (d:=lh u) W (fw (rv:=.fz (lh u)) (ds:=[.list (u.map mD)]) (ao (fG (cs:=[nd L,nd l]) (ds:=cs.map .int) (kI (ie W) W W) W c4) aM) W M) W W O W) #[e++[u],_,_,by rw[Vs,G];rfl,MN I () (λm hm=>?_),by rw[VY];rfl];let(t,ht):=WX.mp hm;rw[G];show q6 t m ht
  .rintro ρ ⟨e,F,E,G,I,rfl⟩;rw[gu,Wg]at G;obtain⟨v,P⟩:∃v,e[0]?=lD v:=#[_,Vv (show 0<e.length by ext)];let hl0:=(I 0 v P).1;let(cs,K,Z,H):=E8 J n () v ();let i0:bv (.list (e.map lh)) (.int 0)=lD (.fz (lh v)):=Fi () (by show(e.map lh)[0]?=_;rw[Vx,P];rfl);show ef (ρ3:=E9 g a n p l (zo (e.map lh)) F E (zf (.tuple (cs.map gG)))) (cA (rv:=.fz (.tuple (cs.map gG))) (ds:=[.int J,nd n,lh v]) (ao (cA (rv:=.fz (.int J)) (ds:=[.list (g.map .int),.int ((a:Int)+10)]) (ao (aj W) (ao (aK (rv:=.fz (.int ((a:Int)+10))) (aj W) aI W W (gh _ _)) aM)) W W A) (ao (aj W) (ao (aK (rv:=.fz (lh v)) (dx:=.list (e.map lh)) (ie W) aI W W i0) aM))) W W H) W W ?_;let M:iJ [.list (e.map lh)]=lD (.fz (.tuple (e.map lh))):=W;show gC (pv:=.fz (bD #[n,e,cs,1+(C:Int)])) (rv:=.fz (bD #[n,e,cs,1+(C:Int)])) (ρ1:=E9 g a n p l (zo (e.map lh)) F E (zf (.tuple (cs.map gG)))) (df (ds:=[nd n,.tuple (e.map lh),.tuple (cs.map gG),.int (1+(C:Int))]) (ao (aj W) (ao (fw (rv:=.fz (.tuple (e.map lh))) (ds:=[.list (e.map lh)]) (ao (ie W) aM) W M) (ao (aj W) (ao (aK (rv:=.fz (.int (1+(C:Int)))) aI (cA (rv:=.fz (nd C)) (ds:=[.int p,.int 6,nd w]) (ao (aj W) (ao aI (ao (aK (rv:=.fz (nd w)) (dx:=.list [.int 4,.int 4,.int 2]) (by ext:0) (aK (rv:=.fz (.int ((n:Int) - 1))) (aj W) aI W W (lY _ _)) W W ew) aM))) W W R) W W (gh _ _)) aM)))) W (Vl W)) W #[_,#[OC n1 (Int.le_trans n3 ()) () P (by rw[G];show I) K Z () (),W],W]
 let(rv,h,b,(B,hb),rfl):=N;show#[b,B,hb,h]
section
variable{U Q:bH}{Z T Y S:bh}{x y z:SV}{i:Nat}{d:D}{X:bg (D×D)}
def JX(h:Z[i]?=R (.dd X)):u7 Z (.rf i)=R (i,X):=by ext u7;dsimp only;rw[h]
def Mp(a:o U Z=.ok x T)(hd:fd U T=.ok (.rf i) Y)(e:re x=R k)(b:Y[i]?=R (.dd X)):Dy neg o fd U Z=.ok (.fz (.bool ((jZ X k).isSome !=neg))) Y:=by ext Dy;rw[a,fm,hd,fm,e];show((RS.WE Y (u7 Y (.rf i))).bind _)=_;rw[JX b];rfl
def IC(hd:fd U Z=.ok (.rf i) T)(a:o U T=.ok x Y)(f:re x=R k)(e:Y[i]?=R (.dd X))(b:jZ X k=R d):ug fd o U Z=.ok (.fz d) Y:=by ext ug;rw[hd,fm,a,fm,f];show((RS.WE Y (u7 Y (.rf i))).bind _)=_;rw[JX e];show((RS.WE Y (jZ X k)).bind _)=_;rw[b];rfl
def HD(a:o U Z=.ok (.fz d) T)(hd:fd U T=.ok (.rf i) Y)(e:C U Y=.ok x S)(g:re x=R k)(f:S[i]?=R (.dd X))(b:X.length<1000000):wP fd C o U Z=.ok (.nx U) (S.set i (.dd (tU X k d))):=by ext wP;rw[a,fm,hd,fm,e,fm,g];show((RS.WE S (u7 S (.rf i))).bind _)=_;rw[JX f];show(if X.length<1000000 then _ else _)=_;rw[ag b]
def jw(c:o U Z=.ok xs T)(b:xs.length=n)(a:F xs T=.ok x Y):nw F n o U Z=.ok x Y:=by ext nw;rw[c,fm,ag b,a,sH]
end
def rH{l r:bh}:(l++r)[l.length+t]?=r[t]? :=by rw[V5 (),aar]
def Aj{l r:bh}:(l++r).set (l.length+t) c=l++r.set t c:=by rw[List.set_append_right _ _ (),aar]
structure Pl where
 p:D
 b:D
 e:D
def uR(q:Pl):D:=.tuple [q.p,q.b,q.e]
def d6:G Pl->D->br Nat
 |[],_=>M
 |q::r,p=>if Vo.eqv q.p p=P then R 0 else(d6 r p).map (·+1)
def j6:Nat->G Pl->G (D×D)
 |_,[]=>[]
 |k,q::r=>(q.p,nd k)::j6 (k+1) r
theorem ot:∀(k:Nat) (fs:G Pl) (p:D),jZ (j6 k fs) p=(d6 fs p).map λi=>nd (k+i)
 |_,[],_=>rfl
 |k,q::r,p=>by
  let a:=ot (k+1) r p;unfold jZ at a⊢;unfold j6 d6;rw[Wn];cases Vo.eqv q.p p with
  |true=>rfl
  |false=>dsimp only;rw[a,av Vu,Option.map_map];congr 1;funext i;show nd (k+1+i)=nd (k+(i+1));rw[Zv,aca 1 i]
theorem yG:∀(k:Nat) (fs:G Pl) (q:Pl),j6 k (fs++[q])=j6 k fs++[(q.p,nd (k+fs.length))]
 |k,[],q=>rfl
 |k,a::r,q=>by show(a.p,nd k)::j6 (k+1) (r++[q])=(a.p,nd k)::(j6 (k+1) r++[(q.p,nd (k+(r.length+1)))]);rw[yG (k+1) r q,Zv,aca 1 r.length]
theorem DL:∀(k:Nat) (fs:G Pl),(j6 k fs).length=fs.length
 |_,[]=>rfl
 |k,q::r=>eH (·+1) (DL (k+1) r)
def LW(h:d6 fs p=M):tU (j6 0 fs) p (nd fs.length)=j6 0 (fs++[#[p,b,e]]):=by
 let g:=ot 0 fs p;rw[h]at g;unfold jZ at g;let f:((j6 0 fs).find? λa=>Vo.eqv a.1 p)=M:=by
  cases q:(j6 0 fs).find? λa=>Vo.eqv a.1 p with
  |none=>rfl
  |some x=>rw[q]at g;ext g
 ext tU;rw[f,yG,Xs];rfl
def z9(h:d6 fs q.p=M)(f:Vo.eqv q.p q.p=P):d6 (fs++[q]) q.p=R fs.length:=by
 induction fs with
 |nil=>show(if Vo.eqv q.p q.p=P then R 0 else _)=_;rw[ag f];rfl
 |cons a r b=>
  unfold d6 at h;show(if Vo.eqv a.p q.p=P then R 0 else(d6 (r++[q]) q.p).map (·+1))=_;by_cases e:Vo.eqv a.p q.p=P
  .rw[ag e]at h;ext h
  .rw[av e]at h⊢;rw[b (by cases k:d6 r q.p with|none=>rfl|some _=>rw[k]at h;ext h)];rfl
def sk(h:LD.keyD p=P):Vo.eqv p p=P:=by
 show Y9 p (LD.kd_lay p ?_);cases p with
 |tuple xs=>unfold LD.keyD at h;rw[VZ]at h;ext LD.kd;show h.1
 |_=>simp[LD.keyD]at h
def pF(m:Int)(j k:Nat):G (Str×SV):=[("most",.fz (.int m)),("found",.rf j),("numbers",.rf k)]
structure PSt(i j k:Nat)(m:Int)(fs:G Pl)(Z:bh):Prop where
 o:Z[i]?=R (.obj "Places" (pF m j k))
 f:Z[j]?=R (.lst ((fs.map uR).map .fz))
 n:Z[k]?=R (.dd (j6 0 fs))
 jk:j≠k
 ij:i≠j
 ik:i≠k
 lt:fs.length<100000
def uW(j k:Nat)(fs:G Pl)(Z:bh):bh:=(Z.set k (.dd (j6 0 fs))).set j (.lst ((fs.map uR).map .fz))
section
variable{i j k:Nat}{m:Int}{fs:bg Pl}{Z:bh}{p b e:D}
def PSt.ent(h:PSt i j k m fs Z)(l:fs.length+1<100000):PSt i j k m (fs++[q]) (uW j k (fs++[q]) Z):=by
 let g:=(Vk.mp h.f).1;let a:=(Vk.mp h.n).1;show#[?_,?_,?_,h.jk,h.ij,h.ik,by rw[Vs];show l]
 .ext uW;rw[Wm (ej h.ij),Wm (ej h.ik)];show h.o
 .ext uW;rw[W4 (by rw[WU];show g)]
 .ext uW;rw[Wm h.jk,W4 a]
def Jq:(pF m j k).lookup ("most":Str)=R (.fz (.int m)):=by rfl
def mV:(pF m j k).lookup ("found":Str)=R (.rf j):=by rfl
def AB:(pF m j k).lookup ("numbers":Str)=R (.rf k):=by rfl
def qI:(pF m j k).lookup ("enter":Str)=M:=by rfl
theorem IG(a:LD.keyD p=P):re (.fz p)=R p:=ag a
def qD(h:PSt i j k m fs Z)(hm:L9.SL (.int m)=Vi)(N:m<=2000)(E:LD.keyD p=Vi):bG [.rf i,.fz p,.fz b,.fz e] Z=(match d6 fs p with
  |some t=>.ok (.fz (nd t)) Z
  |none=>if m<=(fs.length:Int)then .er #["TooMany",[("most",.int m)]] Z else .ok (.fz (nd fs.length)) (uW j k (fs++[#[p,b,e]]) Z)):=by
 let w:=IG E;let A:∀{a:bh},a[i]?=R (.obj "Places" (pF m j k))->bC "Places" "numbers" (aC 0) [R (.rf i),R (.fz p),R (.fz b),R (.fz e)] a=.ok (.rf k) a:=λz=>i7 (b3 W) z AB;let F:∀{a:bh},a[i]?=R (.obj "Places" (pF m j k))->bC "Places" "found" (aC 0) [R (.rf i),R (.fz p),R (.fz b),R (.fz e)] a=.ok (.rf j) a:=λz=>i7 (b3 W) z mV;let B:∀{a:bh},a[i]?=R (.obj "Places" (pF m j k))->bC "Places" "most" (aC 0) [R (.rf i),R (.fz p),R (.fz b),R (.fz e)] a=.ok (.fz (.int m)) a:=λz=>i7 (b3 W) z Jq;let u:∀{a:bh},ah (af 1) [R (.rf i),R (.fz p),R (.fz b),R (.fz e)] a=.ok (.fz p) a:=ai (aj W);let g:=Mp (neg:=Vi) u (A h.o) w h.n;rw[ot]at g;let get:∀{l:bg Pl} {a:bh} {t:Nat},a[i]?=R (.obj "Places" (pF m j k))->a[k]?=R (.dd (j6 0 l))->d6 l p=R t->gP (ug (bC "Places" "numbers" (aC 0)) (ah (af 1))) [R (.rf i),R (.fz p),R (.fz b),R (.fz e)] a=.ok (.rt (.fz (nd t))) a:=λK J I=>by show jS (IC (A K) u w J ?_);rw[ot,I];show R (nd (0+_))=_;rw[Xs]
 let v:=uu (au (F h.o) aR) (by ext a8;rw[eZ h.f];rfl) ((fP _).trans (by rw[Vj]));cases q:d6 fs p with
 |some t=>rw[q]at g;show kA W ?_;show dG (hG (bj g) gU) (get h.o h.n q)
 |none=>
  rw[q]at g;dsimp only;by_cases r:m<=(fs.length:Int)
  .rw[ag r]
   let y:=bj (cV v (B h.o) (b9 ((Ax _ _).trans (by rw[ax r]))));show de 4 dU _ _=_;ext de;show((dU [R (.rf i),R (.fz p),R (.fz b),R (.fz e)] Z).bind _)=_;let M:dU [R (.rf i),R (.fz p),R (.fz b),R (.fz e)] Z=.er #["TooMany",[("most",.int m)]] Z:=by ext dU;ext aX;rw[fR (bj g) W,fR y W,Fh (B h.o) hm];rfl
   rw[M];rfl
  .rw[av r]
   let y:=bj (cV v (B h.o) (b9 ((Ax _ _).trans (by rw[aP r]))));let C:=HD v (A h.o) u w h.n (by rw[DL];let:=h.lt;ext);rw[LW q]at C;let L:(Z.set k (.dd (j6 0 (fs++[#[p,b,e]]))))[i]?=R (.obj "Places" (pF m j k)):=(Wm (ej h.ik)).trans h.o;let G:(Z.set k (.dd (j6 0 (fs++[#[p,b,e]]))))[j]?=R (.lst ((fs.map uR).map .fz)):=(Wm (ej h.jk)).trans h.f;let H:=wV (fe:=ah (ci {af 1,af 2,af 3})) (x:=.fz (uR #[p,b,e])) (F L) G (ai (df (ao (aj W) (ao (aj W) (ao (aj W) aM))) W (Vl W))) G (by rw[Vj,Vj];let:=h.lt;ext);let f:(Z.set k (.dd (j6 0 (fs++[#[p,b,e]])))).set j (.lst ((fs.map uR).map SV.fz++[.fz (uR #[p,b,e])]))=uW j k (fs++[#[p,b,e]]) Z:=by ext uW;rw[VY,VY];rfl
   rw[f]at H;let P:=h.ent (q:=#[p,b,e]) ();show kA W ?_;show dG (fR (bj g) (dG (hG y gU) (dG C (jE H)))) (get P.o P.n (z9 q (sk E)))
end
def gJ(Z:bh)(m:Int)(fs:G Pl)(J:bh):bh:=Z++(Cell.obj "Places" (pF m (Z.length+1) (Z.length+2)):: .lst ((fs.map uR).map .fz):: .dd (j6 0 fs)::J)
theorem yp(h:fs.length<100000):PSt Z.length (Z.length+1) (Z.length+2) m fs (gJ Z m fs J):=
 #[by let:=rH (l:=Z) (r:=Cell.obj "Places" (pF m (Z.length+1) (Z.length+2)):: .lst ((fs.map uR).map .fz):: .dd (j6 0 fs)::J) (t:=0);show this,rH,rH,by ext,by ext,by ext,h]
def xu:uW (Z.length+1) (Z.length+2) o (gJ Z m fs J)=gJ Z m o J:=by unfold uW gJ;rw[Aj,Aj];rfl
def TM(m:Int):Xc:=#["TooMany",[("most",.int m)]]
def tY(a:0<=m)(h:m<=2000):L9.SL (.int m)=P:=by
 show ax (abT (m:=11) ?_ ());by_cases z:m.natAbs=0
 .rw[z];decide
 .show Zg ((akG z).mpr (show m.natAbs<2048 by ext))
def z5(l:LD.keyD p=Vi)(j:0<=m)(f:m<=2000):b4 [.rf Z.length,.fz p,.fz (.int m)] (Z++[.obj "Places" []])=if m<=0 then .er (TM m) (gJ Z m [] [])else .ok (.fz .none) (gJ Z m [#[p,.none,.none]] []):=by
 let i:gx "Places" "most" (aC 0) (ah (af 2)) [R (.rf Z.length),R (.fz p),R (.fz (.int m))] (Z++[.obj "Places" []])=.ok (.nx [R (.rf Z.length),R (.fz p),R (.fz (.int m))]) (Z++[.obj "Places" [("most",.fz (.int m))]]):=
  (pL (ai (aj W)) (b3 W) bc ()).trans (by rw[gB];rfl)
 let h:gx "Places" "found" (aC 0) (ah (dL aB)) [R (.rf Z.length),R (.fz p),R (.fz (.int m))] (Z++[.obj "Places" [("most",.fz (.int m))]])=.ok (.nx [R (.rf Z.length),R (.fz p),R (.fz (.int m))]) (Z++[.obj "Places" [("most",.fz (.int m)),("found",.rf (Z.length+1))],.lst []]):=by show(pL (fx (by ext:0)) (b3 W) (by rw[Wc];show rH (t:=0)) (Vl W)).trans ?_;rw[Wc,show Z.length=Z.length+0 from rfl,Aj,Vs];rfl
 let g:gx "Places" "numbers" (aC 0) Br [R (.rf Z.length),R (.fz p),R (.fz (.int m))] (Z++[.obj "Places" [("most",.fz (.int m)),("found",.rf (Z.length+1))],.lst []])=.ok (.nx [R (.rf Z.length),R (.fz p),R (.fz (.int m))]) (gJ Z m [] []):=by show(pL W (b3 W) (by rw[Wc];show rH (t:=0)) (Vl W)).trans ?_;rw[Wc,show Z.length=Z.length+0 from rfl,Aj,Vs];rfl
 let P:PSt Z.length (Z.length+1) (Z.length+2) m [] (gJ Z m [] []):=yp ();let n:=qD (b:=.none) (e:=.none) P (tY j f) f l;let a:=xE (F:=bG) (fo:=aC 0) (fa:=aq (ah (af 1)) (aq (ah (pC .none)) (aq (ah (pC .none)) aV))) (ρ:=[R (.rf Z.length),R (.fz p),R (.fz (.int m))]) (b3 W) P.o qI (au (ai (aj W)) (au (ai aI) (au (ai aI) aR))) W;rw[n]at a;let a:pJ "Places" "enter" bG 4 (aC 0) (aq (ah (af 1)) (aq (ah (pC .none)) (aq (ah (pC .none)) aV))) [R (.rf Z.length),R (.fz p),R (.fz (.int m))] (gJ Z m [] [])=if m<=0 then .er (TM m) (gJ Z m [] [])else .ok (.fz (nd 0)) (uW (Z.length+1) (Z.length+2) [#[p,.none,.none]] (gJ Z m [] [])):=a
 rw[xu]at a;show de 3 dr _ _=_;ext de;show((dr [R (.rf Z.length),R (.fz p),R (.fz (.int m))] (Z++[.obj "Places" []])).bind _)=_;ext dr;rw[dG i W,dG h W,dG g W];ext b7;rw[a];split<;>rfl
theorem si:∀{l:G α},(∀a∈l,LD.kd (f a)=P)->LD.kds (l.map f)=P
 |[],_=>by rw[Zb,LD.kds]
 |a::r,h=>by rw[VP,LD.kds,h a Vn,si λx b=>h x (Vr _ b)];rfl
theorem Lh:∀b:G Nat,LD.kds (bZ b)=P:=λb=>si λa _=>by show LD.kd (.int a)=P;rw[LD.kd]
def Oy(h:LB m):LD.kd (mD m)=P:=by
 cases m with
 |V6 c=>show LD.kd (.tuple [.str "letter",.str (ji c)])=P;simp only[LD.kd,LD.kds];rw[nV h,show Vo.strOk "letter"=P by left];rfl
 |Yu n=>show LD.kd (.tuple [.str "layer",.int n])=P;simp only[LD.kd,LD.kds];rw[show Vo.strOk "layer"=P by left];rfl
 |tap c n=>show LD.kd (.tuple [.str "tap",.str (ji c),.int n])=P;simp only[LD.kd,LD.kds];rw[nV h,show Vo.strOk "tap"=P by left];rfl
 |once n=>show LD.kd (.tuple [.str "once",.int n])=P;simp only[LD.kd,LD.kds];rw[show Vo.strOk "once"=P by left];rfl
 |none=>show LD.kd (.tuple [.str "none"])=P;simp only[LD.kd,LD.kds];rw[show Vo.strOk "none"=P by left];rfl
 |below=>show LD.kd (.tuple [.str "below"])=P;simp only[LD.kd,LD.kds];rw[show Vo.strOk "below"=P by left];rfl
def zT(h:SW b s):LD.kd (cN s)=P/\Vo.depth (cN s)<=4:=by
 let j:LD.kds ((g9 s.ac).map pD)=P:=si λq l=>by show LD.kd (.tuple [nd q.1,mD q.2])=P;simp only[LD.kd,LD.kds];rw[Oy (h.sa.ac _ _ (fZ.mp l).2).2.lb];rfl
 let o:∀m:Mn,Vo.depth (mD m)<=1:=λm=>by ext m<;>show Vl W
 let p:Vo.depthAll ((g9 s.ac).map pD)<=2:=r8 λq _=>by show max 0 (max (Vo.depth (mD q.2)) 0)+1<=2;let:=o q.2;ext
 let f:LD.kd (jL s.wt)=P/\Vo.depth (jL s.wt)<=2:=by
  cases q:s.wt with
  |none=>show#[by show LD.kd .none=P;rw[LD.kd],Wo _]
  |some x=>
   let(a,g,w):=x;let v:=(h.wt a g w q).1;constructor
   .show LD.kd (.tuple [.tuple (bZ a),.int g,ud w])=P
    simp only[LD.kd,LD.kds];rw[Lh];cases w with
    |none=>show(P&&(P&&(LD.kd (.tuple [.str "chord"])&&P)))=P;simp only[LD.kd,LD.kds];rw[show Vo.strOk "chord"=P by left];rfl
    |some i=>let(c,n):=i;let lb:LB (.tap c n):=(v.tp c n W).1;show(P&&(P&&(LD.kd (mD (.tap c n))&&P)))=P;rw[Oy lb];rfl
   .show max (Vo.depthAll (bZ a)+1) (max 0 (max (Vo.depth (ud w)) 0))+1<=2
    rw[pK];cases w with
    |none=>show Vl W
    |some i=>show Vl W
 let e:LD.kd (rc s.oc)=P/\Vo.depth (rc s.oc)=0:=by cases s.oc<;>show#[by show LD.kd _=P;ext rc;simp only[LD.kd],W]
 constructor
 .show LD.kd (.tuple [.tuple ((g9 s.ac).map pD),jL s.wt,rc s.oc])=P;simp only[LD.kd,LD.kds];rw[j,f.1,e.1];rfl
 .show max (Vo.depthAll ((g9 s.ac).map pD)+1) (max (Vo.depth (jL s.wt)) (max (Vo.depth (rc s.oc)) 0))+1<=4;rw[e.2];let:=f.2;ext
def v8(h:SW b s):LD.keyD (cN s)=P:=by let(a,e):=zT h;unfold cN at a e⊢;rw[LD.kd]at a;rw[LD.keyD];rw[a,ax (show _<=8 by ext)];rfl
def jh(n:Nat):G Yy:=(VO n).map .down++(VO n).map .up++[.turn]
def qz{b:Bd}{n:Nat}(c:b.n=n):∀e∈jh n,EV b e:=by
 intro e a;rcases Wi.mp a with a|a
 .rcases Wi.mp a with a|a
  .let(k,f,rfl):=VX.mp a;let:=WH.mp f;show(k:Int)<b.n;ext
  .let(k,f,rfl):=VX.mp a;let:=WH.mp f;show(k:Int)<b.n;ext
 .rw[Vz.mp a];trivial
theorem Qw(h:xs.length+ys.length<=1000000):dC (.list xs) (.list ys)=R (.ow (xs++ys)):=ag h
theorem B5(b:Bd):bv (bD b) (.int 0)=R (.fz (.int b.n)):=iL
def HI{b:Bd}{n:Nat}(c:b.n=n)(l:n<=5):d5 [bD b]=.ok (.ow ((jh n).map eY)):=by
 let i:k6 [.int b.n]=R (bZ (VO n)):=by rw[c];show ky ()
 let j:=B5 b;let a:(VO n).length<=1000:=by rw[Wg];ext
 let f:k8 (d4 (gN 0) eD (ci {pC (.str "down"),af 0}) (bZ (VO n)) [M] [])=.ok ((VO n).map λk=>eY (.down k)):=jv nd (λk=>eY (.down k)) (VO n) a W λk _=>df (ao aI (ao (aj W) aM)) W (Vl W);let e:k8 (d4 (gN 0) eD (ci {pC (.str "up"),af 0}) (bZ (VO n)) [M] [])=.ok ((VO n).map λk=>eY (.up k)):=jv nd (λk=>eY (.up k)) (VO n) a W λk _=>df (ao aI (ao (aj W) aM)) W (Vl W);let h:dC (.list ((VO n).map λk=>eY (.down k))) (.list ((VO n).map λk=>eY (.up k)))=R (.ow (((VO n).map λk=>eY (.down k))++(VO n).map λk=>eY (.up k))):=Qw (by rw[Vj,Vj];ext);let g:dC (.list (((VO n).map λk=>eY (.down k))++(VO n).map λk=>eY (.up k))) (.list [eY .turn])=R (.ow ((jh n).map eY)):=(Qw (by rw[Vs,Vj,Vj];show _+1<=_;ext)).trans (by ext jh;rw[VY,VY,Wt,Wt];rfl);show jN W ?_;ext md;show ef (fG (by ext:0) W f) W W ?_;show ef (fG (by ext:0) W e) W W ?_;show gC (aK (aK (ie W) (ie W) W W h) (sY (ao (df (ao aI (ao aI aM)) W (Vl W)) aM) W (Vl W)) W W g) W W
section
variable{Y:bH}{Z S:bh}{i:Nat}{U:dY}{T:SV->bh->Prop}{X:Xc->Prop}
def zD(h:Z[i]?=R (.lst xs)):gy Z (.rf i)=R (i,xs):=by ext gy;dsimp only;rw[h]
def KP(a:o Y Z=.ok (.rf i) Z)(h:Z[i]?=R (.lst xs))(b:Out (U Y Z) (λx c=>∃ys,c[i]?=R (.lst ys)/\ys.length<1000000/\T (.fz .none) (c.set i (.lst (ys++[x])))) X):Out (nZ o U Y Z) T X:=by
 show .eq (show nZ o U Y Z=(U Y Z).bind λx c=>(RS.WE c (gy c (.rf i))).bind λp j=>if p.2.length<1000000 then .ok (.fz .none) (j.set p.1 (.lst (p.2++[x])))else .bad from ?_) (Out.bind (b.imp λx c k=>?_))
 .ext nZ;rw[a,fm,zD h];rfl
 .let(ys,g,f,e):=k;show .eq (r':=RS.ok (SV.fz .none) (c.set i (.lst (ys++[x])))) ?_ #[e];rw[zD g];show(if ys.length<1000000 then _ else _)=_;rw[ag f]
def K3(a:Out (U Y Z) (λx c=>∃ds,sh c x=R (.list ds)/\T (.fz (.tuple ds)) c) X):Out (rR iJ (aq U aV) Y Z) T X:=by
 show .eq (show rR iJ (aq U aV) Y Z=(U Y Z).bind λx c=>uT iJ [x] c from ?_) (Out.bind (a.imp λx c k=>?_))
 .unfold rR aq;cases U Y Z<;>rfl
 .let(ds,e,b):=k;show .eq (r':=RS.ok (SV.fz (.tuple ds)) c) ?_ #[b];unfold uT a8 a8;rw[e];rfl
end
structure Rm where
 s:X6
 b:D
 e:D
def lH(r:Rm):Pl:=#[cN r.s,r.b,r.e]
def ng(fs:G Rm)(s:X6)(b e:D):G Rm:=if(d6 (fs.map lH) (cN s)).isSome=P then fs else fs++[#[s,b,e]]
def jd(fs:G Rm)(s:X6):Nat:=(d6 (fs.map lH) (cN s)).getD fs.length
def gp(b:Bd)(s:X6)(r:Nat)(fs:G Rm)(a:G Yy):G Rm:=a.foldl (λfs e=>ng fs (aQ b s e).1 (nd r) (eY e)) fs
def zn{a:G Yy}(h:a[i]?=R e):gp b s r fs (a.take (i+1))=ng (gp b s r fs (a.take i)) (aQ b s e).1 (nd r) (eY e):=by ext gp;rw[Yt,h,af4];rfl
def NU(fs:G Rm)(s:X6)(b e:D):fs<+:ng fs s b e:=by
 ext ng;split
 .show aao _
 .show List.prefix_append _ _
theorem xt:∀(a:G Yy) (fs:G Rm),fs<+:gp b s r fs a
 |[],fs=>aao _
 |e::a,fs=>(NU fs _ _ _).trans (xt a _)
def zL(a:G Yy)(fs:G Rm)(i:Nat):gp b s r fs (a.take i)<+:gp b s r fs a:=by
 let e:gp b s r fs a=gp b s r (gp b s r fs (a.take i)) (a.drop i):=by ext gp;rw[<-af4,List.take_append_drop]
 rw[e];show xt _ _
theorem r9:∀{fs b:G Pl},d6 fs p=R t->d6 (fs++b) p=R t
 |[],_,h=>by ext h
 |a::r,b,h=>by
  unfold d6 at h;show(if Vo.eqv a.p p=P then R 0 else(d6 (r++b) p).map (·+1))=_;split
  .rename_i e;rw[ag e]at h;show h
  .rename_i e
   rw[av e]at h;cases q:d6 r p with
   |none=>rw[q]at h;ext h
   |some j=>rw[q]at h;rw[r9 q];show h
def Nd(h:fs<+:o)(a:d6 (fs.map lH) (cN s)=R t):jd o s=t:=by let(l,rfl):=h;ext jd;rw[VY,r9 a];rfl
theorem Qr(h:SW b s):Vo.eqv (cN s) (cN s)=P:=sk (v8 h)
def wO(h:SW b s)(x y:D):d6 ((ng fs s x y).map lH) (cN s)=R (jd fs s):=by
 unfold ng jd;cases q:d6 (fs.map lH) (cN s)with
 |some t=>show d6 (fs.map lH) (cN s)=_;rw[q];rfl
 |none=>show d6 ((fs++[(#[s,x,y]:Rm)]).map lH) (cN s)=R fs.length;rw[VY];let:=z9 (q:=#[cN s,x,y]) q (Qr h);rw[Vj]at this;show this
def Rv(h:SW b s)(e:∀r∈fs,SW b r.s):∀r∈ng fs s x y,SW b r.s:=by
 ext ng;split
 .show e
 .intro r a
  rcases Wi.mp a with a|a
  .show e r a
  .rw[Vz.mp a];show h
theorem Bs(a:VB b)(f:SW b s):∀(c:G Yy) (fs:G Rm),(∀e∈c,EV b e)->(∀r∈fs,SW b r.s)->∀q∈gp b s r fs c,SW b q.s
 |[],fs,_,hf=>hf
 |e::c,fs,he,hf=>Bs a f c _ (λx g=>he x (Vr _ g)) (Rv (kz a f (he e Vn)) hf)
def dW(b:Bd)(a:G Yy):Nat->G Rm
 |0=>[#[xz,.none,.none]]
 |i+1=>match(dW b a i)[i]? with
  |some r=>gp b r.s i (dW b a i) a
  |none=>dW b a i
def qJ(h:(dW b o i)[i]?=R r):dW b o (i+1)=gp b r.s i (dW b o i) o:=by show(match(dW b o i)[i]? with|some r=>gp b r.s i (dW b o i) o|none=>dW b o i)=_;rw[h]
def uN(h:(dW b o i).length<=i):dW b o (i+1)=dW b o i:=by show(match(dW b o i)[i]? with|some r=>gp b r.s i (dW b o i) o|none=>dW b o i)=_;rw[aaM h]
def zr(b:Bd)(a:G Yy)(i:Nat):dW b a i<+:dW b a (i+1):=by
 by_cases h:i<(dW b a i).length
 .rw[qJ (Vv h)];show xt _ _
 .rw[uN ()];show aao _
def oP(b:Bd)(c:G Yy)(i k:Nat):dW b c i<+:dW b c (i+k):=by
 induction k with
 |zero=>show aao _
 |succ k a=>show a.trans (zr b c (i+k))
def C8(h:(dW b es N).length<=N)(k:Nat):dW b es (N+k)=dW b es N:=by
 induction k with
 |zero=>rfl
 |succ k a=>rw[<-Zv,uN (by rw[a];ext),a]
theorem nI(a:VB b)(f:∀e∈o,EV b e):∀i,∀r∈dW b o i,SW b r.s
 |0=>λr g=>by rw[Vz.mp g];show kO b
 |i+1=>by
  by_cases h:i<(dW b o i).length
  .rw[qJ (Vv h)];show Bs a (nI a f i _ (Yd h)) o _ f (nI a f i)
  .rw[uN ()];show nI a f i
def N0(b:Bd)(a:G Yy)(i:Nat):1<=(dW b a i).length:=by let:=(oP b a 0 i).length_le;rw[Xs]at this;show this
theorem P5(h:i<(dW b o i).length):i+1<=(dW b o (i+1)).length:=Wk h (zr b o i).length_le
def jj(b:Bd)(s:X6)(e:Yy):D:=.tuple [.list ((aQ b s e).2.map iO),cN (aQ b s e).1]
def nX(b:Bd)(s:X6)(e:Yy):Cell:=.lst (((aQ b s e).2.map iO).map .fz)
def Dv(b:Bd)(s:X6):Nat->G Yy->G SV
 |_,[]=>[]
 |n,e::r=>.tp [.rf n,.fz (cN (aQ b s e).1)]::Dv b s (n+1) r
theorem zN(b:Bd)(s:X6):∀(c:G Yy) (n:Nat) (e:Yy),Dv b s n (c++[e])=Dv b s n c++[.tp [.rf (n+c.length),.fz (cN (aQ b s e).1)]]
 |[],n,e=>rfl
 |a::r,n,e=>by show _::Dv b s (n+1) (r++[e])=_::(Dv b s (n+1) r++_);rw[zN b s r (n+1) e,Zv,aca 1 r.length];rfl
theorem D9(b:Bd)(s:X6):∀(a:G Yy) (n:Nat),(Dv b s n a).length=a.length
 |[],_=>rfl
 |_::r,n=>eH (·+1) (D9 b s r (n+1))
theorem EA(b:Bd)(s:X6):∀(k:G Yy) (Z j:bh),na (frz 3) (Z++(k.map (nX b s)++j)) (Dv b s Z.length k)=lD (k.map (jj b s),Z++(Vw k.length .dead++j))
 |[],Z,j=>rfl
 |e::r,Z,j=>by
  let g:(Z++(nX b s e::(r.map (nX b s)++j)))[Z.length]?=lD (nX b s e):=rH (t:=0);let i:frz 2 (Z++(nX b s e::(r.map (nX b s)++j))) (.rf Z.length)=lD (.list ((aQ b s e).2.map iO),Z++(.dead::(r.map (nX b s)++j))):=by ext frz;rw[g];ext nX;dsimp only;rw[sf];dsimp only;let:=Aj (l:=Z) (r:=nX b s e::(r.map (nX b s)++j)) (t:=0) (c:=.dead);show eH (λz=>lD (Vo.list ((aQ b s e).2.map iO),z)) this
  let h:frz 3 (Z++(nX b s e::(r.map (nX b s)++j))) (.tp [.rf Z.length,.fz (cN (aQ b s e).1)])=lD (jj b s e,Z++(.dead::(r.map (nX b s)++j))):=by
   let f:na (frz 2) (Z++(nX b s e::(r.map (nX b s)++j))) [.rf Z.length,.fz (cN (aQ b s e).1)]=lD ([.list ((aQ b s e).2.map iO),cN (aQ b s e).1],Z++(.dead::(r.map (nX b s)++j))):=by ext na;rw[i];rfl
   ext frz;rw[show([AV.rf Z.length,AV.fz (cN (aQ b s e).1)].map AV.sv)=[.rf Z.length,.fz (cN (aQ b s e).1)]from rfl,f];rfl
  let a:=EA b s r (Z++[.dead]) j;rw[Vs,Wc,Wc]at a;show(match frz 3 (Z++(nX b s e::(r.map (nX b s)++j))) (.tp [.rf Z.length,.fz (cN (aQ b s e).1)])with
   |some (d,n)=>(match na (frz 3) n (Dv b s (Z.length+1) r)with
    |some (ds,m)=>lD (d::ds,m)
    |none=>M)
   |none=>M)=_
  rw[h];dsimp only;rw[show Z++(Cell.dead::(r.map (nX b s)++j))=Z++([Cell.dead]++(r.map (nX b s)++j))from rfl,show Z.length+1=Z.length+[Cell.dead].length from rfl,a];rfl
def B9(m:VB b)(sw:SW b s){c:G Yy}(p:∀e∈c,EV b e)(y:c.length<=1000)(v:ρ[0]?=R (R (.fz (bD b))))(u:ρ[2]?=R (R (.fz (.list (c.map eY)))))(t:ρ[7]?=R (R (.fz (cN s)))):
  ∃J,pk (kT 1 [0,7] (ju (jo (af 2))) (gr 0) g6 (ny STP.io 3 (aq (ah (af 1)) (aq (ah (af 2)) (aq (ah (af 0)) aV))))) ρ Z=.ok (.fz (.list (c.map (jj b s)))) (Z++J):=by
 let A:ju (jo (af 2)) ρ Z=.ok (c.map eY) Z:=lM (kI (aj (by ext cj;rw[Vx,u];rfl)) W W);let h:iy 1 [0,7] ρ=[M,R (.fz (bD b)),R (.fz (cN s))]:=by ext iy;show M::[(ρ[0]?).join,(ρ[7]?).join]=_;rw[v,t];rfl
 let r:=pV (X:=λ_=>False) (gt:=gr 0) (ft:=g6) (fe:=ny STP.io 3 (aq (ah (af 1)) (aq (ah (af 2)) (aq (ah (af 0)) aV)))) (λi a l g=>∃o,a=[o,R (.fz (bD b)),R (.fz (cN s))]/\l=Z++(c.take i).map (nX b s)/\g=Dv b s Z.length (c.take i)) (c.map eY) 0 (iy 1 [0,7] ρ) Z [] #[M,h,by rw[List.take_zero,Zb,V2],W] (by
  rintro i d a l g f ⟨o,rfl,rfl,rfl⟩;rw[Xs];rw[Vx]at f;cases q:c[i]? with
  |none=>rw[q]at f;ext f
  |some e=>
   rw[q]at f;cases VR f;let w:=(Vk.mp q).1;show#[by rw[D9,Xg];ext,[R (.fz (eY e)),R (.fz (bD b)),R (.fz (cN s))],W,W,?_];let n:uD STP.io 3 [.fz (bD b),.fz (cN s),.fz (eY e)] (Z++(c.take i).map (nX b s))=.ok (.tp [.rf (Z++(c.take i).map (nX b s)).length,.fz (cN (aQ b s e).1)]) ((Z++(c.take i).map (nX b s))++[nX b s e]):=N7 m sw (p e (VQ q));show .eq (r':=RS.ok (SV.tp [.rf (Z++(c.take i).map (nX b s)).length,.fz (cN (aQ b s e).1)]) ((Z++(c.take i).map (nX b s))++[nX b s e])) ?_ #[_,W,?_,?_]
   .ext ny;rw[au (ai (aj W)) (au (ai (aj W)) (au (ai (aj W)) aR)),fm,n];rfl
   .rw[Yt,q,VY,Wc];rfl
   .rw[Yt,q];show Dv b s Z.length (c.take i)++_=Dv b s Z.length (c.take i++[e]);rw[zN,Vs,Vj])
 let(xs,z,j,a,o,_,rfl,rfl):=r.all;rw[Xs,Vj,acm]at j;let cm:=oX A j;let fz:frz 4 ((Z++c.map (nX b s))++[Cell.lst (Dv b s Z.length c)]) (.rf (Z++c.map (nX b s)).length)=R (.list (c.map (jj b s)),(Z++(Vw c.length Cell.dead++[Cell.lst (Dv b s Z.length c)])).set (Z++c.map (nX b s)).length .dead):=by ext frz;rw[bc];dsimp only;rw[Wc,EA b s c Z [Cell.lst (Dv b s Z.length c)]]
 rw[Vs,Aj]at fz;show#[_,qU cm (by rw[Vs];show fz)]
theorem Dj(f g:α->D):∀l:G α,lL (l.map f) (l.map g)=l.map λx=>.tuple [f x,g x]
 |[]=>rfl
 |x::r=>by show Vo.tuple [f x,g x]::lL (r.map f) (r.map g)=_;rw[Dj f g r];rfl
def Fu{b:Bd}(B:VB b){s:X6}(sw:SW b s){c:bg Yy}(E:∀e∈c,EV b e)(D:c.length<=1000){ρ:bH}{Z J:bh}{m:Int}{r:Nat}{fs:bg Rm}(I:0<=m)(C:m<=2000)(T:(fs.length:Int)<=m)
  (R:ρ[2]?=lD (lD (.fz (.list (c.map eY))))) (Q:ρ[3]?=lD (lD (.rf Z.length))) (O:ρ[6]?=lD (lD (.fz (nd r)))) (N:ρ[8]?=lD (lD (.fz (.list (c.map (jj b s)))))):
  Out (tO 2 [3,6] (ju (ze {af 2,af 8})) (MH 2 (pQ (gr 0) (pQ (gr 1) A8))) g6 (pJ "Places" "enter" bG 4 (aC 2) (aq (ah (aO bv (af 1) (~~~1))) (aq (ah (af 3)) (aq (ah (af 0)) aV)))) ρ (gJ Z m (fs.map lH) J))
   (λx k=>x=.rf (gJ Z m ((gp b s r fs c).map lH) J).length/\k=gJ Z m ((gp b s r fs c).map lH) (J++[.lst ((c.map λe=>nd (jd (gp b s r fs c) (aQ b s e).1)).map .fz)])/\((gp b s r fs c).length:Int)<=m)
   (λx=>x=TM m/\m<((gp b s r fs c).length:Int)):=by
 let hi:ju (ze {af 2,af 8}) ρ (gJ Z m (fs.map lH) J)=.ok (c.map λe=>.tuple [eY e,jj b s e]) (gJ Z m (fs.map lH) J):=by
  let H:(cj ρ)[2]?=lD (lD (.fz (.list (c.map eY)))):=by ext cj;rw[Vx,R];rfl
  let G:(cj ρ)[8]?=lD (lD (.fz (.list (c.map (jj b s))))):=by ext cj;rw[Vx,N];rfl
  rw[<-Dj];show lM (xK (d:=.list (c.map eY)) (e:=.list (c.map (jj b s))) (ao (aj H) (ao (aj G) aM)) W W W)
 let A:iy 2 [3,6] ρ=[Vg,Vg,lD (.rf Z.length),lD (.fz (nd r))]:=by ext iy;show Vg::Vg::[(ρ[3]?).join,(ρ[6]?).join]=_;rw[Q,O];rfl
 show Cg hi (Out.imp (pV (λi f k l=>∃v u,f=[v,u,lD (.rf Z.length),lD (.fz (nd r))]/\k=gJ Z m ((gp b s r fs (c.take i)).map lH) J/\l=((c.take i).map λe=>nd (jd (gp b s r fs c) (aQ b s e).1)).map .fz/\((gp b s r fs (c.take i)).length:Int)<=m) (c.map λe=>.tuple [eY e,jj b s e]) 0 (iy 2 [3,6] ρ) (gJ Z m (fs.map lH) J) [] #[Vg,Vg,A,W,W,T] ?_) ?_)
 .rintro i d f k l j ⟨v,u,rfl,rfl,rfl,hle⟩
  rw[Xs]at hle⊢;rw[Vx]at j;cases q:c[i]? with
  |none=>rw[q]at j;ext j
  |some e=>
   rw[q]at j;cases VR j;let Y:=(Vk.mp q).1;let y:=E e (VQ q);let g:=kz B sw y;let rt:=zn (b:=b) (s:=s) (r:=r) (fs:=fs) q;let h:=zL (b:=b) (s:=s) (r:=r) c fs (i+1);let S:=Bs B sw (r:=r) (c.take i) fs (λx M=>E x (List.mem_of_mem_take M));generalize hF:gp b s r fs (c.take i)=F at hle rt;show#[by rw[Vj,Vj,Xg];ext,[lD (.fz (eY e)),lD (.fz (jj b s e)),lD (.rf Z.length),lD (.fz (nd r))],W,W,?_];let K:(F.map lH).length<100000:=by rw[Vj];ext
   let P:PSt Z.length (Z.length+1) (Z.length+2) m (F.map lH) (gJ Z m (F.map lH) J):=yp K;let U:=qD (b:=nd r) (e:=eY e) P (tY I C) C (v8 g);let L:bv (jj b s e) (.int 1)=lD (.fz (cN (aQ b s e).1)):=jp;let a:=xE (n:=4) (m:= "enter") (F:=bG) (fo:=aC 2) (fa:=aq (ah (aO bv (af 1) (~~~1))) (aq (ah (af 3)) (aq (ah (af 0)) aV))) (ρ:=[lD (.fz (eY e)),lD (.fz (jj b s e)),lD (.rf Z.length),lD (.fz (nd r))]) (xs:=[.fz (cN (aQ b s e).1),.fz (nd r),.fz (eY e)]) (b3 W) P.o qI (au (ai (aK (rv:=.fz (cN (aQ b s e).1)) (aj W) aI W W L)) (au (ai (aj W)) (au (ai (aj W)) aR))) W;rw[U]at a;let w:=Nd h (s:=(aQ b s e).1) (t:=jd F (aQ b s e).1) (by rw[rt];show wO g _ _);let X:((c.take (i+1)).map λe=>nd (jd (gp b s r fs c) (aQ b s e).1)).map SV.fz=((c.take i).map λe=>nd (jd (gp b s r fs c) (aQ b s e).1)).map .fz++[.fz (nd (jd F (aQ b s e).1))]:=by rw[Yt,q,VY,VY];show _++[SV.fz (nd (jd (gp b s r fs c) (aQ b s e).1))]=_;rw[w]
   rw[X,rt];cases o:d6 (F.map lH) (cN (aQ b s e).1)with
   |some t=>
    rw[o]at a;let p:ng F (aQ b s e).1 (nd r) (eY e)=F:=by ext ng;rw[o];rfl
    let z:jd F (aQ b s e).1=t:=by ext jd;rw[o];rfl
    rw[p,z];show .eq a #[_,_,W,W,W,hle]
   |none=>
    rw[o]at a;let p:ng F (aQ b s e).1 (nd r) (eY e)=F++[#[(aQ b s e).1,nd r,eY e]]:=by ext ng;rw[o];rfl
    let z:jd F (aQ b s e).1=F.length:=by ext jd;rw[o];rfl
    dsimp only at a;rw[Vj]at a;by_cases hm:m<=(F.length:Int)
    .rw[ag hm]at a;show .eq a #[W,?_];let:=h.length_le;rw[rt,p,Vs]at this;let this:F.length+1<=_:=this;ext
    .rw[av hm,xu]at a;rw[p,z];show .eq a #[_,_,W,by rw[VY];rfl,W,?_];rw[Vs];show((F.length+1:Nat):Int)<=m;ext
 .rintro xs k ⟨f,v,u,_,rfl,rfl,hle⟩;rw[Xs,Vj,acm] at*;show#[W,?_,hle];ext gJ;rw[Wc];rfl
def z7(h:Out r T X)(k:∀a Z,T a Z->T' a Z)(b:∀x,X x->X' x):Out r T' X':=by
 show#[?_];let h:=h.out;cases r with
 |bad=>show h
 |er x o=>show b x h
 |ok a o=>show k a o h
def Nv(b:Bd)(a:G Yy)(j:Nat):D:=match(dW b a j)[j]? with
 |some r=>.tuple (a.map λe=>nd (jd (dW b a (j+1)) (aQ b r.s e).1))
 |none=>.none
def G7(b:Bd)(a:G Yy)(j:Nat):D:=match(dW b a j)[j]? with
 |some r=>.tuple (a.map λe=>.tuple ((aQ b r.s e).2.map iO))
 |none=>.none
def kh(b:Bd)(a:G Yy)(n:Nat):G D:=(VO n).map (Nv b a)
def lP(b:Bd)(a:G Yy)(n:Nat):G D:=(VO n).map (G7 b a)
def vf(Z:bh)(m:Int)(b:Bd)(a:G Yy)(n:Nat)(J:bh):bh:=gJ Z m ((dW b a n).map lH) (.lst ((kh b a n).map .fz):: .lst ((lP b a n).map .fz)::J)
def mX:gJ Z m fs (J++K)=gJ Z m fs J++K:=by ext gJ;rw[Wc];rfl
def CV:(gJ Z m fs J).length=Z.length+3+J.length:=by ext gJ;rw[Vs];show Z.length+(J.length+1+1+1)=_;ext
theorem Uz{n:Nat}{v:SV}(h:xs[n]?=R v):nj xs (n:Int)=R v:=yd () (by rw[WM];show h)
abbrev W9(b:Bd)(m:Int)(e:G Yy)(l:Nat)(d c a:br SV):bH:=[R (.fz (bD b)),R (.fz (.int m)),R (.fz (.list (e.map eY))),R (.rf l),R (.rf (l+3)),R (.rf (l+4)),d,c,a]
def Bf(A:VB b){n:Nat}(k:b.n=n)(s:n<=5)(S:0<=m)(R:m<=2000)(a:bh):Out (lU [.fz (bD b),.fz (.int m)] a) (λv c=>∃N J,(dW b (jh n) N).length=N/\(N:Int)<=m/\v=.tp [.rf (a.length+2),.rf (a.length+4),.rf (a.length+5)]/\c=vf (a++[.dead]) m b (jh n) N J) (λx=>x=TM m/\∃i,m<((dW b (jh n) i).length:Int)):=by
 let p:(jh n).length<=1000:=by ext jh;rw[Vs,Vs,Vj,Vj,Wg];show n+n+1<=_;ext
 let l:=qz k;let ev:=HI k s;generalize jh n=f at p l ev;show p9 W ?_;ext uJ;let e1:pk (ah (cZ d5 1 {af 0})) [lD (.fz (bD b)),lD (.fz (.int m)),Vg,Vg,Vg,Vg,Vg,Vg,Vg] a=.ok (.fz (.list (f.map eY))) (a++[.dead]):=by show qU (fx (cA (ao (aj W) aM) W W ev)) ?_;rw[oQ bc,gB]
 show eS e1 W ?_;let U:(a++[Cell.dead]).length=a.length+1:=by rw[Vs];rfl
 let r2:a.length+2=(a++[Cell.dead]).length+1:=by ext
 let r4:a.length+4=(a++[Cell.dead]).length+3:=by ext
 let r5:a.length+5=(a++[Cell.dead]).length+4:=by ext
 rw[r2,r4,r5];generalize a++[Cell.dead]=base;let Q:=Jg (C:= "Places") (F:=b4) (fa:=aq (ah (pC (.tuple [(.tuple []),.none,.none]))) (aq (ah (af 1)) aV)) (ρ:=[lD (.fz (bD b)),lD (.fz (.int m)),lD (.fz (.list (f.map eY))),Vg,Vg,Vg,Vg,Vg,Vg]) (Z:=base) (au (ai (d:=cN xz) (show _=Res.ok (PV.fz (.tuple [.tuple [],.none,.none]),_)from aI)) (au (ai (aj W)) aR)) W;rw[z5 (v8 (kO b)) S R]at Q;show Dk (.eq Q ?_);by_cases hm:m<=0
 .rw[ag hm];show#[W,0,by show m<1;ext]
 rw[av hm];show Out.eq W #[?_];show ko _ _ _ _;show eS (ρ1:=[lD (.fz (bD b)),lD (.fz (.int m)),lD (.fz (.list (f.map eY))),lD (.rf base.length),lD (.rf (base.length+3)),Vg,Vg,Vg,Vg]) ((fx (by ext:0)).trans (by rw[CV,<-mX];rfl)) W ?_;show eS (ρ1:=W9 b m f base.length Vg Vg Vg) ((fx (by ext:0)).trans (by rw[CV,<-mX];rfl)) W ?_;show jI (tR (λn o Z=>∃J j h g,o=W9 b m f base.length j h g/\Z=vf base m b f n J/\n<=(dW b f n).length/\((dW b f n).length:Int)<=m) 2000 () #[[],Vg,Vg,Vg,W,W,Wo _,by show(1:Int)<=m;ext] ?_);rintro n o Z ⟨J,j,h,g,rfl,rfl,hle,hlm⟩;let K:=nI A l n;let lF:((dW b f n).map lH).length<100000:=by rw[Vj];ext
 let P:PSt base.length (base.length+1) (base.length+2) m ((dW b f n).map lH) (vf base m b f n J):=yp lF;let g3:(vf base m b f n J)[base.length+3]?=lD (.lst ((kh b f n).map .fz)):=rH;let O:(kh b f n).length=n:=by ext kh;rw[Vj,Wg]
 let dl:(lP b f n).length=n:=by ext lP;rw[Vj,Wg]
 let y:∀{j h g:br SV},rR cT (aq (aC 4) aV) (W9 b m f base.length j h g) (vf base m b f n J)=.ok (.fz (nd n)) (vf base m b f n J):=uu (au (b3 W) aR) (by ext a8;rw[eZ g3];rfl) ((fP _).trans (by rw[O]));let H:∀{j h g:br SV},bC "Places" "found" (aC 3) (W9 b m f base.length j h g) (vf base m b f n J)=.ok (.rf (base.length+1)) (vf base m b f n J):=i7 (b3 W) P.o mV;let L:rR cT (aq (bC "Places" "found" (aC 3)) aV) (W9 b m f base.length j h g) (vf base m b f n J)=.ok (.fz (nd (dW b f n).length)) (vf base m b f n J):=uu (au H aR) (by ext a8;rw[eZ P.f];rfl) ((fP _).trans (by rw[Vj,Vj]));let q:=bj (cV y L (b9 (nW (n:Int) ((dW b f n).length:Int))));by_cases Y:n<(dW b f n).length
 case neg=>
  rw[aP ()]at q;show .inl #[_,q,?_];let nN:(dW b f n).length=n:=by ext
  show uy (Dh (au H (au (b3 W) (au (b3 W) aR))) (Vl W) W W) #[n,J,nN,by ext,W,W]
 case pos=>
  rw[ax ()]at q;show .inr #[by ext,_,q,?_];obtain⟨r,w⟩:∃r,(dW b f n)[n]?=lD r:=#[_,Vv Y];let u:=K r (VQ w);show eS (x:=.fz (nd n)) (ρ1:=W9 b m f base.length (lD (.fz (nd n))) h g) y W ?_;let st:jU (jU (bC "Places" "found" (aC 3)) (ah (af 6))) (ah (~~~0)) (W9 b m f base.length (lD (.fz (nd n))) h g) (vf base m b f n J)=.ok (.fz (cN r.s)) (vf base m b f n J):=dk (dx:=uR (lH r)) (Cr H (ai (d:=nd n) (aj W)) W P.f (Uz (by rw[Vx,Vx,Vx,w];rfl))) (ai aI) iL;show eS (x:=.fz (cN r.s)) (ρ1:=W9 b m f base.length (lD (.fz (nd n))) (lD (.fz (cN r.s))) g) st W ?_;let(M,ha):=B9 A u l p (ρ:=W9 b m f base.length (lD (.fz (nd n))) (lD (.fz (cN r.s))) g) (Z:=vf base m b f n J) W W W;show eS (x:=.fz (.list (f.map (jj b r.s)))) (ρ1:=W9 b m f base.length (lD (.fz (nd n))) (lD (.fz (cN r.s))) (lD (.fz (.list (f.map (jj b r.s)))))) ha W ?_;let eJ:vf base m b f n J++M=vf base m b f n (J++M):=by ext vf;rw[<-mX];rfl
  rw[eJ];generalize J++M=J;let z:=Fu A u l p (ρ:=W9 b m f base.length (lD (.fz (nd n))) (lD (.fz (cN r.s))) (lD (.fz (.list (f.map (jj b r.s)))))) (Z:=base) (J:=.lst ((kh b f n).map .fz):: .lst ((lP b f n).map .fz)::J) (m:=m) (r:=n) (fs:=dW b f n) S R hlm W W W W;rw[<-qJ w]at z;let E:Nv b f n=.tuple (f.map λe=>nd (jd (dW b f (n+1)) (aQ b r.s e).1)):=by ext Nv;rw[w]
  let G:G7 b f n=.tuple (f.map λe=>.tuple ((aQ b r.s e).2.map iO)):=by ext G7;rw[w]
  let B:kh b f (n+1)=kh b f n++[Nv b f n]:=by ext kh;rw[agY,VY];rfl
  let I:lP b f (n+1)=lP b f n++[G7 b f n]:=by ext lP;rw[agY,VY];rfl
  let z:=z7 z (T':=λx c=>∃ds,sh c x=lD (.list ds)/\(∃ys,c[base.length+3]?=lD (.lst ys)/\ys.length<1000000/\ko (b7 (nZ (aC 5) (ah (gq iJ {fW 1 [] (jo (af 8)) (gN 0) eD (gq iJ {aO bv (af 0) (~~~0)})}))) (W9 b m f base.length (lD (.fz (nd n))) (lD (.fz (cN r.s))) (lD (.fz (.list (f.map (jj b r.s)))))) (c.set (base.length+3) (.lst (ys++[.fz (.tuple ds)])))) (λo Z=>∃J j h g,o=W9 b m f base.length j h g/\Z=vf base m b f (n+1) J/\n+1<=(dW b f (n+1)).length/\((dW b f (n+1)).length:Int)<=m) (λv c=>∃N J,(dW b f N).length=N/\(N:Int)<=m/\v=.tp [.rf (base.length+1),.rf (base.length+3),.rf (base.length+4)]/\c=vf base m b f N J) (λx=>x=TM m/\∃i,m<((dW b f i).length:Int)))) (X':=λx=>x=TM m/\∃i,m<((dW b f i).length:Int)) ?_ (λx T=>#[T.1,n+1,T.2])
  .show Ir (KP (i:=base.length+3) (b3 W) (rH (t:=3)) (K3 z))
  rintro x c ⟨rfl,rfl,hm'⟩;show#[f.map λe=>nd (jd (dW b f (n+1)) (aQ b r.s e).1),?_,(kh b f n).map .fz,rH (t:=3),by rw[Vj,O];ext,?_]
  .show eZ ?_;rw[mX];show bc
  .let w1:(gJ base m ((dW b f (n+1)).map lH) ((.lst ((kh b f n).map .fz):: .lst ((lP b f n).map .fz)::J)++[.lst ((f.map λe=>nd (jd (dW b f (n+1)) (aQ b r.s e).1)).map .fz)])).set (base.length+3) (.lst ((kh b f n).map SV.fz++[.fz (.tuple (f.map λe=>nd (jd (dW b f (n+1)) (aQ b r.s e).1)))]))=gJ base m ((dW b f (n+1)).map lH) (.lst ((kh b f (n+1)).map .fz):: .lst ((lP b f n).map .fz)::(J++[.lst ((f.map λe=>nd (jd (dW b f (n+1)) (aQ b r.s e).1)).map .fz)])):=by
    ext gJ;rw[Aj,B,E,VY];rfl
   rw[w1];generalize J++[Cell.lst ((f.map λe=>nd (jd (dW b f (n+1)) (aQ b r.s e).1)).map .fz)]=J;let cm:k8 (d4 (gN 0) eD (gq iJ {aO bv (af 0) (~~~0)}) (f.map (jj b r.s)) [Vg] [])=.ok (f.map λe=>.tuple ((aQ b r.s e).2.map iO)):=jv (cp:=[]) (jj b r.s) (λe=>.tuple ((aQ b r.s e).2.map iO)) f p W λe _=>by let i0:bv (jj b r.s e) (.int 0)=lD (.fz (.list ((aQ b r.s e).2.map iO))):=iL;show fw (rv:=.fz (.tuple ((aQ b r.s e).2.map iO))) (ds:=[.list ((aQ b r.s e).2.map iO)]) (ao (aK (rv:=.fz (.list ((aQ b r.s e).2.map iO))) (aj W) aI W W i0) aM) W W
   let X:(gJ base m ((dW b f (n+1)).map lH) (.lst ((kh b f (n+1)).map .fz):: .lst ((lP b f n).map .fz)::J))[base.length+4]?=lD (.lst ((lP b f n).map .fz)):=rH (t:=4);let ap:=wV (ρ:=W9 b m f base.length (lD (.fz (nd n))) (lD (.fz (cN r.s))) (lD (.fz (.list (f.map (jj b r.s)))))) (fo:=aC 5) (fe:=ah (gq iJ {fW 1 [] (jo (af 8)) (gN 0) eD (gq iJ {aO bv (af 0) (~~~0)})})) (x:=.fz (G7 b f n)) (b3 W) X (by rw[G];show ai (fw (rv:=.fz (.tuple (f.map λe=>.tuple ((aQ b r.s e).2.map iO)))) (ds:=[.list (f.map λe=>.tuple ((aQ b r.s e).2.map iO))]) (ao (fG (cs:=[]) (ds:=f.map (jj b r.s)) (kI (d:=.list (f.map (jj b r.s))) (aj W) W W) W cm) aM) W W)) X (by rw[Vj,dl];ext);show tZ (jE ap) #[J,_,_,_,W,?_,P5 Y,hm'];unfold vf gJ;rw[Aj,I,VY];rfl
def EH(e:VB b){n:Nat}(d:b.n=n)(j:n<=5)(g:0<=m)(f:m<=2000)(a:bh):Out (eU [.fz (bD b),.fz (.int m)] a) (λv c=>∃N i K,(dW b (jh n) N).length=N/\(N:Int)<=m/\v=.rf (a.length+i)/\c=a++K/\K[i]?=R (.lst ((((dW b (jh n) N).map lH).map uR).map .fz))) (λx=>x=TM m/\∃i,m<((dW b (jh n) i).length:Int)):=by show p9 W ?_;ext wY;show Lz ?_;let p:=Ha (F:=lU) (es:=[]) (fa:=aq (ah (af 0)) (aq (ah (af 1)) aV)) (ρ:=[R (.fz (bD b)),R (.fz (.int m))]) (Z:=a) (au (ai (aj W)) (au (ai (aj W)) aR)) W;show Out.bind (.eq p ((Bf e d j g f a).imp λv c h=>?_));let(N,J,o,l,rfl,rfl):=h;show .eq (r':=RS.ok (SV.rf (a.length+2)) (vf (a++[.dead]) m b (jh n) N J)) ?_ #[N,2,_,o,l,W,(by unfold vf gJ;rw[Wc]),W];rw[ai aI,fm];rfl
theorem Nh(h:bZ o=bZ C):o=C:=(abP λx y e=>by injection e with e;show afQ e).mp h
def Im(h:mD m=mD n):m=n:=by
 let e:=(rh m).symm.trans ((eH (λz=>bv z (.int 0)) h).trans (rh n));injection e with e;injection e with e;injection e with e
 let w:=zh _ (rm m) _ (rm n);rw[show ws (wn m)=ws (wn n)from e,eW]at w;ext m<;>ext n<;>first|rfl|(exfalso;revert w;simp[wn];done)|(injection h with h;injection h with _ h;injection h with h g;injection h with h)
 .rw[sg h]
 .rw[h]
 .injection g with g;injection g with g;rw[sg h,g]
 .rw[h]
def BN(o:VB b)(l:VB c)(C:SW b s)(B:SW c t)(h:cN s=cN t):s=t:=by
 injection h with h
 injection h with h1 h
 injection h with h2 h
 injection h with h3 _
 injection h1 with h1
 let j:=(abP λx y e=>by
  injection e with e;injection e with f e;injection e with e2 _;injection f with f
  show Prod.ext (afQ f) (Im e2)).mp h1
 let G:=funext λk=>Option.ext λa=>#[λe=>by
   let:=(fZ (p:=(k,a))).mpr #[(SA.ak o C.sa k a e).1,e];rw[j]at this;show(fZ.mp this).2,λe=>by
   let:=(fZ (p:=(k,a))).mpr #[(SA.ak l B.sa k a e).1,e];rw[<-j]at this;show(fZ.mp this).2]
 let E:s.wt=t.wt:=by
  revert h2;cases s.wt with
  |none=>cases t.wt with
   |none=>show λ_=>W
   |some y=>show λe=>by ext e
  |some x=>cases t.wt with
   |none=>show λe=>by ext e
   |some y=>
    let(H,g,w):=x;let(I,i,v):=y;intro e;injection e with e;injection e with f e;injection e with e2 e;injection e with e3 _;injection f with f;injection e2 with e2;let f:=Nh f;let:w=v:=by
     revert e3;cases w with
     |none=>cases v with
      |none=>show λ_=>W
      |some q=>show λe=>by injection e with e;injection e with _ e;ext e
     |some p=>cases v with
      |none=>show λe=>by injection e with e;injection e with _ e;ext e
      |some q=>let(A,z):=p;let(u,r):=q;show λe=>by let:=Im (m:=.tap A z) (n:=.tap u r) e;injection this with a b;rw[a,b]
    rw[f,e2,this]
 let F:s.oc=t.oc:=by
  revert h3;cases s.oc<;>cases t.oc<;>intro e
  .rfl
  .ext e
  .ext e
  .injection e with e;rw[e]
 ext s;ext t;ext G;ext E;ext F;rfl
abbrev PP:=X6×X6
def kP(p:PP):D:=.tuple [cN p.1,cN p.2]
def Ee(b c:Bd)(p:PP)(e:Yy):PP:=((aQ b p.1 e).1,(aQ c p.2 e).1)
def Ox(b c:Bd)(p:PP)(e:Yy):Prop:=(aQ b p.1 e).2=(aQ c p.2 e).2
def KN:PP:=(xz,xz)
def RW(b c:Bd)(a:G Yy):Nat->PP->Prop
 |0,p=>p=KN
 |k+1,p=>∃q e,RW b c a k q/\e∈a/\p=Ee b c q e
def PW(b c:Bd)(p:PP):Prop:=SW b p.1/\SW c p.2
structure BB(b c:Bd)(es:G Yy):Prop where
 vb:VB b
 vc:VB c
 eb:∀e∈es,EV b e
 ec:∀e∈es,EV c e
section
variable{b c:Bd}{es:bg Yy}
theorem BB.sw(h:BB b c es):BB c b es:=#[h.vc,h.vb,h.ec,h.eb]
theorem BB.nx(h:BB b c es)(a:PW b c p)(f:e∈es):PW b c (Ee b c p e):=#[kz h.vb a.1 (h.eb e f),kz h.vc a.2 (h.ec e f)]
theorem BB.rw(h:BB b c es):∀{k p},RW b c es k p->PW b c p
 |0,p,e=>by rw[show p=KN from e];show#[kO b,kO c]
 |k+1,p,#[q,e,a,he,f]=>by rw[f];show h.nx (h.rw a) he
def QJ(h:BB b c es)(f:PW b c p)(a:PW b c q)(e:kP p=kP q):p=q:=by
 injection e with e;injection e with e1 e;injection e with e2 _
 show Prod.ext (BN h.vb h.vb f.1 a.1 e1) (BN h.vc h.vc f.2 a.2 e2)
theorem RW.swp:∀{k p},RW b c es k p->RW c b es k p.swap
 |0,p,e=>by rw[show p=KN from e];rfl
 |k+1,p,#[q,e,a,he,f]=>#[q.swap,e,a.swp,he,by rw[f];rfl]
def sM(a:PW b c p):LD.keyD (kP p)=P:=by let(f,h):=zT a.1;let(e,g):=zT a.2;ext kP;rw[LD.keyD];simp only[LD.kds];rw[f,e,ax (show Vo.depth (.tuple [cN p.1,cN p.2])<=8 by show max (Vo.depth (cN p.1)) (max (Vo.depth (cN p.2)) 0)+1<=8;ext)];rfl
structure ApD(b c:Bd)(es:G Yy)(d:Nat):Prop where
 x:∃p e,RW b c es d p/\e∈es/\¬Ox b c p e
 n:∀k p e,k<d->RW b c es k p->e∈es->Ox b c p e
def ApD.one(h:ApD b c es d)(k:ApD b c es d'):d=d':=by
 let(p,e,o,m,l):=h.x;let(j,r,g,f,a):=k.x;by_cases q:d<d'
 .show a6 (k.n d p e q o m) l
 by_cases i:d'<d
 .show a6 (h.n d' j r i g f) a
 ext
def ApD.swp(h:ApD b c es d):ApD c b es d:=by let(p,e,m,l,j):=h.x;show#[#[p.swap,e,m.swp,l,λz=>j z.symm],λk q f g a i=>(h.n k q.swap f g a.swp i).symm]
structure AllP(b c:Bd)(es:G Yy)(l:G PP):Prop where
 u:l.Nodup
 r:∀p∈l,∃k,RW b c es k p
 c:∀k p,RW b c es k p->p∈l
theorem uc:∀{m l:G PP},m.Nodup->(∀x∈m,x∈l)->m.length<=l.length
 |[],_,_,_=>Wo _
 |a::r,l,h,i=>by
  let(g,f,rfl):=List.append_of_mem (i a Vn);rw[Wj]at h;let:=uc (m:=r) (l:=g++f) h.2 λx e=>by
   rcases Wi.mp (i x (Vr _ e))with q|q
   .show Xf _ q
   .rcases VG.mp q with rfl|q
    .show a6 e h.1
    .show Wy _ q
  rw[Vs]at this⊢;rw[VI,VI];ext
def AllP.len(h:AllP b c es l){m:G PP}(a:m.Nodup)(e:∀p∈m,∃k,RW b c es k p):m.length<=l.length:=by show uc a λp f=>?_;let(k,g):=e p f;show h.c k p g
theorem Nx{l:G PP}(h:l.Nodup):(l.map Prod.swap).Nodup:=ac4 _ (λa b n e=>n (by let:=eH Prod.swap e;rwa [Prod.swap_swap,Prod.swap_swap]at this)) h
def AllP.swp(h:AllP b c es l):AllP c b es (l.map Prod.swap):=by
 show#[Nx h.u,λp f=>?_,λk p a=>?_]
 .let(q,e,rfl):=VX.mp f;let(k,a):=h.r q e;show#[k,a.swp]
 .show VX.mpr #[p.swap,h.c k p.swap a.swp,Prod.swap_swap p]
end
theorem Bw:∀{fs:G Pl} {d:D} {t:Nat},d6 fs d=R t->∃q,fs[t]?=R q/\Vo.eqv q.p d=P
 |[],_,_,h=>by ext h
 |a::r,d,t,h=>by
  unfold d6 at h;split at h
  .rename_i e;ext h;show#[a,W,e]
  .cases q:d6 r d with
   |none=>rw[q]at h;ext h
   |some j=>rw[q]at h;ext h;let(x,f,b):=Bw q;show#[x,by simpa using f,b]
structure Pe where
 p:PP
 b:D
 e:D
 d:Nat
def jT(q:Pe):Pl:=#[kP q.p,q.b,q.e]
def RQ:Pe:=#[KN,.none,.none,0]
def Dn(b c:Bd)(fs:G Pe)(q:Pe)(e:Yy):Prop:=Ox b c q.p e/\∃r∈fs,r.p=Ee b c q.p e/\r.d<=q.d+1
structure BI(b c:Bd)(es:G Yy)(fs:G Pe)(n:Nat):Prop where
 z:fs[0]?=R RQ
 bk:∀i q,fs[i]?=R q->0<i->∃j r,j<i/\fs[j]?=R r/\q.b=nd j/\q.d=r.d+1
 rw:∀q∈fs,RW b c es q.d q.p
 mo:fs.Pairwise λq r=>q.d<=r.d
 up:∀q,fs[n]?=R q->∀r∈fs,r.d<=q.d+1
 un:(fs.map (·.p)).Nodup
 dn:∀j q,j<n->fs[j]?=R q->∀e∈es,Dn b c fs q e
section
variable{b c:Bd}{Y:bg Yy}{fs:bg Pe}{n:Nat}
def U5:BI b c Y [RQ] 0:=by
 show#[W,λi q h g=>?_,λq a=>?_,W0 _ _,λq a r e=>?_,W0 _ _,λj q f=>a6 f (ahv _)]
 .match i,g,h with
  |i+1,_,h=>ext h
 .rw[Vz.mp a];rfl
 .rw[Vz.mp e];show Wo _
def Dn.mono(h:Dn b c fs q e)(l:G Pe):Dn b c (fs++l) q e:=by let(a,r,f,x):=h;show#[a,r,Xf _ f,x]
def BI.old(B:BB b c Y)(h:BI b c Y fs n)(j:fs[n]?=R q)(l:e∈Y)(k:Ox b c q.p e)(d:d6 (fs.map jT) (kP (Ee b c q.p e))=R t):Dn b c fs q e:=by
 let(r,a,m):=Bw d;rw[Vx]at a;cases z:fs[t]? with
 |none=>rw[z]at a;ext a
 |some u=>rw[z]at a;ext a;let f:=VQ z;let g:=B.rw (h.rw u f);let i:=B.nx (B.rw (h.rw q (VQ j))) l;show#[k,u,f,QJ B g i (LD.kd_eqv _ _ (LD.keyD_kd (sM g)).1 (LD.keyD_kd (sM i)).1 m),h.up q j u f]
theorem yV:∀{fs:G Pl} {d:D},d6 fs d=M->∀q∈fs,Vo.eqv q.p d=Vq
 |[],_,_,_,f=>by ext f
 |a::r,d,h,q,f=>by
  unfold d6 at h;by_cases e:Vo.eqv a.p d=P
  .rw[ag e]at h;ext h
  .rw[av e]at h
   rcases VG.mp f with rfl|f
   .show af1.mpr e
   .show yV (by cases z:d6 r d with|none=>rfl|some _=>rw[z]at h;ext h) q f
def BI.new(B:BB b c Y)(h:BI b c Y fs n)(l:fs[n]?=R q)(v:e∈Y)(d:d6 (fs.map jT) (kP (Ee b c q.p e))=M):BI b c Y (fs++[#[Ee b c q.p e,nd n,eY e,q.d+1]]) n:=by
 let w:=(Vk.mp l).1;let t:=VQ l;let old:∀{i:Nat} {r:Pe},fs[i]?=R r->(fs++[#[Ee b c q.p e,L3.nd n,eY e,q.d+1]])[i]?=R r:=λx=>(VN (Vk.mp x).1).trans x;show#[old h.z,λi r a o=>?_,λr a=>?_,?_,λr a u g=>?_,?_,λj r E a f F=>?_]
 .by_cases A:i<fs.length
  .rw[VN A]at a;let(j,u,J,I,H):=h.bk i r a o;show#[j,u,J,old I,H]
  .rw[V5 ()]at a
   let z:i - fs.length=0:=by let:=(Vk.mp a).1;rw[Zp]at this;ext
   rw[z]at a;ext a;show#[n,q,by ext,old l,W,W]
 .rcases Wi.mp a with a|a
  .show h.rw r a
  .rw[Vz.mp a];show#[q.p,e,h.rw q t,v,W]
 .rw[ae8];show#[h.mo,W0 _ _,λr a u g=>?_];rw[Vz.mp g];show h.up q l r a
 .rw[VN w,l]at a
  ext a;rcases Wi.mp g with g|g
  .show h.up q l u g
  .rw[Vz.mp g];show Vy _
 .rw[VY,Zf];show#[h.un,W0 _ _,λx C y m G=>?_];let(r,a,rfl):=VX.mp C;let m:y=Ee b c q.p e:=Vz.mp m;let:=yV d (jT r) (VX.mpr #[r,a,W]);rw[show(jT r).p=kP (Ee b c q.p e) by show kP r.p=_;rw[G,m],sk (sM (B.nx (B.rw (h.rw q t)) v))]at this;ext this
 .rw[VN ()]at a;show(h.dn j r E a f F).mono _
def BI.next(h:BI b c Y fs n)(f:fs[n]?=R q)(hd:∀e∈Y,Dn b c fs q e):BI b c Y fs (n+1):=by
 show#[h.z,h.bk,h.rw,h.mo,λr a u o=>?_,h.un,λj r p a e l=>?_]
 .let i:=(Vk.mp f);let g:=(Vk.mp a);let:=YM.mp h.mo n (n+1) i.1 g.1 ();rw[i.2,g.2]at this;let:=h.up q f u o;ext
 .by_cases m:j<n
  .show h.dn j r m a e l
  .let:j=n:=by ext
   subst this;rw[f]at a;ext a;show hd e l
theorem BI.all(h:BI b c Y fs n)(f:fs[n]?=R q):∀k p,k<=q.d->RW b c Y k p->∃r∈fs,r.p=p/\r.d<=k
 |0,p,_,C=>#[RQ,VQ h.z,(show p=KN from C).symm,Vy _]
 |k+1,p,L,#[u,e,J,he,C]=>by
  let(r,v,t,A):=h.all f k u () J;let(j,a):=WX.mp v;let o:j<n:=Decidable.byContradiction λz=>by
   let i:=(Vk.mp f);let g:=(Vk.mp a);by_cases e:n=j
   .subst e;rw[f]at a;ext a;ext
   .let:=YM.mp h.mo n j i.1 g.1 ();rw[i.2,g.2]at this;ext
  let(_,w,m,l,y):=h.dn j r o a e he;show#[w,m,by rw[l,C,t],by ext]
def BI.apart(h:BI b c Y fs n)(a:fs[n]?=R q)(u:e∈Y)(d:¬Ox b c q.p e):ApD b c Y q.d:=by
 show#[#[q.p,e,h.rw q (VQ a),u,d],λk p f y o t=>?_];let(r,w,v,A):=h.all a k p () o;let(j,g):=WX.mp w;let m:j<n:=Decidable.byContradiction λz=>by
  let l:=(Vk.mp a);let i:=(Vk.mp g);by_cases e:n=j
  .subst e;rw[a]at g;ext g;ext
  .let:=YM.mp h.mo n j l.1 i.1 ();rw[l.2,i.2]at this;ext
 rw[<-v];show(h.dn j r m g f t).1
def BI.same(h:BI b c Y fs n)(d:fs.length<=n):AllP b c Y (fs.map (·.p))/\∀k p e,RW b c Y k p->e∈Y->Ox b c p e:=by
 let m:∀q∈fs,∀e∈Y,Dn b c fs q e:=λq C e f=>by let(j,l):=WX.mp C;show h.dn j q (VS (Vk.mp l).1 d) l e f
 let o:∀k p,RW b c Y k p->∃r∈fs,r.p=p:=by
  intro k
  induction k with
  |zero=>show λp a=>#[RQ,VQ h.z,(show p=KN from a).symm]
  |succ k y=>rintro p ⟨u,e,A,f,a⟩;let(r,i,g):=y u A;let(_,w,v,t,_):=m r i e f;show#[w,v,by rw[t,a,g]]
 show#[#[h.un,λp a=>?_,λk p a=>?_],λk p e a f=>?_]
 .let(r,B,rfl):=VX.mp a;show#[r.d,h.rw r B]
 .let(r,i,g):=o k p a;show VX.mpr #[r,i,g]
 .let(r,i,g):=o k p a;rw[<-g];show(m r i e f).1
end
section
variable{ρ:bH}{Z Y X:bh}{x:SV}
def G3(b:o ρ Z=.ok xs Y)(a:uD F n xs Y=.ok x X):ny F n o ρ Z=.ok x X:=by ext ny;rw[b,fm,a];rfl
def Ko(sn:G D)(a:D):frz 4 (Z++[.lst (sn.map .fz)]) (.tp [.rf Z.length,.fz a])=R (.tuple [.list sn,a],Z++[.dead]):=by
 let e:frz 3 (Z++[.lst (sn.map .fz)]) (.rf Z.length)=R (.list sn,Z++[.dead]):=by ext frz;rw[bc];dsimp only;rw[sf];dsimp only;rw[gB]
 let b:na (frz 3) (Z++[.lst (sn.map .fz)]) [.rf Z.length,.fz a]=R ([.list sn,a],Z++[.dead]):=by ext na;rw[e];rfl
 ext frz;rw[show([AV.rf Z.length,AV.fz a].map AV.sv)=[.rf Z.length,.fz a]from rfl,b]
theorem D5(a:VB b)(sw:SW b s)(f:EV b e)(i:fa ρ Z=.ok (.fz (bD b)) Z)(h:fb ρ Z=.ok (.fz (cN s)) Z)(g:fc ρ Z=.ok (.fz (eY e)) Z):pk (ny STP.io 3 (aq fa (aq fb (aq fc aV)))) ρ Z=.ok (.fz (.tuple [.list ((aQ b s e).2.map iO),cN (aQ b s e).1])) (Z++[.dead]):=
 qU (G3 (au i (au h (au g aR))) (N7 a sw f)) (Ko _ _)
end
def RF{b c:Bd}{d:bg Yy}{fs:bg Pe}{n t i j k:Nat}{q:Pe}{m:Int}{Z:bh}(B:BI b c d fs t)(h:PSt i j k m (fs.map jT) Z)(C:fs[n]?=R q):∃(J:bh) (row:bg D),dj [.rf i,.fz (nd n)] Z=.ok (.rf (Z.length+1)) (Z++J)/\J[1]?=R (.lst (row.map .fz))/\row.length=q.d:=by
 let lt:=h.lt;rw[Vj]at lt;let A:Out (dj [.rf i,.fz (nd n)] Z) (λv g=>∃row:bg D,v=.rf (Z.length+1)/\g=Z++[.lst (row.reverse.map .fz),.lst (row.map .fz)]/\row.length=q.d) (λ_=>False):=by
  show p9 W ?_;ext ir;show eS (ρ1:=[R (.rf i),R (.fz (nd n)),R (.rf Z.length),Vg]) (fx (by ext:0)) W ?_;let G:∀{X:bh},PSt i j k m (fs.map jT) (Z++X):=λ{X}=>by let M:=(Vk.mp h.o).1;let L:=(Vk.mp h.f).1;let K:=(Vk.mp h.n).1;show#[(VN M).trans h.o,(VN L).trans h.f,(VN K).trans h.n,h.jk,h.ij,h.ik,h.lt]
  let F:∀{X:bh} {e:bH} {f:dY} {a:Nat} {r:Pe},e[0]?=R (R (.rf i))->f e (Z++X)=.ok (.fz (nd a)) (Z++X)->fs[a]?=R r->jU (bC "Places" "found" (aC 0)) f e (Z++X)=.ok (.fz (uR (jT r))) (Z++X):=λ{X e f a r} h0 w u=>Cr (i7 (b3 h0) G.o mV) w W G.f (Uz (by rw[Vx,Vx,Vx,u];rfl));show eS (x:=.fz (uR (jT q))) (ρ1:=[R (.rf i),R (.fz (nd n)),R (.rf Z.length),R (.fz (uR (jT q)))]) (F W (ai (aj W)) C) W ?_;show jI (tR (λs e g=>∃(row:bg D) (a:Nat) (r:Pe),e=[R (.rf i),R (.fz (nd n)),R (.rf Z.length),R (.fz (uR (jT r)))]/\g=Z++[.lst (row.map .fz)]/\fs[a]?=R r/\row.length=s/\a+s<=n/\row.length+r.d=q.d) 100000 () #[[],n,q,W,W,C,W,Vy _,Xs _] ?_);rintro s e g ⟨row,a,r,rfl,rfl,o,Q,S,hd⟩;let O:=(Vk.mp C).1;by_cases N:a=0
  .subst N;rw[B.z]at o;ext o;let E:bN (aW (aO pc (aO bv (af 3) (~~~1)) (pC .none))) [R (.rf i),R (.fz (nd n)),R (.rf Z.length),R (.fz (uR (jT RQ)))] (Z++[.lst (row.map .fz)])=.ok Vq (Z++[.lst (row.map .fz)]):=bJ (bO (aK (rv:=.fz (.bool Vq)) (aK (rv:=.fz .none) (aj W) aI W W jp) aI W W W) W);show .inl #[_,E,?_];show uy ((KU (xs:=row.map .fz) (b3 W) bc).trans (by rw[Vs,Wc,<-List.map_reverse];rfl)) #[row.reverse,W,by rw[List.reverse_reverse];rfl,by rw[abp];show hd]
  .let(I,y,w,u,p,P):=B.bk a r o ();let E:bN (aW (aO pc (aO bv (af 3) (~~~1)) (pC .none))) [R (.rf i),R (.fz (nd n)),R (.rf Z.length),R (.fz (uR (jT r)))] (Z++[.lst (row.map .fz)])=.ok Vi (Z++[.lst (row.map .fz)]):=bJ (bO (aK (rv:=.fz (.bool Vi)) (aK (rv:=.fz r.b) (aj W) aI W W jp) aI W W (by rw[p];rfl)) W);show .inr #[by ext,_,E,?_];let H:=wV (ρ:=[R (.rf i),R (.fz (nd n)),R (.rf Z.length),R (.fz (uR (jT r)))]) (fo:=aC 2) (fe:=ah (aO bv (af 3) (~~~2))) (x:=.fz r.e) (b3 W) (bc (l:=Z) (x:=Cell.lst (row.map .fz))) (ai (aK (rv:=.fz r.e) (aj W) aI W W sV)) bc (by rw[Vj];ext);rw[gB,show row.map SV.fz++[.fz r.e]=(row++[r.e]).map SV.fz by rw[VY];rfl]at H;show Oj (jE H) ?_;show tZ (ρ1:=[R (.rf i),R (.fz (nd n)),R (.rf Z.length),R (.fz (uR (jT y)))]) (wQ (F W (ai (aK (rv:=.fz (nd I)) (aj W) aI W W (by rw[<-p];show jp))) u) W) #[row++[r.e],I,y,W,W,u,by rw[Vs,Q];rfl,by ext,by rw[Vs];show row.length+1+y.d=_;ext]
 let(v,g,w,row,rfl,rfl,p):=A.all;show#[_,row,w,W,p]
theorem Pn{x y:Sn}(h:x.map iO=y.map iO):x=y:=(abP λp q e=>by
 injection e with e;injection e with e1 e;injection e with e2 _;injection e1 with e1;injection e2 with e2
 show Prod.ext (sg e1) ?_;revert e2;cases p.2<;>cases q.2
 .show λ_=>W
 .show λe=>a6 e (by left)
 .show λe=>a6 e (by left)
 .show λ_=>W).mp h
theorem HA{x:Sn}(h:ZC x):LD.kds (x.map iO)=P:=si λp a=>by show LD.kd (.tuple [.str (ji p.1),.str (if p.2=P then "down" else "up")])=P;simp only[LD.kd,LD.kds];rw[nV (h p a)];cases p.2<;>left
def Sr{x y:Sn}(a:ZC x)(b:ZC y):nk (.list (x.map iO)) (.list (y.map iO))=R (.fz (.bool (decide (x≠y)))):=by
 let e:Vo.eqv (.list (x.map iO)) (.list (y.map iO))=decide (x=y):=by
  rw[Vo.eqv];by_cases q:x=y
  .subst q;rw[ax W];let:=Y9 _ (qE (AI a));rw[Vo.eqv]at this;show this
  .rw[aP q]
   cases z:Vo.eqvAll (x.map iO) (y.map iO)with
   |false=>rfl
   |true=>show a6 (Pn (LD.kds_eqv _ _ (HA a) (HA b) z)) q
 ext nk;rw[AI a,qE (AI b),X7,ag W,e];by_cases q:x=y
 .rw[ax q,aP (not_not_intro q)];rfl
 .rw[aP q,ax q];rfl
def Q2(b:sh Z x=R C)(a:sh Z y=R o)(h:f C o=R (.ow ds)):qp f x y Z=.ok (.rf Z.length) (Z++[.lst (ds.map .fz)]):=by ext qp;rw[b,a];show((RS.WE Z (f C o)).bind λg e=>lZ e g)=_;rw[h];rfl
abbrev AC(b c:Bd)(m:Int)(g:G Yy)(l n:Nat)(f e d a:br SV):bH:=[R (.fz (bD b)),R (.fz (bD c)),R (.fz (.int m)),R (.fz (.list (g.map eY))),R (.rf l),R (.fz (nd n)),f,e,d,a]
def U6(b c:Bd)(e:G Yy)(m:Int)(v:SV)(a:bh):Prop:=
 (∃(i:Nat) (row:G D) (d:Nat),v=.tp [.fz (.str "apart"),.rf i]/\a[i]?=R (.lst (row.map .fz))/\row.length=d+1/\ApD b c e d)\/
 ∃(i:Nat) (l:G PP),v=.tp [.fz (.str "same"),.rf i]/\a[i]?=R (.lst ((l.map kP).map .fz))/\AllP b c e l/\(l.length:Int)<=m
def UO(b c:Bd)(a:G Yy)(m:Int)(x:Xc):Prop:=x=TM m/\∃l:G PP,l.Nodup/\(∀p∈l,∃k,RW b c a k p)/\m<(l.length:Int)
def JB{b c:Bd}(k:VB b)(Y:VB c){n:Nat}(D:b.n=n)(U:c.n=n)(V:n<=5){m:Int}(m0:0<=m)(s:m<=2000)(H:bh):Out (cC [.fz (bD b),.fz (bD c),.fz (.int m)] H) (U6 b c (jh n) m) (UO b c (jh n) m):=by
 let ell:(jh n).length<=1000:=by ext jh;rw[Vs,Vs,Vj,Vj,Wg];show n+n+1<=_;ext
 let ev:=HI D V;let BB:BB b c (jh n):=#[k,Y,qz D,qz U];generalize jh n=es at ell ev BB;show p9 W ?_;ext sJ;let t1:bN (aW (aO nk (aO bv (af 0) (~~~0)) (aO bv (af 1) (~~~0)))) [lD (.fz (bD b)),lD (.fz (bD c)),lD (.fz (.int m)),Vg,Vg,Vg,Vg,Vg,Vg,Vg] H=.ok Vq H:=bJ (bO (aK (rv:=.fz (.bool Vq)) (aK (rv:=.fz (.int b.n)) (aj W) aI W W (B5 b)) (aK (rv:=.fz (.int c.n)) (aj W) aI W W (B5 c)) W W (by rw[D,U];show wa W)) W);show uL t1 (oy ?_);let e1:pk (ah (cZ d5 1 {af 0})) [lD (.fz (bD b)),lD (.fz (bD c)),lD (.fz (.int m)),Vg,Vg,Vg,Vg,Vg,Vg,Vg] H=.ok (.fz (.list (es.map eY))) (H++[.dead]):=by show qU (fx (cA (ao (aj W) aM) W W ev)) ?_;rw[oQ bc,gB]
 show eS e1 W ?_;generalize H++[Cell.dead]=base;let mk:=Jg (C:= "Places") (F:=b4) (fa:=aq (ah (ci {pC (.tuple [(.tuple []),.none,.none]),pC (.tuple [(.tuple []),.none,.none])})) (aq (ah (af 2)) aV)) (ρ:=[lD (.fz (bD b)),lD (.fz (bD c)),lD (.fz (.int m)),lD (.fz (.list (es.map eY))),Vg,Vg,Vg,Vg,Vg,Vg]) (Z:=base) (au (ai (d:=kP KN) (df (ao aI (ao aI aM)) W (Vl W))) (au (ai (aj W)) aR)) W;rw[z5 (sM (b:=b) (c:=c) #[kO b,kO c]) m0 s]at mk;show Dk (.eq mk ?_);by_cases M:m<=0
 .rw[ag M];show#[W,[KN],W0 _ _,λp hp=>#[0,Vz.mp hp],by show m<1;ext]
 rw[av M];show Out.eq W #[?_];show ko _ _ _ _;show eS (ρ1:=AC b c m es base.length 0 Vg Vg Vg Vg) (ai aI) W ?_;show jI (tR (λn ρ Z=>∃(fs:bg Pe) (J:bh) (o6 o7 o8 o9:br SV),ρ=AC b c m es base.length n o6 o7 o8 o9/\Z=gJ base m (fs.map jT) J/\BI b c es fs n/\n<=fs.length/\(fs.length:Int)<=m) 2000 () #[[RQ],[],Vg,Vg,Vg,Vg,W,W,U5,Wo _,by show(1:Int)<=m;ext] ?_);rintro n ρ Z ⟨fs,J,o6,o7,o8,o9,rfl,rfl,bi,hle,hlm⟩;let P:∀{fs:bg Pe} {J:bh},(fs.length:Int)<=m->PSt base.length (base.length+1) (base.length+2) m (fs.map jT) (gJ base m (fs.map jT) J):=λ{fs J} h=>yp (by rw[Vj];ext);let ff:∀{fs:bg Pe} {J:bh} {o6 o7 o8 o9:br SV},(fs.length:Int)<=m->bC "Places" "found" (aC 4) (AC b c m es base.length n o6 o7 o8 o9) (gJ base m (fs.map jT) J)=.ok (.rf (base.length+1)) (gJ base m (fs.map jT) J):=λh=>i7 (b3 W) (P h).o mV;let O:rR cT (aq (bC "Places" "found" (aC 4)) aV) (AC b c m es base.length n o6 o7 o8 o9) (gJ base m (fs.map jT) J)=.ok (.fz (nd fs.length)) (gJ base m (fs.map jT) J):=uu (au (ff hlm) aR) (by ext a8;rw[eZ (P hlm).f];rfl) ((fP _).trans (by rw[Vj,Vj]));let w:=bj (cV (ai (f:=af 5) (aj W)) O (b9 (nW (n:Int) (fs.length:Int))));by_cases ZO:n<fs.length
 case neg=>
  rw[aP ()]at w;show .inl #[_,w,?_];let S:=bi.same ();let is:=x9 (ff (o6:=o6) (o7:=o7) (o8:=o8) (o9:=o9) (J:=J) hlm) (P hlm).f;let U:=ke (gt:=gr 0) (ft:=g6) (fe:=ah (aO bv (af 0) (~~~0))) (λq:Pe=>uR (jT q)) (λq=>SV.fz (kP q.p)) ((gJ base m (fs.map jT) J).set (base.length+1) .dead) (λρ=>∃o,ρ=[o]) fs [Vg] [] #[Vg,W] (by rw[Xb];ext) (λq _ ρ #[o,ho]=>by subst ho;show#[[lD (.fz (uR (jT q)))],W,W,ai (aK (rv:=.fz (kP q.p)) (aj W) aI W W iL),_,W]);let cs:kT 1 [] (kX (bC "Places" "found" (aC 4))) (gr 0) g6 (ah (aO bv (af 0) (~~~0))) (AC b c m es base.length n o6 o7 o8 o9) (gJ base m (fs.map jT) J)=.ok (.rf ((gJ base m (fs.map jT) J).set (base.length+1) .dead).length) ((gJ base m (fs.map jT) J).set (base.length+1) .dead++[.lst (fs.map λq=>SV.fz (kP q.p))]):=oX is (by rw[Wt];show U);show uy (Dh (au (ai aI) (au cs aR)) (Vl W) W W) (.inr #[_,fs.map (·.p),W,?_,S.1,by rw[Vj];show hlm]);rw[bc,Wt,Wt];rfl
 case pos=>
  rw[ax ()]at w;show .inr #[by ext,_,w,?_];obtain⟨q,a⟩:∃q,fs[n]?=lD q:=#[_,Vv ZO];let st:jU (jU (bC "Places" "found" (aC 4)) (ah (af 5))) (ah (~~~0)) (AC b c m es base.length n o6 o7 o8 o9) (gJ base m (fs.map jT) J)=.ok (.fz (kP q.p)) (gJ base m (fs.map jT) J):=dk (dx:=uR (jT q)) (Cr (ff hlm) (ai (d:=nd n) (aj W)) W (P hlm).f (Uz (by rw[Vx,Vx,Vx,a];rfl))) (ai aI) iL;show eS (x:=.fz (kP q.p)) (ρ1:=AC b c m es base.length n (lD (.fz (kP q.p))) o7 o8 o9) st W ?_;show jI (HP (λi ρ Z=>∃(fs:bg Pe) (J:bh) (o7 o8 o9:br SV),ρ=AC b c m es base.length n (lD (.fz (kP q.p))) o7 o8 o9/\Z=gJ base m (fs.map jT) J/\BI b c es fs n/\fs[n]?=lD q/\(fs.length:Int)<=m/\∀e∈es.take i,Dn b c fs q e) (lM (kI (d:=.list (es.map eY)) (aj W) W W)) #[fs,J,o7,o8,o9,W,W,bi,a,hlm,λe he=>by ext he] ?_ ?_)
  .clear w O st ZO a hle bi hlm
   rintro i d ρ Z N ⟨fs,J,o7,o8,o9,rfl,rfl,bi,a,hlm,dn⟩;rw[Vx]at N;cases qe:es[i]? with
   |none=>rw[qe]at N;ext N
   |some e=>
    rw[qe]at N;cases VR N;let B:=VQ qe;let I:=BB.rw (bi.rw q (VQ a));show#[AC b c m es base.length n (lD (.fz (kP q.p))) (lD (.fz (eY e))) o8 o9,_,W,?_];let s1:=D5 (ρ:=AC b c m es base.length n (lD (.fz (kP q.p))) (lD (.fz (eY e))) o8 o9) (Z:=gJ base m (fs.map jT) J) k I.1 (BB.eb e B) (fa:=ah (af 0)) (fb:=ah (aO bv (af 6) (~~~0))) (fc:=ah (af 7)) (ai (aj W)) (ai (aK (rv:=.fz (cN q.p.1)) (aj W) aI W W iL)) (ai (aj W));rw[<-mX]at s1;let k1:=D0 k I.1 (BB.eb e B);let k2:=D0 Y I.2 (BB.ec e B);let E:kP (Ee b c q.p e)=.tuple [cN (aQ b q.p.1 e).1,cN (aQ c q.p.2 e).1]:=W;let A:Ox b c q.p e↔(aQ b q.p.1 e).2=(aQ c q.p.2 e).2:=Iff.rfl;show eS (ρ1:=AC b c m es base.length n (lD (.fz (kP q.p))) (lD (.fz (eY e))) (lD (.fz (.tuple [.list ((aQ b q.p.1 e).2.map iO),cN (aQ b q.p.1 e).1]))) o9) s1 W ?_;let R:=D5 (ρ:=AC b c m es base.length n (lD (.fz (kP q.p))) (lD (.fz (eY e))) (lD (.fz (.tuple [.list ((aQ b q.p.1 e).2.map iO),cN (aQ b q.p.1 e).1]))) o9) (Z:=gJ base m (fs.map jT) (J++[.dead])) Y I.2 (BB.ec e B) (fa:=ah (af 1)) (fb:=ah (aO bv (af 6) (~~~1))) (fc:=ah (af 7)) (ai (aj W)) (ai (aK (rv:=.fz (cN q.p.2)) (aj W) aI W W jp)) (ai (aj W));rw[<-mX]at R;clear s1;generalize aQ b q.p.1 e=u at R k1 E A;generalize aQ c q.p.2 e=v at R k2 E A;show eS (ρ1:=AC b c m es base.length n (lD (.fz (kP q.p))) (lD (.fz (eY e))) (lD (.fz (.tuple [.list (u.2.map iO),cN u.1]))) (lD (.fz (.tuple [.list (v.2.map iO),cN v.1])))) R W ?_;generalize J++[Cell.dead]++[Cell.dead]=J;let Q:bN (aW (aO nk (aO bv (af 8) (~~~0)) (aO bv (af 9) (~~~0)))) (AC b c m es base.length n (lD (.fz (kP q.p))) (lD (.fz (eY e))) (lD (.fz (.tuple [.list (u.2.map iO),cN u.1]))) (lD (.fz (.tuple [.list (v.2.map iO),cN v.1])))) (gJ base m (fs.map jT) J)=.ok (decide (u.2≠v.2)) (gJ base m (fs.map jT) J):=bJ (bO (aK (rv:=.fz (.bool (decide (u.2≠v.2)))) (aK (rv:=.fz (.list (u.2.map iO))) (aj W) aI W W iL) (aK (rv:=.fz (.list (v.2.map iO))) (aj W) aI W W iL) W W (Sr k1 k2)) W);by_cases G:u.2=v.2
    .rw[aP (not_not_intro G)]at Q
     let G:=A.mpr G;show uL Q (oy ?_);let l:=xE (F:=bG) (fo:=aC 4) (fa:=aq (ah (ci {aO bv (af 8) (~~~1),aO bv (af 9) (~~~1)})) (aq (ah (af 5)) (aq (ah (af 7)) aV))) (ρ:=AC b c m es base.length n (lD (.fz (kP q.p))) (lD (.fz (eY e))) (lD (.fz (.tuple [.list (u.2.map iO),cN u.1]))) (lD (.fz (.tuple [.list (v.2.map iO),cN v.1])))) (Z:=gJ base m (fs.map jT) J) (m:= "enter") (n:=4) (b3 W) (P hlm).o qI (au (ai (d:=kP (Ee b c q.p e)) (by rw[E];show df (ao (aK (rv:=.fz (cN u.1)) (aj W) aI W W jp) (ao (aK (rv:=.fz (cN v.1)) (aj W) aI W W jp) aM)) W (Vl W))) (au (ai (aj W)) (au (ai (aj W)) aR))) W;rw[qD (P hlm) (tY () s) s (sM (BB.nx I B))]at l;show Hh ?_;let tk:es.take (i+1)=es.take i++[e]:=by rw[Yt,qe];rfl
     cases qi:d6 (fs.map jT) (kP (Ee b c q.p e))with
     |some t=>
      rw[qi]at l;show .eq l #[fs,J,_,_,_,W,W,bi,a,hlm,λf g=>?_];rw[tk]at g;rcases Wi.mp g with g|g
      .show dn f g
      .rw[Vz.mp g];show bi.old BB a B G qi
     |none=>
      rw[qi]at l;dsimp only at l;rw[Vj]at l;let bn:=bi.new BB a B qi;by_cases hm:m<=(fs.length:Int)
      .rw[ag hm]at l
       show .eq l #[W,_,bn.un,λp hp=>?_,?_]
       .let(r,L,rfl):=VX.mp hp;show#[r.d,bn.rw r L]
       .rw[Vj,Vs];show m<((fs.length+1:Nat):Int);ext
      .rw[av hm,xu]at l
       let T:=(Vk.mp a).1;show .eq l #[fs++[#[Ee b c q.p e,nd n,eY e,q.d+1]],J,_,_,_,W,by rw[VY];rfl,bn,(VN T).trans a,?_,λf g=>?_]
       .rw[Vs];show((fs.length+1:Nat):Int)<=m;ext
       .rw[tk]at g
        rcases Wi.mp g with g|g
        .show(dn f g).mono _
        .rw[Vz.mp g];show#[G,_,Wy _ Vn,W,Vy _]
    .rw[ax G]at Q
     let nal:¬Ox b c q.p e:=λz=>G (A.mp z);show wG Q ?_;let(K,row,w1,w2,w3):=RF bi (P (J:=J) hlm) a;let l:bp "Places" "way_to" dj 2 (aC 4) (aq (ah (af 5)) aV) (AC b c m es base.length n (lD (.fz (kP q.p))) (lD (.fz (eY e))) (lD (.fz (.tuple [.list (u.2.map iO),cN u.1]))) (lD (.fz (.tuple [.list (v.2.map iO),cN v.1])))) (gJ base m (fs.map jT) J)=.ok (.rf ((gJ base m (fs.map jT) J).length+1)) (gJ base m (fs.map jT) J++K):=CF (b3 W) (P hlm).o (by rfl) (au (ai (aj W)) aR) W w1;let g1:∀{X:bh},(gJ base m (fs.map jT) J++K++X)[(gJ base m (fs.map jT) J).length+1]?=lD (.lst (row.map .fz)):=λ{X}=>by rw[Wc,rH,VN (Vk.mp w2).1];show w2
     let dl:row.length<=2000:=by
      let:∀(t:Nat) (r:Pe),fs[t]?=lD r->r.d<=t:=by
       intro t
       induction t using Nat.strongRecOn with
       |ind t ih=>
        intro r L;by_cases t0:t=0
        .subst t0;rw[bi.z]at L;ext L;show Vy _
        .let(j,r',h1,h2,_,h4):=bi.bk t r L ();let:=ih j h1 r' h2;ext
      let:=this n q a;let T:=(Vk.mp a).1;ext
     let ad:=cV (f:=dC) l (fx (f:=dL {af 7}) (ds:=[eY e]) (by ext:0)) (Q2 (eZ g1) (eZ bc) (Qw (by show row.length+1<=_;ext)));show sd (Dh (au (ai aI) (au ad aR)) (Vl W) W W) (.inl #[_,row++[eY e],q.d,W,bc,by rw[Vs,w3];rfl,bi.apart a B nal])
  .rintro ρ Z ⟨fs,J,o7,o8,o9,rfl,rfl,bi,a,hlm,dn⟩;rw[Vj,acm]at dn;let T:=(Vk.mp a).1;show tZ (P4 (Z3:=[]) (i:=5) (x:=.fz (nd n)) (y:=.fz (.int 1)) (z:=.fz (nd (n+1))) W (ai aI) (b9 W)) #[fs,J,_,_,_,_,W,W,bi.next a dn,T,hlm]
def ND(h:fs<+:o)(q:d6 fs p=R t):d6 o p=R t:=by let(l,rfl):=h;show r9 q
def UN(fs:G Rm):Prop:=∀j r,fs[j]?=R r->d6 (fs.map lH) (cN r.s)=R j
def RE(h:UN fs)(sw:SW b s)(x y:D):UN (ng fs s x y):=by
 let e:=wO (fs:=fs) sw x y;unfold ng jd at*;cases q:d6 (fs.map lH) (cN s)with
 |some t=>show h
 |none=>
  rw[q]at e;rw[av (show¬(M:br Nat).isSome=P by nofun)]at e⊢;intro j r a;by_cases f:j<fs.length
  .rw[VN f]at a;rw[VY];show r9 (h j r a)
  .rw[V5 ()]at a
   let g:j - fs.length=0:=by let:=(Vk.mp a).1;simp at this;ext
   rw[g]at a;ext a;let:j=fs.length:=by ext
   subst this;show e
theorem Jj(a:VB b)(f:SW b s):∀(c:G Yy) (fs:G Rm),(∀e∈c,EV b e)->UN fs->UN (gp b s r fs c)
 |[],_,_,h=>h
 |e::c,fs,he,h=>Jj a f c _ (λx g=>he x (Vr _ g)) (RE h (kz a f (he e Vn)) _ _)
theorem BH(a:VB b)(f:∀e∈o,EV b e):∀i,UN (dW b o i)
 |0=>λj r g=>by
  let l:j=0:=by let:=(Vk.mp g).1;let h:(dW b o 0).length=1:=W;ext
  subst l;ext g;show ag (sk (v8 (kO b)))
 |i+1=>by
  cases q:(dW b o i)[i]? with
  |none=>rw[uN (by simpa using q)];show BH a f i
  |some r=>rw[qJ q];show Jj a (nI a f i r (VQ q)) o _ f (BH a f i)
def Nq(a:VB b)(f:SW b s)(g:∀e∈o,EV b e){i:Nat}(h:o[i]?=R e):∃t,d6 ((gp b s r fs o).map lH) (cN (aQ b s e).1)=R t:=by let:=zL (b:=b) (s:=s) (r:=r) o fs (i+1);rw[zn h]at this;show#[_,ND (this.map lH) (wO (kz a f (g e (VQ h))) _ _)]
structure Sy where
 a:G Nat
 w:G Nat
 g:Nat
deriving DecidableEq
def own(a:G Nat)(w:G Nat):G Nat:=w.foldl (λa j=>a.set j 1) a
def Sy.dec(b:Sy):Sy:=#[own b.a b.w,[],0]
def Tq(b:Sy)(j:Nat):Sy:=
 if b.a.getD j 0≠0\/j∈b.w then b else match b.w with
 |[]=>if j<3 then#[b.a,[j],0]else#[b.a.set j 1,[],0]
 |[x]=>if j<3 then#[b.a,[x,j],b.g]else#[(b.a.set x 1).set j 1,[],0]
 |x::y::_=>if j<3 then#[((b.a.set x 2).set y 3).set j 3,[],0]else#[((b.a.set x 1).set y 1).set j 1,[],0]
def Tr(b:Sy)(j:Nat):Sy:=if j∈b.w then#[(own b.a b.w).set j 0,[],0]else#[b.a.set j 0,b.w,b.g]
def To(W:Nat)(b:Sy):Sy:=if b.w=[]then b else if b.g+1=W then b.dec else#[b.a,b.w,b.g+1]
def u8(W:Nat)(a:Sy):Yy->Sy
 |.down j=>Tq a j
 |.up j=>Tr a j
 |.turn=>To W a
def K5(f:Nat->Nat)(c k:Nat):Nat->br Mn
 |1=>R (.V6 (f k))
 |2=>R (.V6 c)
 |3=>R .none
 |_=>M
structure GB(b:Bd)(n W:Nat)(K f:Nat->Nat)(c:Nat)(C:G Nat):Prop where
 ls:b.ls=[(VO n).map λk=>.V6 (f k)]
 cs:b.cs=[(C,c)]
 wt:b.wt=W
 c3:C.length=3
 cp:C.Pairwise (·<·)
 ck:∀j,j<n->(K j∈C↔j<3)
 kn:∀j,j<n->K j<n
 ki:∀i j,i<n->j<n->K i=K j->i=j
 ks:∀k,k<n->∃j,j<n/\K j=k
 n3:3<=n
 n5:n<=5
structure Rep(n:Nat)(K f:Nat->Nat)(c:Nat)(σ:Sy)(s:X6):Prop where
 oc:s.oc=M
 wt:s.wt=if σ.w=[]then M else R (σ.w.map K,(σ.g:Int),M)
 ac:∀j,j<n->s.ac (K j)=K5 f c (K j) (σ.a.getD j 0)
 no:∀k,n<=k->s.ac k=M
 al:σ.a.length=n
 wl:σ.w.length<=2
 w3:∀j∈σ.w,j<3/\σ.a.getD j 0=0
 wu:σ.w.Nodup
 a4:∀x∈σ.a,x<4
 g0:σ.w=[]->σ.g=0
section
variable{b:Bd}{n W:Nat}{K f:Nat->Nat}{c:Nat}{C:bg Nat}{Z Y:Sy}{s t:X6}
def Rep.one(G:GB b n W K f c C)(h:Rep n K f c Z s)(d:Rep n K f c Z t):s=t:=by
 let l:s.ac=t.ac:=funext λk=>by
  by_cases e:k<n
  .let(j,a,rfl):=G.ks k e;rw[h.ac j a,d.ac j a]
  .rw[h.no k (),d.no k ()]
 let g:=h.wt.trans d.wt.symm;let i:=h.oc.trans d.oc.symm;ext s;ext t;ext l;ext g;ext i;rfl
def Mx{k x y:Nat}(a:c≠f k)(g:x<4)(e:y<4)(h:K5 f c k x=K5 f c k y):x=y:=by
 let:x=0\/x=1\/x=2\/x=3:=by ext
 let:y=0\/y=1\/y=2\/y=3:=by ext
 rcases ‹x=0\/_›with rfl|rfl|rfl|rfl<;>rcases ‹y=0\/_›with rfl|rfl|rfl|rfl<;>first|rfl|(ext h;done)|(injection h with h;injection h with h;show a6 h (ej a))|(injection h with h;injection h with h;show a6 h a)|(injection h with h;ext h)
def Rep.inj(G:GB b n W K f c C)(z:∀j,j<n->c≠f (K j))(h:Rep n K f c Z s)(a:Rep n K f c Y s):Z=Y:=by
 let B:Z.a=Y.a:=by
  show agM (h.al.trans a.al.symm) λj o m=>?_;let r:j<n:=by rw[<-h.al];show o
  let e:=(h.ac j r).symm.trans (a.ac j r);simp only[Wa,Vv o,Vv m,aaf]at e;show Mx (z j r) (h.a4 _ (Yd o)) (a.a4 _ (Yd m)) e
 let e:=h.wt.symm.trans a.wt;let A:Z.w=Y.w/\Z.g=Y.g:=by
  by_cases o:Z.w=[]
  .by_cases m:Y.w=[]
   .show#[o.trans m.symm,(h.g0 o).trans (a.g0 m).symm]
   .rw[ag o,av m]at e;ext e
  .by_cases m:Y.w=[]
   .rw[av o,ag m]at e;ext e
   .rw[av o,av m]at e
    injection e with e;injection e with q p;injection p with p _
    show#[?_,by ext];let y:=eH Zu q;rw[Vj,Vj]at y;show agM y λi v u=>?_;let:=eH (λl=>l[i]?) q;simp only[Vx,Vv v,Vv u,af2,alR]at this;show G.ki _ _ (by let:=(h.w3 _ (Yd v)).1;let:=G.n3;ext) (by let:=(a.w3 _ (Yd u)).1;let:=G.n3;ext) this
 ext Z;ext Y;let(q,p):=A;ext B;ext q;ext p;rfl
def Rep.lay(G:GB b n W K f c C)(h:Rep n K f c Z s):lay s.ac s.oc=0:=by
 rw[h.oc];show ve s.ac=0;let e:(g9 s.ac).filterMap OL=[]:=by
  rw[List.filterMap_eq_nil_iff];rintro⟨k,m⟩ g;let(o,a):=fZ.mp g;by_cases i:k<n
  .let(j,l,rfl):=G.ks k i;rw[h.ac j l]at a;unfold K5 at a;split at a<;>ext a<;>rfl
  .let a:=a;rw[h.no k ()]at a;ext a
 ext ve;rw[e];rfl
def GB.mAt(G:GB b n W K f c C)(a:k<n):mAt b 0 k=.V6 (f k):=by ext STP.mAt;rw[G.ls];show(((VO n).map λk=>Mn.V6 (f k))[k]?).getD .none=_;rw[Vx,YQ a];rfl
def GB.look(G:GB b n W K f c C)(a:k<n):look b 0 k=.V6 (f k):=by ext STP.look;rw[show(0:Int).toNat=0 from rfl,G.mAt a];rfl
def GB.over(G:GB b n W K f c C)(d:bg Nat):over b d=if∀k∈d,k∈C then[(C,c)]else[]:=by
 ext STP.over;rw[G.cs];by_cases h:∀k∈d,k∈C
 .rw[ag h,YJ,ag (by rw[Xq];show λk a=>ax (h k a))];rfl
 .rw[av h,YJ,av (by rw[Xq];show λz=>h λk a=>a5 (z k a))];rfl
def GB.few(G:GB b n W K f c C){d:bg Nat}(g:d.length<=2)(a:∀k∈d,k<n):KJ b d=d.map λk=>.V6 (f k):=by ext KJ;rw[G.cs,Wn,aP (by intro e;let:=eH Zu e;rw[De,show(C,c).1=C from rfl,G.c3]at this;ext)];show YR λk h=>G.mAt (a k h)
theorem tN:∀{l m:G Nat},l.Perm m->l.Pairwise (·<=·)->m.Pairwise (·<·)->l=m
 |[],m,p,_,_=>p.nil_eq
 |x::l,[],p,_,_=>a6 p.length_eq (by simp)
 |x::l,y::m,p,h1,h=>by
  let e:x=y:=by
   let g:=p.mem_iff.mp (Vn);let a:=p.mem_iff.mpr (Vn);rcases VG.mp g with e|g
   .show e
   .rcases VG.mp a with e|a
    .show e.symm
    .let:=(W2.mp h1).1 y a;let:=(W2.mp h).1 x g;ext
  subst e;rw[tN (List.perm_cons x|>.mp p) (W2.mp h1).2 (W2.mp h).2]
theorem yP:∀{l m:G Nat},l.Nodup->(∀x∈l,x∈m)->m.length<=l.length->l.Perm m
 |[],m,_,_,h=>by rw[List.eq_nil_of_length_eq_zero (Nat.le_zero.mp h)]
 |a::r,m,q,p,h=>by
  let(o,j):=Wj.mp q;let i:=p a Vn;show((yP j (λx g=>?_) ?_).cons a).trans (List.perm_cons_erase i).symm
  .show(ae9 (λe:x=a=>o (e▸g))).mpr (p x (Vr _ g))
  .rw[adM i];rw[VI]at h;ext
def GB.all(G:GB b n W K f c C){d:bg Nat}(a:d.length=3)(h:d.Nodup)(g:∀k∈d,k∈C):KJ b d=[.V6 c,.none,.none]:=by let p:=yP h g (by rw[G.c3,a];show Vy _);let e:=(tN ((oK d).trans p) (uI d) G.cp).symm;ext KJ;rw[G.cs,Wn,ax (show(C,c).1=qQ d from e),a];rfl
structure AcR(n:Nat)(K f:Nat->Nat)(c:Nat)(a:G Nat)(A:Ac):Prop where
 ac:∀j,j<n->A (K j)=K5 f c (K j) (a.getD j 0)
 no:∀k,n<=k->A k=M
 al:a.length=n
 a4:∀x∈a,x<4
theorem Rep.acr(h:Rep n K f c Z s):AcR n K f c Z.a s.ac:=#[h.ac,h.no,h.al,h.a4]
def AcR.up{ac:Ac}(G:GB b n W K f c C)(h:AcR n K f c a ac)(g:j<n)(m:x<4)(e:K5 f c (K j) x=o):AcR n K f c (a.set j x) (k9 ac (K j) o):=by
 show#[λi r=>?_,λk p=>?_,by rw[WU];show h.al,λy l=>?_]
 .ext k9
  by_cases q:i=j
  .subst q;rw[ag rfl,Wa,W4 (by rw[h.al];show r)];show e.symm
  .rw[av (λz=>q (G.ki i j r g z)),Wa,Wm (ej q),<-Wa];show h.ac i r
 .ext k9;rw[av (by let:=G.kn j g;ext)];show h.no k p
 .rcases List.mem_or_eq_of_mem_set l with q|q
  .show h.a4 y q
  .rw[q];show m
theorem AcR.rep(h:AcR n K f c a s.ac)(g:s.oc=M)(e:s.wt=M):Rep n K f c #[a,[],0] s:=#[g,e,h.ac,h.no,h.al,Wo _,(λj i=>by ext i),Xv,h.a4,λ_=>rfl]
def se(G:GB b n W K f c C)(h:AcR n K f c a s.ac)(l:s.oc=M)(o:s.wt=R (w.map K,g,M))(m:w.length<=2)(i:∀j∈w,j<3):Rep n K f c #[own a w,[],0] (cQ b (s,sn)).1:=by
 let r:=G.n3;let e:cQ b (s,sn)=jr ({s with wt:=M},sn) ((w.map K).zip (KJ b (w.map K))):=by ext cQ;rw[o];rfl
 rw[e,G.few (by rw[Vj];show m) (λk p=>by let(j,q,rfl):=VX.mp p;show G.kn j (by let:=i j q;ext))]
 match w,m,i with
 |[],_,_=>show AcR.rep h l rfl
 |[x],_,i=>show AcR.rep (h.up G (by let:=i x Vn;ext) () rfl) l rfl
 |[x,y],_,i=>show AcR.rep ((h.up G (by let:=i x Vn;ext) () rfl).up G (by let:=i y (Vr _ Vn);ext) () rfl) l rfl
def wB(G:GB b n W K f c C)(h:Rep n K f c #[a,[],0] s)(g:j<n)(d:a.getD j 0=0):Rep n K f c (if j<3 then#[a,[j],0]else#[a.set j 1,[],0]) (Ff b (s,sn) (K j)).1:=by
 let l:=h.lay G;let o:=h.wt;let e:Ff b (s,sn) (K j)=if(decide ((0:Int)=0)&& !(over b [K j]).isEmpty)=P then({s with oc:=M,wt:=R ([K j],0,M)},sn)else gM ({s with oc:=M},sn) (K j) (.V6 (f (K j))):=by ext Ff;rw[l,G.look (G.kn j g)];rfl
 rw[e,G.over];by_cases q:j<3
 .let m:=(G.ck j g).mpr q;rw[ag q,ag (by rw[ag (λk p=>by rw[Vz.mp p];show m)];rfl)];show#[rfl,rfl,h.ac,h.no,h.al,Vl rfl,λi r=>by rw[Vz.mp r];show#[q,d],W0 _ _,h.a4,λz=>nomatch z]
 .rw[av q,av (by rw[av (λz=>q ((G.ck j g).mp (z _ (List.mem_singleton_self _))))];decide)];show AcR.rep (h.acr.up G g () rfl) rfl o
def HG(a:x<4):(K5 f c k x).isSome=decide (x≠0):=by
 let:x=0\/x=1\/x=2\/x=3:=by ext
 rcases this with rfl|rfl|rfl|rfl<;>rfl
def K6{a:G Nat}(h:∀x∈a,x<4)(j:Nat):a.getD j 0<4:=by
 rw[Wa];cases q:a[j]? with
 |none=>show(by decide:0<4)
 |some x=>show h x (VQ q)
def Rep.isW(G:GB b n W K f c C)(h:Rep n K f c Z s)(a:j<n):isW s.wt (K j)=decide (j∈Z.w):=by
 let g:=G.n3;rw[h.wt];by_cases q:Z.w=[]
 .rw[ag q,q];rfl
 .rw[av q];show decide_eq_decide.mpr #[λz=>?_,λz=>VX.mpr #[j,z,rfl]];let(i,l,e):=VX.mp z;rw[<-G.ki i j (by let:=(h.w3 i l).1;ext) a e];show l
def Rep.down(G:GB b n W K f c C)(h:Rep n K f c Z s)(p:j<n):Rep n K f c (Tq Z j) (aQ b s (.down (K j))).1:=by
 let U:=G.n3;let J:=h.lay G;let S:(s.ac (K j)).isSome=decide (Z.a.getD j 0≠0):=by rw[h.ac j p,HG (K6 h.a4 j)]
 let hi:=h.isW G p;show Rep n K f c (Tq Z j) (l8 b (s,[]) (K j)).1;unfold l8 Tq;rw[S,hi];by_cases q:Z.a.getD j 0≠0\/j∈Z.w
 .rw[ag q,ag (by rw[X0,decide_eq_true_eq,decide_eq_true_eq];show q)];show h
 rw[av q,av (show¬(decide (Z.a.getD j 0≠0)||decide (j∈Z.w))=Vi by rw[X0,decide_eq_true_eq,decide_eq_true_eq];show q)];let(F,E):=not_or.mp q;let F:=Decidable.of_not_not F;let(a,w,g):=Z;let m:=h.wt;let l:=λx B=>(G.ck x (by let:=(h.w3 x B).1;ext)).mpr (h.w3 x B).1;let H:¬j<3->∀x∈w,a.set x 1=a.set x 1/\x≠j:=λz x B=>#[rfl,by let:=(h.w3 x B).1;ext]
 match w,h,m,l,E,H with
 |[],h,m,_,_,_=>let A:s.wt=Vg:=m;rw[av (show¬Ag b s (K j)=Vi by ext Ag;rw[A];show Vu),show cQ b (s,[])=(s,[]) by ext cQ;dsimp only;rw[A]];let T:=h.g0 rfl;subst T;show wB G h p F
 |[x],h,m,l,E,H=>
  let A:=m;let B:=h.w3 x Vn;let I:Ag b s (K j)=decide (j<3):=by
   ext Ag;rw[A];show(decide (STP.lay s.ac s.oc=0)&& !(STP.over b [K x,K j]).isEmpty)=_;rw[J,G.over];by_cases z:j<3
   .rw[ag (λk o=>by
     rcases VG.mp o with rfl|o
     .show l x Vn
     .rw[Vz.mp o];show(G.ck j p).mpr z),ax z];rfl
   .rw[av (λy=>z ((G.ck j p).mp (y _ (Vr _ Vn)))),aP z];rfl
  rw[I];show Rep n K f c (if j<3 then#[a,[x,j],g]else#[(a.set x 1).set j 1,[],0]) _;by_cases z:j<3
  .rw[ag z,ag (ax z)]
   let e:pU b (s,[]) (K j)=({s with wt:=lD ([K x,K j],(g:Int),Vg)},[]):=by
    ext pU;rw[A];show(if(STP.over b [K x,K j]).map (·.1.length)=[2]then _ else _)=_;rw[av (by
     rw[G.over];split
     .show¬[C.length]=[2];rw[G.c3];decide
     .show λy=>nomatch y)]
    rfl
   rw[e];show#[h.oc,rfl,h.ac,h.no,h.al,Vy _,λi hi=>by
    rcases VG.mp hi with rfl|hi
    .show B
    .rw[Vz.mp hi];show#[z,F],Wj.mpr #[λy=>E (by rw[Vz.mp y];show Vn),W0 _ _],h.a4,λy=>nomatch y]
  .rw[av z,av (by rw[aP z];show Vu)];let d:=se G (sn:=[]) h.acr h.oc A h.wl λi hi=>(h.w3 i hi).1;let:=wB G (sn:=(cQ b (s,[])).2) d p (by show(a.set x 1).getD j 0=0;rw[Wa,Wm (H z x Vn).2,<-Wa];show F);rw[av z]at this;show this
 |x::y::[],h,m,l,E,H=>
  let A:=m;let B:=h.w3 x Vn;let X:=h.w3 y (Vr _ Vn);let M:x≠y:=λe=>(Wj.mp h.wu).1 (by rw[e];show Vn);let I:Ag b s (K j)=decide (j<3):=by
   ext Ag;rw[A];show(decide (STP.lay s.ac s.oc=0)&& !(STP.over b [K x,K y,K j]).isEmpty)=_;rw[J,G.over];by_cases z:j<3
   .rw[ag (λk o=>by
     rcases VG.mp o with rfl|o
     .show l x Vn
     .rcases VG.mp o with rfl|o
      .show l y (Vr _ Vn)
      .rw[Vz.mp o];show(G.ck j p).mpr z),ax z];rfl
   .rw[av (λv=>z ((G.ck j p).mp (v _ (Vr _ (Vr _ Vn))))),aP z];rfl
  rw[I];show Rep n K f c (if j<3 then#[((a.set x 2).set y 3).set j 3,[],0]else#[((a.set x 1).set y 1).set j 1,[],0]) _;by_cases z:j<3
  .rw[ag z,ag (ax z)]
   let L:∀k∈[K x,K y,K j],k∈C:=λk o=>by
    rcases VG.mp o with rfl|o
    .show l x Vn
    .rcases VG.mp o with rfl|o
     .show l y (Vr _ Vn)
     .rw[Vz.mp o];show(G.ck j p).mpr z
   let R:x≠j:=λe=>E (by rw[<-e];show Vn);let Q:y≠j:=λe=>E (by rw[<-e];show Vr _ Vn);let nd:[K x,K y,K j].Nodup:=by let P:K x≠K y:=λe=>M (G.ki _ _ () () e);let O:K x≠K j:=λe=>R (G.ki _ _ () p e);let N:K y≠K j:=λe=>Q (G.ki _ _ () p e);simp[P,O,N]
   let e:pU b (s,[]) (K j)=jr ({s with wt:=Vg},[]) ([K x,K y,K j].zip [.V6 c,.none,.none]):=by ext pU;rw[A];show(if(STP.over b [K x,K y,K j]).map (·.1.length)=[3]then cQ b ({s with wt:=lD ([K x,K y,K j],(g:Int),Vg)},[])else _)=_;rw[ag (by rw[G.over,ag L];show[C.length]=[3];rw[G.c3]),<-G.all rfl nd L];rfl
   rw[e];show AcR.rep (((h.acr.up G () () rfl).up G () () rfl).up G p () rfl) h.oc rfl
  .rw[av z,av (by rw[aP z];show Vu)];let d:=se G (sn:=[]) h.acr h.oc A h.wl λi hi=>(h.w3 i hi).1;let:=wB G (sn:=(cQ b (s,[])).2) d p (by show((a.set x 1).set y 1).getD j 0=0;rw[Wa,Wm (H z y (Vr _ Vn)).2,Wm (H z x Vn).2,<-Wa];show F);rw[av z]at this;show this
 |x::y::u::r,h,_,_,_,_=>show a6 h.wl (by simp)
def Kf(G:GB b n W K f c C)(h:AcR n K f c a s.ac)(g:j<n):AcR n K f c (a.set j 0) (go (s,sn) (K j)).1.ac/\(go (s,sn) (K j)).1.wt=s.wt/\(go (s,sn) (K j)).1.oc=s.oc:=by
 let u:=h.up G g () (show K5 f c (K j) 0=M from rfl);ext go;cases q:s.ac (K j)with
 |some m=>show#[u,rfl,rfl]
 |none=>
  show#[?_,rfl,rfl];let e:k9 s.ac (K j) M=s.ac:=funext λi=>by
   ext k9;by_cases z:i=K j
   .rw[ag z,z,q]
   .rw[av z]
  rw[e]at u;show u
def Rep.up(G:GB b n W K f c C)(h:Rep n K f c Z s)(g:j<n):Rep n K f c (Tr Z j) (aQ b s (.up (K j))).1:=by
 let p:=h.isW G g;show Rep n K f c (Tr Z j) (vg b (s,[]) (K j)).1;unfold vg Tr;rw[p];by_cases q:j∈Z.w
 .rw[ag q,ag (ax q)]
  let ne:Z.w≠[]:=λe=>by rw[e]at q;ext q
  let o:=h.wt.trans (av ne);let d:=se G (sn:=[]) h.acr h.oc o h.wl λi p=>(h.w3 i p).1;let e:STP.dH b (s,[]) (K j)=cQ b (s,[]):=by ext STP.dH;dsimp only;rw[o]
  rw[e];let(a,m,l):=Kf G d.acr g;show AcR.rep a (l.trans d.oc) (m.trans d.wt)
 .rw[av q,av (by rw[aP q];show Vu)];let(a,m,l):=Kf G h.acr g;show#[l.trans h.oc,m.trans h.wt,a.ac,a.no,a.al,h.wl,λi p=>#[(h.w3 i p).1,?_],h.wu,a.a4,h.g0];rw[Wa,Wm (λe=>q (by rw[e];show p)),<-Wa];show(h.w3 i p).2
def Rep.turn(G:GB b n W K f c C)(h:Rep n K f c Z s):Rep n K f c (To W Z) (aQ b s .turn).1:=by
 show Rep n K f c (To W Z) (kZ b (s,[])).1;unfold kZ To;by_cases q:Z.w=[]
 .rw[ag q,show s.wt=M from h.wt.trans (ag q)];show h
 .let a:=h.wt.trans (av q)
  rw[av q,a];dsimp only;rw[G.wt];by_cases z:Z.g+1=W
  .rw[ag z,ag ()];show se G h.acr h.oc rfl h.wl λi e=>(h.w3 i e).1
  .rw[av z,av ()];show#[h.oc,(av q).symm,h.ac,h.no,h.al,h.wl,h.w3,h.wu,h.a4,λz=>a6 z q]
end
def l7(b:Sy):Nat:=((b.a.foldl (λx d=>x*4+d) 1)*16+b.w.foldl (λx d=>x*4+(d+1)) 0)*4+b.g
def PM:Nat->Nat->G Nat->G Nat
 |0,_,r=>r
 |k+1,x,r=>PM k (x/4) (x % 4::r)
def fL(n x:Nat):Sy:=#[PM n (x/64) [],(PM 2 (x/4 % 16) []).filterMap (λd=>match d with
 |0=>M
 |d+1=>R d),x % 4]
def RH(n W c:Nat)(e:Yy)(p:G Nat×Nat):G Nat×Nat:=if(p.2.testBit (l7 (u8 W (fL n c) e)))=P then p else if fL n (l7 (u8 W (fL n c) e))=u8 W (fL n c) e then(l7 (u8 W (fL n c) e)::p.1,p.2|||1<<<l7 (u8 W (fL n c) e))else p
def Kx(n W c:Nat):G Yy->G Nat×Nat->G Nat×Nat
 |[],p=>p
 |e::r,p=>Kx n W c r (RH n W c e p)
def QQ(n W:Nat)(a:G Yy):Nat->G Nat×Nat->G Nat->G Nat
 |0,_,acc=>acc
 |_+1,([],_),acc=>acc
 |m+1,(c::q,k),acc=>QQ n W a m (Kx n W c a (q,k)) (c::acc)
def K1(n:Nat):Nat:=l7 #[Vw n 0,[],0]
def za(n W:Nat):G Nat:=QQ n W (jh n) 700 ([K1 n],1<<<K1 n) []
def TN:G Nat->Nat->Bool
 |[],_=>P
 |c::r,k=>if k.testBit c=P then Vq else TN r (k|||1<<<c)
def Il:G Nat->Nat->Nat
 |[],k=>k
 |c::r,k=>Il r (k|||1<<<c)
def EZ(n W c k:Nat):G Yy->Bool
 |[]=>P
 |e::r=>if fL n (l7 (u8 W (fL n c) e))=u8 W (fL n c) e then(if k.testBit (l7 (u8 W (fL n c) e))=P then EZ n W c k r else Vq)else Vq
def Nl(n W k:Nat)(a:G Yy):G Nat->Bool
 |[]=>P
 |c::r=>if EZ n W c k a=P then Nl n W k a r else Vq
def Lo(n W:Nat)(l:G Nat):Bool:=(Nat.ble 401 l.length&&Nat.ble l.length 2000)&&(TN l 0&&(Nl n W (Il l 0) (jh n) l&&(Il l 0).testBit (K1 n)))
def Sd:Lo 4 3 (za 4 3)=P:=by left
def S3:Lo 5 1 (za 5 1)=P:=by left
def Rq(k c x:Nat)(h:(k|||1<<<c).testBit x=P):k.testBit x=P\/c=x:=by rw[adk,agN,afR,X0,decide_eq_true_eq]at h;show h
def M8(k c:Nat):(k|||1<<<c).testBit c=P:=by rw[adk,agN,afR,ax W,YI]
def KZ{k x:Nat}(c:Nat)(h:k.testBit x=P):(k|||1<<<c).testBit x=P:=by rw[adk,h,XD]
theorem Cs:∀(l:G Nat) (k x:Nat),(Il l k).testBit x=P->k.testBit x=P\/x∈l
 |[],k,x,h=>.inl h
 |c::r,k,x,h=>by
  rcases Cs r _ x h with h|h
  .rcases Rq k c x h with h|h
   .show .inl h
   .show .inr (by rw[h];show Vn)
  .show .inr (Vr _ h)
theorem Pb:∀(l:G Nat) (k:Nat),TN l k=P->l.Nodup/\∀c∈l,¬k.testBit c=P
 |[],k,_=>#[Xv,λc h=>by ext h]
 |c::r,k,h=>by
  unfold TN at h;by_cases q:k.testBit c=P
  .rw[ag q]at h;ext h
  .rw[av q]at h;let(e,b):=Pb r _ h;show#[Wj.mpr #[λz=>b c z (M8 k c),e],λx a=>by
    rcases VG.mp a with rfl|a
    .show q
    .show λz=>b x a (KZ c z)]
theorem DY{n W c k:Nat}:∀{d:G Yy},EZ n W c k d=P->∀e∈d,fL n (l7 (u8 W (fL n c) e))=u8 W (fL n c) e/\k.testBit (l7 (u8 W (fL n c) e))=P
 |[],_,_,he=>by ext he
 |e::r,h,x,f=>by
  unfold EZ at h;by_cases b:fL n (l7 (u8 W (fL n c) e))=u8 W (fL n c) e
  .rw[ag b]at h
   by_cases a:k.testBit (l7 (u8 W (fL n c) e))=P
   .rw[ag a]at h
    rcases VG.mp f with rfl|f
    .show#[b,a]
    .show DY h x f
   .rw[av a]at h;ext h
  .rw[av b]at h;ext h
theorem DC{n W k:Nat}{b:G Yy}:∀{l:G Nat},Nl n W k b l=P->∀c∈l,EZ n W c k b=P
 |[],_,_,he=>by ext he
 |c::r,h,x,a=>by
  unfold Nl at h;by_cases q:EZ n W c k b=P
  .rw[ag q]at h
   rcases VG.mp a with rfl|a
   .show q
   .show DC h x a
  .rw[av q]at h;ext h
section
variable{P:Nat->Prop}{n W:Nat}{Y:bg Yy}
theorem CG(f:∀c e,P c->e∈Y->fL n (l7 (u8 W (fL n c) e))=u8 W (fL n c) e->P (l7 (u8 W (fL n c) e))){c:Nat}(b:P c):∀(fs:G Yy) (p:G Nat×Nat),(∀e∈fs,e∈Y)->(∀x∈p.1,P x)->∀x∈(Kx n W c fs p).1,P x
 |[],p,_,h=>h
 |e::r,p,g,h=>CG f b r (RH n W c e p) (λx a=>g x (Vr _ a)) (by
  ext RH;split
  .show h
  .split
   .rename_i q
    intro x a;rcases VG.mp a with rfl|a
    .show f c e b (g e Vn) q
    .show h x a
   .show h)
theorem GQ(f:∀c e,P c->e∈Y->fL n (l7 (u8 W (fL n c) e))=u8 W (fL n c) e->P (l7 (u8 W (fL n c) e))):∀(m:Nat) (p:G Nat×Nat) (a:G Nat),(∀x∈p.1,P x)->(∀x∈a,P x)->∀x∈QQ n W Y m p a,P x
 |0,_,a,_,h=>h
 |_+1,([],_),a,_,h=>h
 |m+1,(c::q,k),a,h1,i=>GQ f m _ _ (CG f (h1 c Vn) Y (q,k) (λe g=>g) λx b=>h1 x (Vr _ b)) λx b=>by
  rcases VG.mp b with rfl|b
  .show h1 x Vn
  .show i x b
end
inductive Rch(b:Bd)(es:G Yy):X6->Prop
 |z:Rch b es xz
 |s {s:X6} {e:Yy}:Rch b es s->e∈es->Rch b es (aQ b s e).1
def Uy(K:Nat->Nat):Yy->Yy
 |.down j=>.down (K j)
 |.up j=>.up (K j)
 |.turn=>.turn
def mv{n:Nat}{e:Yy}:e∈jh n↔(∃j,j<n/\(e=.down j\/e=.up j))\/e=.turn:=by
 ext jh;rw[Wi,Wi,VX,VX,Vz];constructor
 .rintro((⟨j,a,rfl⟩|⟨j,a,rfl⟩)|h)
  .show .inl #[j,WH.mp a,.inl W]
  .show .inl #[j,WH.mp a,.inr W]
  .show .inr h
 .rintro(⟨j,a,rfl|rfl⟩|h)
  .show .inl (.inl #[j,WH.mpr a,W])
  .show .inl (.inr #[j,WH.mpr a,W])
  .show .inr h
section
variable{b:Bd}{n W:Nat}{K f:Nat->Nat}{c:Nat}{C:bg Nat}{σ:Sy}{s:X6}
def Rep.step(G:GB b n W K f c C)(h:Rep n K f c σ s){e:Yy}(g:e∈jh n):Rep n K f c (u8 W σ e) (aQ b s (Uy K e)).1:=by
 rcases mv.mp g with⟨j,a,rfl|rfl⟩|rfl
 .show h.down G a
 .show h.up G a
 .show h.turn G
def GB.ev(G:GB b n W K f c C){e:Yy}(g:e∈jh n):Uy K e∈jh n/\∃d∈jh n,Uy K d=e:=by
 rcases mv.mp g with⟨j,a,rfl|rfl⟩|rfl
 .let(i,h,e):=G.ks j a;show#[mv.mpr (.inl #[_,G.kn j a,.inl rfl]),.down i,mv.mpr (.inl #[i,h,.inl rfl]),by rw[<-e];rfl]
 .let(i,h,e):=G.ks j a;show#[mv.mpr (.inl #[_,G.kn j a,.inr rfl]),.up i,mv.mpr (.inl #[i,h,.inr rfl]),by rw[<-e];rfl]
 .show#[g,.turn,g,rfl]
def Sz(n:Nat)(K f:Nat->Nat)(c:Nat):Rep n K f c #[Vw n 0,[],0] xz:=by
 show#[rfl,rfl,λj a=>?_,λ_ _=>rfl,Wb,Wo _,λj a=>(by ext a),Xv,λx e=>?_,λ_=>rfl]
 .show M=K5 f c (K j) ((Vw n 0).getD j 0);rw[Wa,Xx,ag a];rfl
 .rw[List.eq_of_mem_replicate e];decide
theorem zq:∀{l m:G Nat},l.Nodup->(∀x∈l,x∈m)->l.length<=m.length
 |[],m,_,_=>Wo _
 |a::r,m,p,o=>by let(j,i):=Wj.mp p;let h:=o a Vn;let:=zq (m:=m.erase a) i λx g=>(ae9 (λe:x=a=>j (e▸g))).mpr (o x (Vr _ g));rw[adM h]at this;let:=List.length_pos_of_mem h;rw[VI];ext
def zw(G:GB b n W K f c C)(k:∀j,j<n->c≠f (K j))(U:fL n (K1 n)=#[Vw n 0,[],0])(M:Lo n W (za n W)=Vi):
  (∃ls:bg X6,ls.Nodup/\400<ls.length/\∀s∈ls,Rch b (jh n) s)/\∀ls:bg X6,ls.Nodup->(∀s∈ls,Rch b (jh n) s)->ls.length<=2000:=by
 unfold Lo at M;simp only[VZ]at M;let((S,R),k3,k4,k5):=M;let S:=Vl S;let R:=Vl R;let nd:=(Pb _ _ k3).1;let Q:∀x,(Il (za n W) 0).testBit x=Vi->x∈za n W:=λx h=>(Cs _ _ _ h).elim (λz=>by rw[Nat.zero_testBit]at z;ext z) id;let Y:=Q _ k5;let w:∀x∈za n W,l7 (fL n x)=x/\∃s,Rep n K f c (fL n x) s/\Rch b (jh n) s:=GQ (P:=λx=>l7 (fL n x)=x/\∃s,Rep n K f c (fL n x) s/\Rch b (jh n) s) (λx e #[_,s,u,E] H q=>#[by rw[q],_,by rw[q];show u.step G H,E.s (G.ev H).1]) 700 _ [] (λx g=>by rw[Vz.mp g,U];show#[rfl,xz,Sz n K f c,.z]) (λx g=>by ext g);let I:∀s,Rch b (jh n) s->∃x∈za n W,Rep n K f c (fL n x) s:=by
  intro s h
  induction h with
  |z=>show#[_,Y,by rw[U];show Sz n K f c]
  |s h H A=>let(x,g,r):=A;let(_,d,T,rfl):=G.ev H;let(q1,q2):=DY (DC k4 x g) d T;show#[_,Q _ q2,by rw[q1];show r.step G T]
 generalize za n W=L at*;show#[?_,λls hn hr=>?_]
 .let:∀l:bg Nat,l.Nodup->(∀x∈l,x∈L)->∃ls:bg X6,ls.Nodup/\ls.length=l.length/\∀s∈ls,Rch b (jh n) s/\∃x∈l,Rep n K f c (fL n x) s:=by
   intro l
   induction l with
   |nil=>show λ_ _=>#[[],Xv,rfl,λs B=>by ext B]
   |cons x r A=>
    intro hn p;let(u,E):=Wj.mp hn;let(ls,o,F,i):=A E λy a=>p y (Vr _ a);let(e,s,v,Z):=w x (p x Vn);show#[s::ls,Wj.mpr #[λz=>?_,o],by rw[VI,F];rfl,λt m=>?_]
    .let(_,y,a,J):=i s z;let:=v.inj G k J;let X:=(w y (p y (Vr _ a))).1;rw[<-this,e]at X;show u (X▸a)
    .rcases VG.mp m with rfl|m
     .show#[Z,x,Vn,v]
     .let(O,y,a,N):=i t m;show#[O,y,Vr _ a,N]
  let(ls,o,F,i):=this L nd λx g=>g;show#[ls,o,by ext,λs B=>(i s B).1]
 .let:∀ls:bg X6,ls.Nodup->(∀s∈ls,Rch b (jh n) s)->∃l:bg Nat,l.Nodup/\l.length=ls.length/\∀x∈l,x∈L/\∃s∈ls,Rep n K f c (fL n x) s:=by
   intro ls
   induction ls with
   |nil=>show λ_ _=>#[[],Xv,rfl,λs B=>by ext B]
   |cons s r A=>
    intro hn p;let(u,E):=Wj.mp hn;let(l,o,F,i):=A E λy a=>p y (Vr _ a);let(x,g,v):=I s (p s Vn);show#[x::l,Wj.mpr #[λz=>?_,o],by rw[VI,F];rfl,λy a=>?_]
    .let(_,t,m,J):=i x z;rw[v.one G J]at u;show u m
    .rcases VG.mp a with rfl|a
     .show#[g,s,Vn,v]
     .let(O,t,m,N):=i y a;show#[O,t,Vr _ m,N]
  let(l,o,F,i):=this ls hn hr;let:=zq o λx g=>(i x g).1;ext
end
def Sa(a:c J=.ok (P,C))(e:b C=.ok (.nx o)):kq c b (n+1) J=kq c b n o:=by show((c J).bind _)=_;rw[a,e8,ag W,e,e8]
def S5(a:c C=.ok (Vq,o)):kq c b (n+1) C=.ok (.nx o):=by show((c C).bind _)=_;rw[a,e8,av Vu]
def SD{k n:Nat}(h:k<n):seqIndex? (k:Int) n=R k:=by unfold seqIndex?;simp;ext
theorem vE:∀(us:G Nat) (i:Nat),(bZ us).eraseIdx i=bZ (us.eraseIdx i)
 |[],_=>rfl
 |_::_,0=>rfl
 |u::r,i+1=>by show nd u::(bZ r).eraseIdx i=nd u::bZ (r.eraseIdx i);rw[vE r i]
abbrev E6(x:Int)(n s:Nat)(a:G D)(L:G Nat)(o:br PV):bx:=[zf (.int x),zf (nd n),zf (nd s),zo a,zo (bZ L),o]
theorem SY(x:Int)(n s:Nat)(a:G D):∀(r b:Nat) (L:G Nat),L.length=3+r->r<b->r<=2->∃c:G Nat,c.length=3/\c.Sublist L/\kq (aW (aO Hf (gq cT {af 4}) (~~~3))) (nr (Cd 4 (cZ aF 3 {af 0,aO dC (~~~82) (gq cT {af 4}),gq cT {af 4}}))) b (E6 x n s a L M)=.ok (.nx (E6 x n s a c M))
 |r,0,L,_,h,_=>a6 h (ahv _)
 |r,b+1,L,p,hf,q=>by
  let f:gq cT {af 4} (E6 x n s a L M)=.ok (.fz (nd L.length),E6 x n s a L M):=fw (ds:=[.list (bZ L)]) (ao (ie W) aM) W ((fP _).trans (by rw[gu]));let e:aW (aO Hf (gq cT {af 4}) (~~~3)) (E6 x n s a L M)=.ok (decide ((3:Int)<(L.length:Int)),E6 x n s a L M):=bO (aK f aI W W (yQ _ _)) W
  match r,p with
  |0,p=>rw[aP ()]at e;show#[L,p,akJ _,S5 e]
  |r+1,p=>
   rw[ax ()]at e;let(t,i,g):=d8 x (82+L.length) L.length () ();let i:aF [.int x,.int (82+(L.length:Int)),nd L.length]=.ok (.fz (nd t)):=by rw[show(82+(L.length:Int))=((82+L.length:Nat):Int) by ext];show i
   let j:nr (Cd 4 (cZ aF 3 {af 0,aO dC (~~~82) (gq cT {af 4}),gq cT {af 4}})) (E6 x n s a L M)=.ok (.nx (E6 x n s a (L.eraseIdx t) M)):=by
    show xb (Hd (k:=t) (y:=nd (L.getD t 0)) W (cA (ao (aj W) (ao (aK aI f W W (gh _ _)) (ao f aM))) W W i) W W () ?_ ?_ ?_)
    .rw[gu];show SD g
    .ext bZ;rw[Vx,Wa,Vv g];rfl
    .show[zf (.int x),zf (nd n),zf (nd s),zo a,zo ((bZ L).eraseIdx t),M]=_;rw[vE]
   let(c,o,m,l):=SY x n s a r b (L.eraseIdx t) (by rw[List.length_eraseIdx_of_lt g];ext) () ();show#[c,o,m.trans (List.eraseIdx_sublist _ _),(Sa e j).trans l]
def Bt(n:Nat)(C:G Nat)(j:Nat):Nat:=(C++(VO n).filter λk=>decide (k∉C)).getD j 0
def Hz(n:Nat)(C:G Nat):Prop:=(∀j,j<n->(Bt n C j∈C↔j<3))/\(∀j,j<n->Bt n C j<n)/\(∀i,i<n->∀j,j<n->Bt n C i=Bt n C j->i=j)/\∀k,k<n->k∈(VO n).map (Bt n C)
noncomputable instance(n:Nat)(C:G Nat):Decidable (Hz n C):=by ext Hz;infer_instance
def Ul:∀x,x<4->∀y,y<4->∀z,z<4->x<y->y<z->Hz 4 [x,y,z]:=by left
def Uq:∀x,x<5->∀y,y<5->∀z,z<5->x<y->y<z->Hz 5 [x,y,z]:=by left
def T5(f:L.length=3)(a:L.Sublist (VO n)):∃x y z,L=[x,y,z]/\x<y/\y<z/\x<n/\y<n/\z<n:=by
 let e:=aav.sublist a
 match L,f with
 |[x,y,z],_=>let b:=W2.mp e;let g:=W2.mp b.2;show#[x,y,z,W,b.1 y Vn,g.1 z Vn,WH.mp (a.subset Vn),WH.mp (a.subset (Vr _ Vn)),WH.mp (a.subset (Vr _ (Vr _ Vn)))]
def JJ(x:Int):∃(b:Bd) (n W:Nat) (K f:Nat->Nat) (c:Nat) (C:bg Nat),GB b n W K f c C/\VB b/\b.n=n/\(n=4/\W=3\/n=5/\W=1)/\(∀j,j<n->c≠f (K j))/\fD [.int x]=.ok (.fz (bD b)):=by
 let(t,O,U):=d8 x 80 2 () ();let(s,es,X):=d8 x 81 26 () ();obtain⟨n,hn⟩:∃n,n=4+t:=#[_,rfl];let(L,S,R,A):=SY x n s ((VO (n+1)).map λk=>.str (ji ((s+5*k) % 26))) (n - 3) 1000000 (VO n) (by rw[Wg];ext) () ();let(u,v,w,rfl,r,q,un,h,wn):=T5 S R;let lp:Hz n [u,v,w]:=by
  let:n=4\/n=5:=by ext
  rcases this with e|e
  .rw[e]at un h wn⊢;show Ul u un v h w wn r q
  .rw[e]at un h wn⊢;show Uq u un v h w wn r q
 let(J,y,I,H):=lp;obtain⟨W,N,P⟩:∃W:Nat,(n=4/\W=3\/n=5/\W=1)/\bv (.list [.int 3,.int 1]) (.int ((n:Int) - 4))=lD (.fz (nd W)):=by
  let:n=4\/n=5:=by ext
  rcases this with rfl|rfl
  .show#[3,.inl #[rfl,rfl],Fi () rfl]
  .show#[1,.inr #[rfl,rfl],Fi () rfl]
 let g:∀k,(s+5*k) % 26<26:=λk=>Nat.mod_lt _ ();show#[#[n,[(VO n).map λk=>.V6 ((s+5*k) % 26)],[([u,v,w],(s+5*n) % 26)],W],n,W,Bt n [u,v,w],λk=>(s+5*k) % 26,(s+5*n) % 26,[u,v,w],#[rfl,rfl,rfl,rfl,?_,J,y,λi j hi o=>I i hi j o,λk a=>(by let(j,o,e):=VX.mp (H k a);show#[j,WH.mp o,e]),by ext,by ext],?_,rfl,N,λj o=>?_,?_]
 .simp;ext
 .let M:((VO n).map λk=>Mn.V6 ((s+5*k) % 26)).length=n:=by rw[Vj,Wg]
  show OC () () (Vl rfl) rfl (λi l hi=>?_) (CsV.add (CsV.nil _) (Vl rfl) (by simp;ext) (λk a=>?_) (g n) (λz=>nomatch z)) (Vl rfl) () ()
  .match i,hi with
   |0,hi=>ext hi;show#[by rw[M],λm hm=>?_];let(k,_,rfl):=VX.mp hm;show g k
   |i+1,hi=>ext hi
  .let a:k<n:=by
    rcases VG.mp a with rfl|a
    .show un
    .rcases VG.mp a with rfl|a
     .show h
     .rw[Vz.mp a];show wn
   ext EE;rw[Vx,YQ a];rfl
 .let:=y j o;dsimp only;generalize Bt n [u,v,w] j=k at this;ext
 .let T:k6 [.int ((n:Int)+1)]=lD (bZ (VO (n+1))):=ky (n:=n+1) ()
  let B:k8 (d4 (gN 0) eD (aO L3.jU (pC (.str "abcdefghijklmnopqrstuvwxyz")) (aO qj (aO dC (af 1) (aO ig (~~~5) (af 0))) (~~~26))) (bZ (VO (n+1))) [Vg,zf (nd s)] [])=.ok ((VO (n+1)).map λk=>.str (ji ((s+5*k) % 26))):=jv nd (λk=>.str (ji ((s+5*k) % 26))) (VO (n+1)) (by rw[Wg];ext) rfl λk a=>by show aK aI (aK (aK (aj rfl) (aK aI (aj rfl) rfl rfl (lS #[by decide,by decide])) rfl rfl (gh _ _)) aI rfl rfl (tM ())) rfl rfl (GD (cs:=VO 26) (by left) (by left) () ?_);rw[show(((s:Int)+5*(k:Int)) % 26).toNat=(s+5*k) % 26 by ext,YQ (g k)]
  generalize Y:((VO (n+1)).map λk=>Vo.str (ji ((s+5*k) % 26)))=ls at B A;let G:ls.length=n+1:=by rw[<-Y,Vj,Wg]
  let E:ls.take n=(VO n).map λk=>.str (ji ((s+5*k) % 26)):=by rw[<-Y,<-List.map_take,List.take_range,acR ()]
  let p:bv (.list ls) (nd n)=lD (.fz (.str (ji ((s+5*n) % 26)))):=A2 (by rw[<-Y,Vx,YQ ()];rfl);let F:Ty (.list ls) Vg (lD (n:Int))=lD (.ow (ls.take n)):=by show lD (RV.ow (FC ls Vg (lD (n:Int))))=_;ext FC;rw[HT.sIx_nat,HT.sIx_none,G,acR (),List.drop_zero,Nat.sub_zero]
  let Q:k8 (d4 (gN 0) eD (ci {pC (.str "letter"),af 0}) (ls.take n) [Vg] [])=.ok (((VO n).map λk=>Mn.V6 ((s+5*k) % 26)).map mD):=by rw[E,Wt];show jv (λk=>Vo.str (ji ((s+5*k) % 26))) (λk=>mD (.V6 ((s+5*k) % 26))) (VO n) (by rw[Wg];ext) rfl λk a=>df (ao aI (ao (aj rfl) aM)) rfl (Vl rfl)
  show jN rfl ?_;show ef (aK (rv:=.fz (nd n)) aI (cA (ao (aj rfl) (ao aI (ao aI aM))) rfl rfl O) rfl rfl ((gh _ _).trans (by rw[hn];rfl))) rfl rfl ?_;show ef (cA (ao (aj rfl) (ao aI (ao aI aM))) rfl rfl es) rfl rfl ?_;show ef (fG (cs:=[nd s]) (by ext:0) rfl B) rfl rfl ?_;show ef (fw (rv:=.ow (bZ (VO n))) (ao (aj rfl) aM) rfl ?_) rfl rfl ?_
  .show(if 0<=(n:Int)/\(n:Int)<=1000 then lD (RV.ow (bZ (VO (n:Int).toNat)))else Vg)=_;rw[ag #[by ext,by ext],WM]
  show .eq (B4 A) ?_;show ef (fw (ao (fG (kI (OW (ie rfl) yE (zU (aj rfl) rfl) rfl F) rfl rfl) rfl Q) aM) rfl rfl) rfl rfl ?_;generalize ((VO n).map λk=>Mn.V6 ((s+5*k) % 26))=l0;show gC (df (ao (aj rfl) (ao (df (ao (aj rfl) aM) rfl (Vl rfl)) (ao (df (ao (df (ao (fw (ao (ie rfl) aM) rfl rfl) (ao (aK (ie rfl) (aj rfl) rfl rfl p) aM)) rfl (Vl rfl)) aM) rfl (Vl rfl)) (ao (aK (by ext:0) (aK (aj rfl) aI rfl rfl (lY _ _)) rfl rfl P) aM)))) rfl (Vl rfl)) rfl rfl
section
variable{b:Bd}{Y:bg Yy}
def KF(h:Rch b Y s):∃k,RW b b Y k (s,s):=by
 induction h with
 |z=>show#[0,W]
 |s h f a=>let(k,e):=a;show#[k+1,_,_,e,f,W]
theorem pT:∀{k:Nat} {p:PP},RW b b Y k p->p.1=p.2/\Rch b Y p.1
 |0,p,h=>by rw[show p=KN from h];show#[W,.z]
 |k+1,p,#[q,e,g,he,i]=>by let(f,a):=pT g;rw[i];show#[?_,a.s he];ext Ee;rw[f]
theorem CU{P:X6->Prop}:∀(Y:G Yy) (fs:G Rm),(∀e∈Y,P (aQ b s e).1)->(∀r∈fs,P r.s)->∀q∈gp b s r fs Y,P q.s
 |[],_,_,h=>h
 |e::Y,fs,he,h=>CU Y _ (λx f=>he x (Vr _ f)) (by
  show∀q∈ng fs (aQ b s e).1 (nd r) (eY e),P q.s;ext ng;split
  .show h
  .intro q a
   rcases Wi.mp a with a|a
   .show h q a
   .rw[Vz.mp a];show he e Vn)
theorem sE:∀i,∀r∈dW b Y i,Rch b Y r.s
 |0,r,f=>by rw[Vz.mp f];show .z
 |i+1,r,f=>by
  cases q:(dW b Y i)[i]? with
  |none=>rw[uN (by simpa using q)]at f;show sE i r f
  |some z=>rw[qJ q]at f;show CU Y _ (λe a=>(sE i z (VQ q)).s a) (sE i) r f
def MZ(f:VB b)(m:∀e∈Y,EV b e)(y:(dW b Y N).length=N)(h:Rch b Y s):∃r∈dW b Y N,r.s=s:=by
 induction h with
 |z=>let(t,e):=oP b Y 0 N;rw[Xs]at e;show#[#[xz,.none,.none],by rw[<-e];show Xf _ Vn,W]
 | @s s e h L Q=>
  let(r,B,A):=Q;let(a,J):=WX.mp B;let I:a<N:=by rw[<-y];show(Vk.mp J).1
  obtain⟨d,rfl⟩:∃d,N=a+d:=#[N - a,by ext];let G:a<(dW b Y a).length:=Decidable.byContradiction λz=>by let:=C8 (b:=b) (es:=Y) (N:=a) () d;rw[this]at y;ext
  let(t,E):=oP b Y a d;let j:(dW b Y a)[a]?=R r:=by rw[<-E,VN G]at J;show J
  let(i,S):=WX.mp L;let sw:=nI f m a r (VQ j);let(u,v):=Nq f sw m S;rw[<-qJ j]at v;let(q,g,C):=Bw v;rw[Vx]at g;cases z:(dW b Y (a+1))[u]? with
  |none=>rw[z]at g;ext g
  |some w=>rw[z]at g;ext g;let n:=VQ z;let p:=nI f m (a+1) w n;let o:=kz f sw (m e L);let eq:=BN f f p o (LD.kd_eqv _ _ (zT p).1 (zT o).1 C);obtain⟨l,rfl⟩:∃l,d=l+1:=#[d - 1,by ext];let(H,F):=oP b Y (a+1) l;show#[w,?_,by rw[eq,A]];rw[show a+(l+1)=a+1+l by ext,<-F];show Xf _ n
def Pg(g:VB b)(l:∀e∈Y,EV b e)(N:Nat):((dW b Y N).map λr=>(r.s,r.s)).Nodup:=by let un:=BH g l N;show YM.mpr λi j n f m e=>?_;rw[acj,acj]at e;rw[Vj]at n f;let e:=eH Prod.fst e;dsimp only at e;let a:=un i _ (Vv n);let h:=un j _ (Vv f);rw[e,h]at a;ext a;ext
def CM(g:VB b)(n:∀e∈Y,EV b e){N:Nat}(f:(dW b Y N).length=N){l:G PP}(q:l.Nodup)(o:∀p∈l,∃k,RW b b Y k p):l.length<=N:=by
 let:=uc (l:=(dW b Y N).map λr=>(r.s,r.s)) q λp j=>by let(k,m):=o p j;let(e,i):=pT m;let(r,h,a):=MZ g n f i;show VX.mpr #[r,h,Prod.ext a (a.trans e)]
 rw[Vj,f]at this;show this
def Ec(a:VB b)(i:∀e∈Y,EV b e)(N:Nat)(h:AllP b b Y l):(dW b Y N).length<=l.length:=by
 let:=h.len (Pg a i N) λp g=>by let(r,f,rfl):=VX.mp g;show KF (sE N r f)
 rw[Vj]at this;show this
theorem SH{f:G X6}(h:f.Nodup):(f.map λs=>(s,s)).Nodup:=ac4 _ (λa b n e=>n (eH Prod.fst e)) h
theorem IV:∀{l:G PP},l.Nodup->(∀p∈l,p.1=p.2)->(l.map (·.1)).Nodup
 |[],_,_=>Xv
 |p::r,h,hd=>by let(g,f):=Wj.mp h;rw[VP,Wj];show#[λz=>?_,IV f λq a=>hd q (Vr _ a)];let(q,a,e):=VX.mp z;let:q=p:=Prod.ext e ((hd q (Vr _ a)).symm.trans (e.trans (hd p Vn)));show g (this▸a)
def xZ(a:VB b){n:Nat}(c:b.n=n)(o:n<=5)(j:0<=m)(g:m<=2000)(f:bh):Out (cC [.fz (bD b),.fz (bD b),.fz (.int m)] f) (λv d=>∃(i:Nat) (l:G PP),v=.tp [.fz (.str "same"),.rf i]/\d[i]?=R (.lst ((l.map kP).map .fz))/\AllP b b (jh n) l/\(l.length:Int)<=m) (UO b b (jh n) m):=by
 show z7 (JB a a c c o j g f) (λv d h=>?_) λ_ h=>h;rcases h with⟨_,_,_,_,_,_,t⟩|h
 .let(p,e,r,_,q):=t.x;show a6 ?_ q;show(aQ b p.1 e).2=(aQ b p.2 e).2;rw[(pT r).1]
 .show h
end
section
variable{X:bH}{Z U Y:bh}{y:SV}{T fb:dY}{l:bg AV}{a:AV}{i:Int}
def LX(d:T X Z=.ok (.tp l) U)(e:fb X U=.ok y Y)(c:Gg y=R i)(b:nj l i=R a):L10.jU T fb X Z=.ok a.sv Y:=by ext L10.jU;rw[d,fm,e,fm];ext KR;rw[c];show RS.WE Y ((nj l i).map AV.sv)=_;rw[b];rfl
end
theorem Lp(J:bH->bh->Prop)(h:ko (f b Z) J T X)(k:∀b Z,J b Z->ko (g b Z) N T X):ko (aX f g b Z) N T X:=jI (h.imp λa o q=>by
 cases a with
 |nx r=>show k r o q
 |rt v=>show q
 |ct r=>show q.elim
 |bk r=>show q.elim)
section
variable{b c:Bd}{n:Nat}{Z:bh}
def IR(h:b.n≠c.n):bF [.fz (bD b),.fz (bD c),.fz (.int m)] Z=.ok (.fz (.tuple [.int 6,.none])) Z:=by
 let a:cC [.fz (bD b),.fz (bD c),.fz (.int m)] Z=.er #["NoKeys",[]] Z:=by let f:bN (aW (aO nk (aO bv (af 0) (~~~0)) (aO bv (af 1) (~~~0)))) [R (.fz (bD b)),R (.fz (bD c)),R (.fz (.int m)),M,M,M,M,M,M,M] Z=.ok P Z:=bJ (bO (aK (rv:=.fz (.bool P)) (aK (aj W) aI W W (B5 b)) (aK (aj W) aI W W (B5 c)) W W ((on _ _).trans (by rw[aP h];rfl))) W);show((sJ [R (.fz (bD b)),R (.fz (bD c)),R (.fz (.int m)),M,M,M,M,M,M,M] Z).bind _)=_;ext sJ;let e:cM (bN (aW (aO nk (aO bv (af 0) (~~~0)) (aO bv (af 1) (~~~0))))) (oY "NoKeys" (aq (ah (pC (.str "the two beds have not as many keys"))) aV)) cU [R (.fz (bD b)),R (.fz (bD c)),R (.fz (.int m)),M,M,M,M,M,M,M] Z=.er #["NoKeys",[]] Z:=fR f (Fr (au (ai aI) aR) (Vl W));ext aX;rw[e];rfl
 ext bF;dsimp only;rw[a];show ag W
def Ci(f:VB b)(o:b.n=n)(j:n<=5)(i:0<=m)(g:m<=2000)(Z:bh):∃d,(bF [.fz (bD b),.fz (bD b),.fz (.int m)] Z=.ok (.fz (.tuple [.none,.none])) d/\∃l:G PP,AllP b b (jh n) l/\(l.length:Int)<=m)\/(bF [.fz (bD b),.fz (bD b),.fz (.int m)] Z=.ok (.fz (.tuple [.int 5,.int m])) d/\∃l:G PP,l.Nodup/\(∀p∈l,∃k,RW b b (jh n) k p)/\m<(l.length:Int)):=by
 let a:=(xZ f o j i g Z).out;cases e:cC [.fz (bD b),.fz (bD b),.fz (.int m)] Z with
 |bad=>rw[e]at a;show a.elim
 |er x d=>rw[e]at a;let(rfl,h):=a;show#[d,.inr #[?_,h]];ext bF;dsimp only;rw[e];show ag #[W,W]
 |ok v d=>rw[e]at a;let(_,l,_,_,h):=a;show#[d,.inl #[?_,l,h]];ext bF;dsimp only;rw[e]
def Mi(g:VB b)(k:b.n=n)(j:n<=5)(Z:bh):∃d,(dw [.fz (bD b)] Z=.ok (.fz .none) d/\∃i,90<(dW b (jh n) i).length)\/∃N:Nat,dw [.fz (bD b)] Z=.ok (.fz (nd N)) d/\(dW b (jh n) N).length=N/\N<=90:=by
 let a:=(EH g k j (m:=90) () () Z).out;cases e:eU [.fz (bD b),.fz (.int 90)] Z with
 |bad=>rw[e]at a;show a.elim
 |er x d=>rw[e]at a;let(rfl,i,h):=a;show#[d,.inl #[?_,i,by ext]];ext dw;dsimp only;rw[e];show ag W
 |ok v d=>rw[e]at a;let(N,i,K,f,o,rfl,rfl,l):=a;show#[Z++K,.inr #[N,?_,f,by ext]];ext dw;dsimp only;rw[e];dsimp only;rw[eZ (by rw[rH];show l)];show RS.ok (SV.fz (nd (((dW b (jh n) N).map lH).map uR).length)) _=_;rw[Vj,Vj,f]
end
def EW(x:Int)(G:GB b n W1 K f c C)(E:VB b)(D:b.n=n)(T:n=4/\W1=3\/n=5/\W1=1)(F:∀j,j<n->c≠f (K j))(Z:bh):∃d,dA [.fz (bD b),.fz (.int x)] Z=.ok (.fz (.bool Vi)) d:=by
 obtain⟨⟨q,a1,a2,Y⟩,up⟩:(∃q:bg X6,q.Nodup/\400<q.length/\∀s∈q,Rch b (jh n) s)/\∀q:bg X6,q.Nodup->(∀s∈q,Rch b (jh n) s)->q.length<=2000:=by
  rcases T with⟨rfl,rfl⟩|⟨rfl,rfl⟩
  .show zw G F (by left) Sd
  .show zw G F (by left) S3
 let O:n<=5:=by ext
 let g:∀{l:bg PP},AllP b b (jh n) l->400<l.length:=λ{l} h=>by
  let:=h.len (SH a1) λp u=>by let(s,M,rfl):=VX.mp u;show KF (Y s M)
  rw[Vj]at this;ext
 let z:∀{l:bg PP},l.Nodup->(∀p∈l,∃k,RW b b (jh n) k p)->l.length<=2000:=λ{l} A H=>by
  let:=up (l.map (·.1)) (IV A λp u=>by let(k,w):=H p u;show(pT w).1) λs M=>by let(p,u,rfl):=VX.mp M;let(k,w):=H p u;show(pT w).2
  rw[Vj]at this;show this
 let(t,B,ht):=d8 x 88 2 () ();let B:aF [.int x,.int 88,.int 2]=.ok (.fz (nd t)):=B;by_cases J:t=0
 .subst J
  let a:=(xZ E D O (m:=2000) () () Z).out;cases e:cC [.fz (bD b),.fz (bD b),.fz (.int 2000)] Z with
  |bad=>rw[e]at a;show a.elim
  |er x d=>rw[e]at a;let(_,l,A,H,h3):=a;let:=z A H;ext
  |ok v d=>
   rw[e]at a;let(i,l,rfl,hi,I,S):=a;let ml:=g I;let L:Out (de 6 Ip [.fz (bD b),.fz (.int x)] Z) (λv _=>v=.fz (.bool Vi)) (λ_=>False):=by
    show p9 rfl ?_;let J:bN (aW (aO dJ (cZ aF 3 {af 1,~~~88,~~~2}) (~~~0))) [lD (.fz (bD b)),lD (.fz (.int x)),Vg,Vg,Vg,Vg] Z=.ok Vi Z:=bJ (bO (aK (cA (ao (aj rfl) (ao aI (ao aI aM))) rfl rfl B) aI rfl rfl ((gY _ _).trans (by rw[ax (show((0:Nat):Int)=0 from rfl)]))) rfl);show wG J ?_;show QS ?_;show eS (Jb (au (ai (aj rfl)) (au (ai (aj rfl)) aR)) (au (ai aI) aR) #[rfl,rfl] e) rfl ?_;let X:ah (aO dJ (af 2) (pC (.str "same"))) [lD (.fz (bD b)),lD (.fz (.int x)),lD (.fz (.str "same")),lD (.rf i),Vg,Vg] d=.ok (.fz (.bool Vi)) d:=ai (aK (aj rfl) aI rfl rfl (STP.sr (by left)));let N:k7 Hf (rR cT (aq (aC 3) aV)) (ah (~~~400)) [lD (.fz (bD b)),lD (.fz (.int x)),lD (.fz (.str "same")),lD (.rf i),Vg,Vg] d=.ok (.fz (.bool Vi)) d:=cV (uu (au (b3 rfl) aR) (by ext a8;rw[eZ hi];rfl) ((fP _).trans (by rw[Vj]))) (ai aI) (b9 ((yQ _ _).trans (by rw[ax ()])));let Q:=x9 (fe:=aC 3) (ρ:=[lD (.fz (bD b)),lD (.fz (.int x)),lD (.fz (.str "same")),lD (.rf i),Vg,Vg]) (b3 rfl) hi;let F:=ke (gt:=gr 0) (ft:=g6) (fe:=ah (aO dJ (aO bv (af 0) (~~~0)) (aO bv (af 0) (~~~1)))) kP (λ_:PP=>SV.fz (.bool Vi)) (d.set i .dead) (λρ=>∃o,ρ=[o]) l [Vg] [] #[Vg,rfl] (by rw[Xb];ext) (λp u ρ #[o,r]=>by
     subst r;let(k,w):=I.r p u;let sw:=(BB.rw #[E,E,qz D,qz D] w).1;let N:cN p.2=cN p.1:=by rw[(pT w).1]
     show#[[lD (.fz (kP p))],rfl,rfl,ai (aK (aK (aj rfl) aI rfl rfl iL) (aK (rv:=.fz (cN p.1)) (aj rfl) aI rfl rfl (by rw[<-N];show jp)) rfl rfl (STP.sr (Rk sw))),_,rfl])
    let P:=oX (n:=1) (fj:=[]) Q F;rw[aaB]at P;let U:=uu (au P aR) (by ext a8;rw[eZ (by rw[bc,Wt];rfl)];rfl) ((oW (λ_=>Vi) l).trans (by rw[Xq.mpr (λ_ _=>rfl)]));show sd (qh (bj X) (qh (bj N) U)) rfl
   let(v,Z2,A,rfl):=L.all;show#[Z2,?_];ext dA;dsimp only;rw[B];show(ag rfl).trans A
 .let a:=(xZ E D O (m:=400) () () Z).out
  cases e:cC [.fz (bD b),.fz (bD b),.fz (.int 400)] Z with
  |bad=>rw[e]at a;show a.elim
  |er y d=>rw[e]at a;let(rfl,_):=a;show#[d,?_];ext dA;dsimp only;rw[B];dsimp only;rw[av (),e];show ag #[rfl,rfl]
  |ok v d=>rw[e]at a;let(_,l,_,_,I,S):=a;let:=g I;ext
abbrev H5(f:G Int)(b c:Bd)(e a:br SV):bH:=[R (.fz (.list (f.map .int))),R (.fz (bD b)),R (.fz (bD c)),e,a]
def main(a:bg Int)(k:a.length<=63):L10.SB F_law [.list (a.map .int)]=.ok (.fz (.bool Vi)):=by
 let(x,ex):=mE a 24;let(t,et,ht):=d8 x 83 16 () ();let(n,hn,ek):=MA a;let(b,g,r,eb):=JT a 1 n hn;let(y,ey):=mE a 12;let(u,eu,hu):=d8 y 75 3 () ();let(c,vc,cn,O):=JT a 13 (1+u) ();let O:gL [.list (a.map .int),.int 13,.int (1+(u:Int))]=.ok (.fz (bD c)):=by rw[show(1+(u:Int))=((1+u:Nat):Int) by ext];show O
 let B:n<=5:=by ext
 let L:Out (F_law [.fz (.list (a.map .int))] []) (λx _=>x=.fz (.bool Vi)) (λ_=>False):=by
  show p9 rfl ?_;let S:∀{o1 o2 j Y:br SV},cZ bz 2 {af 0,~~~24} (cj [lD (.fz (.list (a.map .int))),o1,o2,j,Y])=.ok (.fz (.int x),cj [lD (.fz (.list (a.map .int))),o1,o2,j,Y]):=cA (ao (aj rfl) (ao aI aM)) rfl rfl ex;let H:bN (aW (aO dJ (cZ aF 3 {cZ bz 2 {af 0,~~~24},~~~83,~~~16}) (~~~1))) [lD (.fz (.list (a.map .int))),Vg,Vg,Vg,Vg] []=.ok (decide ((t:Int)=1)) []:=bJ (bO (aK (cA (ao S (ao aI (ao aI aM))) rfl rfl et) aI rfl rfl (gY _ _)) rfl);by_cases t0:t=1
  .rw[ax ()]at H;let(b',n',W,K,f,c',C,G,J,T,hW,M,eg):=JJ x;let(X,lg):=EW x G J T hW M [];show wG H (sd (jw (au (ai (cA (ao S aM) rfl rfl eg)) (au (ai S) aR)) rfl lg) rfl)
  rw[aP ()]at H;show uL H (oy ?_);show eS (ai (cA (ao (aj rfl) (ao aI (ao (cA (ao (aj rfl) aM) rfl rfl ek) aM))) rfl rfl eb)) rfl ?_;show eS (ai (cA (ao (aj rfl) (ao aI (ao (aK aI (cA (ao (cA (ao (aj rfl) (ao aI aM)) rfl rfl ey) (ao aI (ao aI aM))) rfl rfl eu) rfl rfl (gh _ _)) aM))) rfl rfl O)) rfl ?_;let F:bN (aW (aO nk (aO bv (af 1) (~~~0)) (aO bv (af 2) (~~~0)))) (H5 a b c Vg Vg) []=.ok (!decide (b.n=c.n)) []:=bJ (bO (aK (aK (aj rfl) aI rfl rfl (B5 b)) (aK (aj rfl) aI rfl rfl (B5 c)) rfl rfl (on _ _)) rfl);show Lp (λρ Z=>∃j,ρ=H5 a b c j Vg/\Z=[]) ?_ ?_
  .by_cases q:b.n=c.n
   .rw[ax q]at F;show tZ (hG F gU) #[Vg,rfl,rfl]
   .rw[aP q]at F
    show .eq (fR F rfl) (HP (λ_ ρ Z=>∃j,ρ=H5 a b c j Vg/\Z=[]) (lM (kI (by ext:0) rfl rfl)) #[Vg,rfl,rfl] ?_ λ_ _ h=>h);rintro i d ρ Z hd ⟨j,rfl,rfl⟩;obtain⟨m,rfl⟩:∃m:Int,d=.int m:=by
     rcases VG.mp (VQ hd)with h|h
     .show#[_,h]
     .rcases VG.mp h with h|h
      .show#[_,h]
      .show#[_,Vz.mp h]
    show#[H5 a b c (lD (.fz (.int m))) Vg,[],rfl,?_];let n6:nk (.tuple [.int 6,.none]) (.tuple [.int 6,.none])=lD (.fz (.bool Vq)):=wa (by left);let z:∀{Z:bh},ah (ci {~~~6,pC .none}) (H5 a b c (lD (.fz (.int m))) Vg) Z=.ok (.fz (.tuple [.int 6,.none])) Z:=ai (df (ao aI (ao aI aM)) rfl (Vl rfl));show tZ (hG (j4 (bj (cV (jw (au (ai (aj rfl)) (au (ai (aj rfl)) (au (ai (aj rfl)) aR))) rfl (IR q)) z (b9 n6))) (bj (cV (jw (au (ai (aj rfl)) (au (ai (aj rfl)) (au (ai (aj rfl)) aR))) rfl (IR (ej q))) z (b9 n6)))) gU) #[_,rfl,rfl]
  rintro ρ Z ⟨j,rfl,rfl⟩;let I:=qz r;let(Z1,hm):=Mi g r B [];let A:∀d:D,mK d=Vi->nk d d=lD (.fz (.bool Vq)):=λd h=>wa h;rcases hm with⟨R,i,hi⟩|⟨N,R,hN,N90⟩
  .show eS (jw (au (ai (aj rfl)) aR) rfl R) rfl ?_
   obtain⟨U,⟨_,l,o,E⟩|⟨Q,_⟩⟩:=Ci g r B (m:=90) () () Z1
   .let:=Ec g I i o;ext
   show wG (bJ (bO (aK (aj rfl) aI rfl rfl rfl) rfl)) (sd (cV (jw (au (ai (aj rfl)) (au (ai (aj rfl)) (au (ai aI) aR))) rfl Q) (ai (df (ao aI (ao aI aM)) rfl (Vl rfl))) (b9 (STP.sr (by left)))) rfl)
  .let N1:1<=N:=by let:=N0 b (jh n) N;ext
   show eS (jw (au (ai (aj rfl)) aR) rfl R) rfl ?_;show uL (bJ (bO (aK (aj rfl) aI rfl rfl rfl) rfl)) (oy ?_);obtain⟨U,⟨_,l,o,E⟩|⟨Q,_⟩⟩:=Ci g r B (m:=(N:Int) - 1) () () Z1
   .let:=Ec g I N o;ext
   obtain⟨w,P⟩:∃w,bF [.fz (bD b),.fz (bD b),.fz (.int (N:Int))] U=.ok (.fz (.tuple [.none,.none])) w:=by
    obtain⟨w,⟨P,_⟩|⟨_,l,o,E,h3⟩⟩:=Ci g r B (m:=(N:Int)) () () U
    .show#[w,P]
    .let:=CM g I hN o E;ext
   let sN:∀{Z:bh},ah (aO oH (af 4) (~~~1)) (H5 a b c j (lD (.fz (nd N)))) Z=.ok (.fz (.int ((N:Int) - 1))) Z:=ai (aK (aj rfl) aI rfl rfl (lY _ _));let k5:mK (.tuple [.int 5,.int ((N:Int) - 1)])=Vi:=rfl;show uL (j4 (bj (cV (jw (au (ai (aj rfl)) (au (ai (aj rfl)) (au sN aR))) rfl Q) (ai (df (ao aI (ao (aK (aj rfl) aI rfl rfl (lY _ _)) aM)) rfl (Vl rfl))) (b9 (A _ k5)))) (bj (cV (jw (au (ai (aj rfl)) (au (ai (aj rfl)) (au (ai (aj rfl)) aR))) rfl P) (ai (df (ao aI (ao aI aM)) rfl (Vl rfl))) (b9 (A _ rfl))))) (oy ?_);let p:=(xZ g r B (m:=400) () () w).out;cases e:cC [.fz (bD b),.fz (bD b),.fz (.int 400)] w with
   |bad=>rw[e]at p;show p.elim
   |er x X=>rw[e]at p;let(_,l,o,E,h3):=p;let:=CM g I hN o E;ext
   |ok v X=>rw[e]at p;let(i,l,rfl,_):=p;show uy (cV (LX (EU (au (ai (aj rfl)) (au (ai (aj rfl)) aR)) rfl e) (ai aI) rfl rfl) (ai aI) (b9 (STP.sr (by left)))) rfl
 let(x,X,o,rfl):=L.all;ext L10.SB;rw[show[Vo.list (a.map .int)].map SV.fz=[.fz (.list (a.map .int))]from rfl,o]
end K54
local macro_rules| `(tactic|ext:5)=> `(tactic|exact⟨rfl,rfl,rfl,by left,rfl,by left,by left⟩)| `(tactic|ext:23)=> `(tactic|first
 |exact .head _
 |(apply List.Mem.tail;ext:23))
local macro_rules| `(tactic|ext:24)=> `(tactic|first
 |change L3.jM
 |change L3.B3
 |change L3.B0
 |change L3.w6
 |change L3.JI
 |change L3.xY
 |change L3.Ng
 |change L3.Lx
 |change L3.Dc)
local macro_rules| `(tactic|ext:21)=> `(tactic|·first
 |ext:24
 |change L3.cb
 |change L3.iz
 |change L3.Ep
 |change L3.sC
 |change L3.uA
 |change L3.Eu
 |change L3.Lf
 |change L3.EC
 |change L3.Cw
 |change L3.Nk
 |change L3.DS
 |change L3.gb
 |change L3.gw
 |change L3.KS
 |change L3.vC
 |change L3.xG
 |change L3.KW
 |change L3.DK
 |change L9.Cm
 |change L10.CS
 |change L3.sC)
local macro_rules| `(tactic|ext:8)=> `(tactic|·first
 |change L3.ay
 |change L3.aU
 |(exists L3.bA);ext:21;ext:8;ext:8
 |change L3.gF
 |(exists L3.gK);ext:16
 |(exists L3.gZ);ext:21;ext:16
 |(exists L3.i9);ext:16
 |(exists L3.kK);ext:16
 |(exists L3.Kj);ext:8
 |change L3.uB
 |change L3.SM
 |(exists L3.Om);ext:21;ext:8;ext:28;ext:28
 |(exists L3.Kz);ext:8;ext:8
 |(exists L3.HX);ext:8
 |(exists L3.xL);(·assumption))
local macro_rules| `(tactic|ext:16)=> `(tactic|·first
 |(exists L3.aA);ext:8;ext:16
 |change L3.a9)
local macro_rules| `(tactic|ext:17)=> `(tactic|·first
 |(exists L3.fV);(exists L3.bA);(·ext:24);ext:8;ext:8
 |(exists L3.Lg);ext:17;ext:17
 |(exists L3.Q3);ext:17;ext:17
 |(exists L3.Ol);ext:8
 |change L3.fy)
local macro_rules| `(tactic|ext:10)=> `(tactic|·first
 |change L3.bS
 |(exists L3.wj);ext:10;ext:10
 |change L3.HK
 |(exists L3.Jm);ext:10
 |change L10.bM
 |(exists L10.lB);ext:10;ext:10
 |change L10.yg
 |(exists L10.wz);ext:10)
local macro_rules| `(tactic|ext:25)=> `(tactic|·first
 |(exists L3.jF);ext:16
 |(exists L3.jg);ext:8
 |(exists L3.Hv);ext:16
 |(exists L10.oO);ext:25
 |(exists L10.pi);ext:6)
local macro_rules| `(tactic|ext:28)=> `(tactic|·first
 |(exists L3.yZ);ext:8
 |change L3.zB)
local macro_rules| `(tactic|ext:6)=> `(tactic|·first
 |(exists L10.az);ext:8
 |change L10.aY
 |(exists L10.zX);ext:6;ext:6
 |(exists L10.ii);ext:21;ext:6;ext:6
 |(exists L10.cF);(·assumption);(·ext:23);ext:6
 |(exists L10.FP);ext:12
 |(exists L10.mr);ext:12
 |(exists L10.Dz);ext:12
 |(exists L10.rY);ext:6;ext:6
 |(exists L10.mG);ext:12
 |(exists L10.lz);ext:6;ext:6
 |(exists L10.xX);(·assumption);ext:6;ext:12
 |(exists L10.yL);ext:6
 |(exists L10.zM);ext:6
 |(exists L10.IZ);ext:6;ext:6
 |(exists L10.LZ);ext:6;ext:6
 |(exists L10.iq);ext:21;ext:12
 |(exists L10.mP);ext:6
 |(exists L10.rQ);ext:6;ext:6
 |(exists L10.P1);ext:13;ext:6;ext:6
 |(exists L10.LP);(·assumption);ext:12
 |(exists L10.Ke);ext:6)
local macro_rules| `(tactic|ext:12)=> `(tactic|·first
 |(exists L10.aD);ext:6;ext:12
 |change L10.bw)
local macro_rules| `(tactic|ext:13)=> `(tactic|·first
 |(exists L10.jf);(exists L10.ii);(·ext:24);ext:6;ext:6
 |(exists L10.lC);ext:17
 |(exists L10.My);ext:13;ext:13
 |(exists L10.Qa);ext:13;ext:13
 |(exists L10.Nb);ext:13
 |(exists L10.Oa);ext:6)
local macro_rules| `(tactic|ext:1)=> `(tactic|·first
 |(exists L3.cY);ext:1;ext:1
 |(exists L3.ic);ext:8;ext:10
 |(exists L3.Tl);ext:17;ext:1;ext:1
 |(exists L3.kJ);ext:8
 |(exists L3.wx);ext:8
 |change L3.Ly
 |(exists L3.BQ);ext:25;ext:10;ext:1
 |(exists L3.Az);ext:17;ext:1
 |(exists L10.aZ);ext:1;ext:1
 |(exists L10.ei);ext:6;ext:10
 |(exists L10.nM);ext:13;ext:1;ext:1
 |(exists L10.i4);ext:6
 |(exists L10.fX);ext:6
 |(exists L10.JF);ext:6;ext:6;ext:6
 |(exists L10.mL);(·assumption);(·ext:23);ext:6;ext:6
 |change L10.ja
 |(exists L10.Ef);ext:25;ext:10;ext:1
 |(exists L10.pZ);ext:13;ext:1
 |change L10.Jt)
local macro_rules| `(tactic|ext:7)=> `(tactic|·first
 |exact L2.bK
 |exact L2.jG (by assumption)
 |exact L2.Bq (by assumption)
 |exact L3.xA (by assumption)
 |exact L3.NM (by assumption)
 |exact L9.wy
 |exact L3.iK
 |exact L2.G6
 |exact L2.D6
 |exact L2.G1
 |exact L3.w9
 |exact L2.GR
 |exact L2.Ij
 |exact L2.v9
 |exact L2.wX
 |exact L2.N8
 |exact L2.Ru
 |exact L2.Jf
 |exact L2.KC
 |exact L2.Hj
 |exact L2.c7
 |exact L2.cL
 |exact L2.xi
 |exact L2.iU
 |exact L2.Ar
 |exact L10.vV
 |exact L2.Gs
 |exact L3.GF
 |exact L2.CP
 |exact ahZ
 |exact L2.iX
 |exact L2.iA
 |exact L2.ww
 |exact L2.OQ
 |exact L2.yB
 |exact L2.Ex
 |exact L10.Rj
 |exact L2.bX
 |change WZ
 |change X2
 |change X3
 |change PySem.F.slot_list_insert
 |change PySem.F.type_list_insert
 |change PySem.F.slot_list_extend
 |change PySem.F.type_list_extend
 |change ZZ
 |change ZS
 |change acS
 |exact L2.FH rfl
 |exact L3.ou rfl
 |exact L10.tW rfl
 |exact L10.uE rfl
 |exact L10.Bk rfl
 |rfl)
local macro_rules| `(tactic|ext:4)=> `(tactic|·first
 |(exists L2.pv);(·rfl);(·(first|exact a7 rfl|exact bb (a7 rfl)|exact bb (bb rfl)));(·decide);(·decide)
 |change L2.aN
 |(exists L2.cI);ext:7;ext:4;ext:4;(·exact λ_ _=>rfl)
 |change L2.gO
 |(exists L2.gD);ext:7;ext:4;ext:4
 |(exists L2.Cy);(·assumption);ext:4;ext:4;(·exact λ_ _=>rfl)
 |(exists L2.eA);(·assumption);(·assumption);ext:9;(·decide);(·rfl);(·decide);(·rfl);(·rfl)
 |(exists L2.d9);ext:9
 |change L2.eO
 |(exists L2.ip);ext:9
 |(exists L2.bt);ext:7;(·rfl);(·assumption);ext:7;ext:9;(·decide);(·decide);(·rfl);(·rfl)
 |(exists L2.di);ext:7;(·rfl);(·assumption);ext:7;ext:9;(·decide);(·decide);(·rfl);(·rfl)
 |(exists L2.eT);(·rfl);(·assumption);(·(first|rfl|exact⟨_,rfl⟩));(·decide)
 |change L2.Hu
 |(exists L2.fF);ext:7;ext:4;ext:4;(·(first|rfl|with_unfolding_all rfl))
 |(apply L2.c8);ext:4;(·rfl)
 |(apply L2.rp);ext:7;ext:7;ext:7;ext:7;ext:4;ext:9;(·rfl);(·rfl);(·decide);(·rfl);(·rfl)
 |(exists L2.IB);ext:14;ext:4;ext:4
 |(apply L2.IH);ext:7;ext:7;ext:7;ext:7;ext:4;(·rfl);(·decide)
 |(exists L2.tJ);ext:4
 |(exists L2.nU);ext:4;ext:4
 |(exists L2.Oo);ext:7;ext:4
 |(apply L2.Ap);ext:7;ext:4;ext:29;ext:29
 |(apply L2.Hs);ext:4;ext:4;(·exact⟨rfl,rfl,rfl,rfl⟩)
 |(exists L2.yk);(·rfl);(·assumption);ext:7;(·(first|rfl|exact⟨_,rfl⟩));(·decide);(·decide)
 |(apply L10.Ay);(·assumption);ext:7;(·assumption);ext:4;ext:9;(·decide);(·rfl);(·rfl);(·rfl)
 |(apply L10.Kn);(·assumption);ext:7;(·assumption);ext:4;(·decide);(·rfl)
 |(apply L10.Kp);(·assumption);ext:7;(·assumption);ext:9;(·decide);(·rfl);(·decide);(·rfl);(·rfl)
 |(apply L10.Ez);(·rfl);(·rfl);(·assumption);ext:9;(·rfl))
local macro_rules| `(tactic|ext:9)=> `(tactic|·first
 |(exists L2.aa);ext:4;ext:9;(·rfl)
 |change L2.aw)
local macro_rules| `(tactic|ext:14)=> `(tactic|·first
 |(exists L2.c9);ext:7;ext:4;ext:4;(·(first|rfl|with_unfolding_all rfl))
 |(exists L2.JQ);ext:14
 |(exists L2.Kb);ext:34;(·(first|rfl|with_unfolding_all rfl))
 |(exists L2.PW.pt);ext:26
 |(exists L2.Cn);ext:4;(·(intro _;rfl)))
local macro_rules| `(tactic|ext:26)=> `(tactic|·first
 |(exists L2.Ln);ext:14
 |(exists L2.QE);ext:14;ext:26
 |(exists L2.JE);ext:14
 |(exists L2.OM);ext:14;ext:26)
local macro_rules| `(tactic|ext:34)=> `(tactic|·first
 |(exists L2.Qe);(·assumption);ext:4;ext:4)
local macro_rules| `(tactic|ext:22)=> `(tactic|·first
 |(exists L2.bW);(·(first|assumption|left));(·rfl);(·(first|exact a7 rfl|exact bb rfl|assumption|rfl));(·(first|exact a7 rfl|exact bb rfl|assumption|rfl))
 |(exists L2.jb);ext:22;ext:22;(·rfl)
 |change L2.sA
 |(apply L2.yi);(·rfl);ext:22;(·rfl);(·rfl))
local macro_rules| `(tactic|ext:35)=> `(tactic|·first
 |(exists L2.gn);(·rfl);(·assumption);ext:9;(·rfl)
 |(apply L3.Ii);(·rfl);(·assumption);ext:9;(·rfl);(·rfl)
 |(apply L3.gj);ext:4)
local macro_rules| `(tactic|ext:29)=> `(tactic|·first
 |change L2.C9
 |(exists L2.DA);ext:4)
local macro_rules| `(tactic|ext:2)=> `(tactic|·first
 |(exists L2.aL);ext:2
 |change L2.eV
 |(exists L2.ar);ext:2;ext:2
 |(exists L2.bQ);(·(first|assumption|left));(·rfl);(·(first|exact a7 rfl|exact bb rfl|assumption|rfl));ext:4;(·rfl);(·(first|exact a7 rfl|exact bb rfl|assumption|rfl))
 |(exists L2.eX);ext:4;(·rfl)
 |(exists L2.cK);ext:4
 |(exists L2.jC);ext:14;ext:2;ext:2
 |(exists L2.wo);ext:7;(·rfl);ext:35;ext:22;ext:2;(·(intro _;rfl))
 |(apply L2.pP);ext:4;ext:4;(·rfl)
 |(exists L2.NJ);(·assumption);ext:4;ext:4;ext:4;(·rfl)
 |(exists L2.J5);ext:4;ext:22;(·rfl);(·rfl);(·rfl)
 |change L2.M5
 |(exists L2.oz);ext:7;ext:14;ext:2
 |change L2.dS)
local macro_rules| `(tactic|ext:11)=> `(tactic|(intros;refine L3.Ck (by ext:1) ?_;first|(apply L2.ar);ext:2;ext:2|(apply L2.aL);ext:2))| `(tactic|ext:30)=> `(tactic|(intros;refine L3.Gp (by ext:1) ?_;first|(apply L2.ar);ext:2;ext:2|(apply L2.aL);ext:2))
local macro_rules|`(-($x))=>`(Option.some (.fz $x))
namespace K54
open PySem L2 L3 STP
def top(i:Nat):XM:=PySem.Challenge.pw_chordbed_k54_beds_of_other_keys.main.body.getD i (.Pass ⟨0,0,0,0⟩)
def fb:XM->G XM
 |.For _ _ b _ _=>b
 |.If _ b _ _=>b
 |_=>[]
def ss:WB->WB
 |.Subscript _ v _=>v
 |e=>e
def lp:WB->Pos
 |.List _ p=>p
 |_=>⟨0,0,0,0⟩
def fI:XM->WB
 |.For _ i _ _ _=>i
 |_=>.Name "" ⟨0,0,0,0⟩
def nP:XM->Pos
 |.Assign [.Name _ p] _ _=>p
 |_=>⟨0,0,0,0⟩
def sv:WB->WB
 |.Subscript v _ _=>v
 |e=>e
def le:WB->G WB
 |.List l _=>l
 |_=>[]
def bl:WB->WB
 |.BinOp a _ _ _=>a
 |e=>e
def dK:WB->G (br WB)
 |.Dict k _ _=>k
 |_=>[]
def dV:WB->G WB
 |.Dict _ v _=>v
 |_=>[]
section
variable{P:VV}{w:Wh}{K:Ld}{Y:Str->br Vh}{base:Heap}{f:Vm}{X:WA}
theorem zu(F:YZ K "layer_of" "layer_of" (top 16) f X)(b:Y "max"=M):FnOk P w K Y base dX 1 f X ["standing"] (rC K 1 ez):=pM (N:=["standing"]) (g:=nQ) F (by ext:5) W W W λm A a s H E nd l h e j=>Gp (cY (by ext:1)
   (kJ (gZ L10.CS (aA (fE W W (jg (bA cb ay aU)) (Jm (wj bS (wj bS HK))) (fV (bA jM (bA cb ay aU) gF)) (bA cb ay aU)) a9)))) (ar (by ext:2)
   (aL (cK (L10.Ez W W b (aa (fC ["key","act"] [] W (gj (cI bK (pv 0) aN (λ_ _=>W))) (λ_ _ _ _=>(yi W (jb (bW (i:=0) (show WJ (["key","act"]:G Str) by left) W (a7 W)) (jb (bW (i:=1) (show WJ (["key","act"]:G Str) by left) W (a7 W)) sA)))) (λ_ _ _ _=>(sU (c9 (jG h) (cI bK (pv 1) aN (λ_ _=>W)) gO (cO _)))) (λ_ _ _ _=>(cI bK (pv 1) aN (λ_ _=>W))) trivial W) aw)))))
theorem yr(F:YZ K "looked_up" "looked_up" (top 19) f X):FnOk P w K Y base dX 1 f X ["bed","layer","key"] (rC K 3 jq):=pM (N:=["bed","layer","key","meaning"]) (g:=l9) F (by ext:5) W W W λj A a s H E nd i h b e=>Gp (cY (by ext:1)
   (cY (by ext:1)
   (kJ ay))) (ar (by ext:2)
   (ar (by ext:2)
   (aL (cK (pv 3)))))
theorem uM(F:YZ K "chords_over" "chords_over" (top 20) f X)(b:Y "all"=M):FnOk P w K Y base dX 1 f X ["bed","keys"] (rC K 2 bT):=pM (N:=["bed","keys"]) (g:=jK) F (by ext:5) W W W λm A a s H E nd l j h e=>Gp (kJ (fE W W (jg (bA cb ay aU)) bS (Ol (gZ xG (aA (fE W W (jg ay) bS fy (bA xY ay (bA cb ay aU))) a9))) ay)) (aL (cK (fC ["chord"] [("keys",1)] W (gj (cI bK (pv 0) aN (λ_ _=>W))) (λ_ _ _ _=>(bW (i:=0) (show WJ (["chord","keys"]:G Str) by left) W (bb W))) (λ_ _ _ _=>(sU (Cn (bt (ou W) W b Ex (aa (fC ["key"] [("chord",0)] W (gj (pv 1)) (λ_ _ _ _=>(bW (i:=0) (show WJ (["key","chord"]:G Str) by left) W (a7 W))) (λ_ _ _ _=>cW) (λ_ _ _ _=>(fF (xA e) (pv 0) (cI bK (pv 1) aN (λ_ _=>W)) (by with_unfolding_all rfl))) ⟨⟨W,W,a7 W⟩,trivial⟩ W) aw))))) (λ_ _ _ _=>(pv 0)) ⟨⟨W,W,a7 W⟩,trivial⟩ W)))
theorem u9(F:YZ K "chord_acts" "chord_acts" (top 21) f X)(p:Y "list"=M)(l:Y "sorted"=M)(q:Y "len"=M){a:I}(j:Y "NONE"=R (.ref a))(h:∀O H,DV O K H (.ref a) (.tuple [(.str "none")])):FnOk P w K Y base dX 1 f X ["bed","keys"] (rC K 2 gA):=pM (N:=["bed","keys","chord"]) (g:=kG) F (by ext:5) W W W λr A b s H E nd o n e m=>Gp (cY (by ext:1)
   (kJ (fE W W (jg ay) bS fy (bA cb (bA cb (bA cb ay aU) aU) ay)))) (ar (by ext:2)
   (aL (cK (fC ["key"] [("bed",0)] W (gj (pv 1)) (λ_ _ _ _=>(bW (i:=0) (show WJ (["key","bed"]:G Str) by left) W (a7 W))) (λ_ _ _ _=>cW) (λ_ _ _ _=>(cI bK (cI bK (cI bK (pv 1) aN (λ_ _=>W)) aN (λ_ _=>W)) (pv 0) (λ_ _=>W))) ⟨⟨W,W,a7 W⟩,trivial⟩ W))))
theorem wA(F:YZ K "_law_cell" "_law_cell" (top 30) f X)(j:Y "len"=M):FnOk P w K Y base dX 1 f X ["_law_script","_law_k"] (rC K 2 bz):=pM (N:=["_law_script","_law_k"]) (g:=rl) F (by ext:5) W W W λl A a s H E nd i h b e=>Gp (cY (by ext:1)
   (kJ aU)) (ar (by ext:2)
   (aL (cK aN)))
theorem xm(F:YZ K "_law_take" "_law_take" (top 31) f X)(a:Y "range"=M):FnOk P w K Y base dX 1 f X ["_law_cell_here","_law_salt","_law_many_here"] (rC K 3 aF):=pM (N:=["_law_cell_here","_law_salt","_law_many_here","_law_turn","_law_number"]) (g:=hJ) F (by ext:5) W W W (by delta hJ;ext:30)
theorem ut(F:YZ K "_law_letter" "_law_letter" (top 32) f X)(h:g7 P w K Y base 1 "_law_take" ["_law_cell_here","_law_salt","_law_many_here"] 3 aF):FnOk P w K Y base dX 2 f X ["_law_cell_here","_law_salt"] (rC K 2 dD):=pM (N:=["_law_cell_here","_law_salt"]) (g:=nu) F (by ext:5) W W W λl A a s H E nd e j b i=>Gp (kJ (bA sC gF (gK (aA ay (aA ay (aA aU a9)))))) (aL (cK (cI bK gO (eA h e (aa (pv 0) (aa (pv 1) (aa aN aw)))) (λ_ _=>W))))
theorem rO(F:YZ K "_law_meaning" "_law_meaning" (top 33) f X)(e:g7 P w K Y base 1 "_law_take" ["_law_cell_here","_law_salt","_law_many_here"] 3 aF)(b:g7 P w K Y base 2 "_law_letter" ["_law_cell_here","_law_salt"] 2 dD)(a:Y "max"=M):FnOk P w K Y base dX 3 f X ["_law_cell_here","_law_layer","_law_many_here"] (rC K 3 fA):=pM (N:=["_law_cell_here","_law_layer","_law_many_here","_law_way","_law_level"]) (g:=e9) F (by ext:5) W W W (by delta e9;ext:30)
theorem t8(F:YZ K "_law_chords" "_law_chords" (top 34) f X)(p:g7 P w K Y base 1 "_law_take" ["_law_cell_here","_law_salt","_law_many_here"] 3 aF)(h:Y "range"=M)(m:Y "tuple"=M)(l:Y "len"=M)(b:Y "all"=M):FnOk P w K Y base dX 2 f X ["_law_cell_here","_law_keys_here","_law_first"] (rC K 3 gQ):=pM (N:=["_law_cell_here","_law_keys_here","_law_first","_law_found","_law_mask","_law_some","_law_good"]) (g:=gW) F (by ext:5) W W W λq A a s H E nd o e j n=>Gp (cY (by ext:1)
   (cY (BQ (jF (aA (bA DS aU ay) a9)) bS (cY (ic (gZ gw (aA (fE W W (jF (aA ay a9)) bS (fV (bA jM (bA EC (bA Cw ay ay) aU) aU)) ay) a9)) bS)
   (cY (ic (Kz (bA w6 (gZ gb (aA ay a9)) aU) (gZ xG (aA (fE W W (jg ay) bS fy (bA jM (bA cb (bA cb ay ay) aU) gF)) a9))) bS)
   (by ext:1))))
   (by ext:1))) (ar (by ext:2)
   (ar (wo aac.never W (gn W h (aa (gD Hj aN (pv 1)) aw)) (bW (i:=4) nd W (bb W)) (ar (bQ (i:=5) nd W (a7 W) (di cL W m iA (aa (fC ["_law_key"] [("_law_mask",4)] W (gn W h (aa (pv 1) aw)) (λ_ _ _ _=>(bW (i:=0) (show WJ (["_law_key","_law_mask"]:G Str) by left) W (a7 W))) (λ_ _ _ _=>(sU (c9 (jG e) (gD KC (gD Jf (pv 1) (pv 0)) aN) aN (cO _)))) (λ_ _ _ _=>(pv 0)) ⟨⟨W,W,a7 W⟩,trivial⟩ W) aw)))
   (ar (bQ (i:=6) nd W (a7 W) (nU (fF D6 (bt c7 W l iX (aa (pv 5) aw)) aN (cO _)) (tJ (bt (ou W) W b Ex (aa (fC ["_law_key"] [("_law_first",2)] W (gj (pv 5)) (λ_ _ _ _=>(bW (i:=0) (show WJ (["_law_key","_law_first"]:G Str) by left) W (a7 W))) (λ_ _ _ _=>cW) (λ_ _ _ _=>(fF (jG e) (cI bK (cI bK (pv 1) (pv 0) (λ_ _=>W)) aN (λ_ _=>W)) gO (cO _))) ⟨⟨W,W,a7 W⟩,trivial⟩ W) aw)))))
   (aL (by ext:2)))))
   (aL (by ext:2))))
theorem zP(F:YZ K "_law_bed" "_law_bed" (top 35) f X)(m:g7 P w K Y base 1 "_law_cell" ["_law_script","_law_k"] 2 bz)(q:g7 P w K Y base 1 "_law_take" ["_law_cell_here","_law_salt","_law_many_here"] 3 aF)(l:g7 P w K Y base 3 "_law_meaning" ["_law_cell_here","_law_layer","_law_many_here"] 3 fA)(j:g7 P w K Y base 2 "_law_chords" ["_law_cell_here","_law_keys_here","_law_first"] 3 gQ)(e:Y "range"=M)(n:Y "tuple"=M):FnOk P w K Y base dX 4 f X ["_law_script","_law_at","_law_keys_here"] (rC K 3 gL):=pM (N:=["_law_script","_law_at","_law_keys_here","_law_cell_here","_law_many_here","_law_layers","_law_layer","_law_cells","_law_chords_here"]) (g:=kB) F (by ext:5) W W W λr A a s H E nd b p h o=>Gp (cY (by ext:1)
   (cY (by ext:1)
   (cY (ic (kK a9) bS)
   (cY (BQ (jF (aA ay a9)) bS (cY (ic (fE W W (jF (aA ay a9)) bS fy (gK (aA ay (aA (bA iz (bA iz (bA iz ay aU) (bA uA ay ay)) ay) a9)))) bS)
   (wx (Kj (gZ gw (aA (fE W W (jg ay) bS fy (gK (aA ay (aA ay (aA ay a9))))) a9))))))
   (cY (by ext:1)
   (by ext:1)))))) (ar (by ext:2)
   (ar (by ext:2)
   (ar (bQ (i:=5) nd W (a7 W) (ip aw))
   (ar (wo aac.never W (gn W e (aa (pv 4) aw)) (bW (i:=6) nd W (bb W)) (ar (pA (i:=7) ["_law_key"] [("_law_script",0),("_law_at",1),("_law_keys_here",2),("_law_layer",6)] nd W W W (gn W e (aa (pv 2) aw)) (λ_ _ _ _=>(bW (i:=0) (show WJ (["_law_key","_law_script","_law_at","_law_keys_here","_law_layer"]:G Str) by left) W (a7 W))) (λ_ _ _ _=>cW) (λ_ _ _ _=>(eA m b (aa (pv 1) (aa (gD iK (gD iK (gD iK (pv 2) aN) (gD w9 (pv 3) (pv 4))) (pv 0)) aw)))) ⟨⟨W,W,a7 W⟩,⟨⟨W,W,a7 W⟩,⟨⟨W,W,a7 W⟩,⟨⟨W,W,a7 W⟩,trivial⟩⟩⟩⟩ W)
   (aL (eX (rp WZ X2 X3 iU (pv 5) (aa (di cL W n iA (aa (fC ["_law_one"] [("_law_layer",6),("_law_many_here",4)] W (gj (pv 7)) (λ_ _ _ _=>(bW (i:=0) (show WJ (["_law_one","_law_layer","_law_many_here"]:G Str) by left) W (a7 W))) (λ_ _ _ _=>cW) (λ_ _ _ _=>(eA l b (aa (pv 0) (aa (pv 1) (aa (pv 2) aw))))) ⟨⟨W,W,a7 W⟩,⟨⟨W,W,a7 W⟩,trivial⟩⟩ W) aw)) aw))))))
   (ar (by ext:2)
   (aL (by ext:2)))))))
theorem xW(F:YZ K "_law_keys" "_law_keys" (top 36) f X)(h:g7 P w K Y base 1 "_law_cell" ["_law_script","_law_k"] 2 bz)(i:g7 P w K Y base 1 "_law_take" ["_law_cell_here","_law_salt","_law_many_here"] 3 aF):FnOk P w K Y base dX 2 f X ["_law_script"] (rC K 1 jz):=pM (N:=["_law_script"]) (g:=rd) F (by ext:5) W W W λm A a s H E nd b l e j=>Gp (kJ (bA cb (kK (aA aU (aA aU (aA aU (aA aU a9))))) (gK (aA (gK (aA ay (aA aU a9))) (aA aU (aA aU a9)))))) (aL (cK (cI bK (ip (aa aN (aa aN (aa aN (aa aN aw))))) (eA i b (aa (eA h b (aa (pv 0) (aa aN aw))) (aa aN (aa aN aw)))) (λ_ _=>W))))
theorem pf(F:YZ K "_law_great_bed" "_law_great_bed" (top 39) f X)(h:g7 P w K Y base 1 "_law_take" ["_law_cell_here","_law_salt","_law_many_here"] 3 aF)(j:Y "range"=M)(n:Y "list"=M)(e:Y "len"=M)(l:Y "tuple"=M):FnOk P w K Y base dX 2 f X ["_law_cell_here"] (rC K 1 fD):=pM (N:=["_law_cell_here","_law_keys_here","_law_start","_law_letters","_law_some","_law_layer"]) (g:=j7) F (by ext:5) W W W λq A a s H E nd b p m o=>Gp (cY (ic (bA iz aU (gK (aA ay (aA aU (aA aU a9))))) bS)
   (cY (ic (gK (aA ay (aA aU (aA aU a9)))) bS)
   (cY (ic (fE W W (jF (aA (bA iz ay aU) a9)) bS fy (bA sC gF (bA Eu (bA iz ay (bA uA aU ay)) aU))) bS)
   (cY (ic (L9.Ti (aA ay a9)) bS)
   (cY (Az (fV (bA w6 (gZ gb (aA ay a9)) aU)) (wx (HX (gK (aA ay (aA (bA iz aU (gZ gb (aA ay a9))) (aA (gZ gb (aA ay a9)) a9)))))))
   (cY (ic (gZ gw (aA (fE W W (jg (Om DK ay zB (yZ ay))) bS fy (i9 (aA gF (aA ay a9)))) a9)) bS)
   (kJ (i9 (aA ay (aA (i9 (aA ay a9)) (aA (i9 (aA (i9 (aA (gZ gw (aA ay a9)) (aA (bA cb ay ay) a9))) a9)) (aA (bA cb (kK (aA aU (aA aU a9))) (bA Ep ay aU)) a9)))))))))))) (ar (bQ (i:=1) nd W (a7 W) (gD iK aN (eA h b (aa (pv 0) (aa aN (aa aN aw))))))
   (ar (bQ (i:=2) nd W (bb W) (eA h b (aa (pv 0) (aa aN (aa aN aw)))))
   (ar (pA (i:=3) ["_law_k"] [("_law_start",2)] nd W W W (gn W j (aa (gD iK (pv 1) aN) aw)) (λ_ _ _ _=>(bW (i:=0) (show WJ (["_law_k","_law_start"]:G Str) by left) W (a7 W))) (λ_ _ _ _=>cW) (λ_ _ _ _=>(cI bK gO (gD GR (gD iK (pv 1) (gD w9 aN (pv 0))) aN) (λ_ _=>W))) ⟨⟨W,W,a7 W⟩,trivial⟩ W)
   (ar (bQ (i:=4) nd W (a7 W) (di (L9.Fy W) W n ww (aa (di L9.Fd W j L9.Mq (aa (pv 1) aw)) aw)))
   (ar (oz aac.never (c9 D6 (bt c7 W e iX (aa (pv 4) aw)) aN (cO _)) (aL (eX (rp WZ PySem.F.slot_list_pop PySem.F.type_list_pop Ar (pv 4) (aa (eA h b (aa (pv 0) (aa (gD iK aN (bt c7 W e iX (aa (pv 4) aw))) (aa (bt c7 W e iX (aa (pv 4) aw)) aw)))) aw)))))
   (ar (bQ (i:=5) nd W (a7 W) (di cL W l iA (aa (fC ["_law_letter_here"] [] W (gj (Ap GF (pv 3) C9 (DA (pv 1)))) (λ_ _ _ _=>(bW (i:=0) (show WJ (["_law_letter_here"]:G Str) by left) W (a7 W))) (λ_ _ _ _=>cW) (λ_ _ _ _=>(d9 (aa gO (aa (pv 0) aw)))) trivial W) aw)))
   (aL (cK (d9 (aa (pv 1) (aa (d9 (aa (pv 5) aw)) (aa (d9 (aa (d9 (aa (di cL W l iA (aa (pv 4) aw)) (aa (cI bK (pv 3) (pv 1) (λ_ _=>W)) aw))) aw)) (aa (cI bK (ip (aa aN (aa aN aw))) (gD G6 (pv 1) aN) (λ_ _=>W)) aw)))))))))))))
theorem yq(F:YZ K "events_of" "events_of" (top 23) f X)(b:Y "range"=M):FnOk P w K Y base dX 1 f X ["bed"] (rC K 1 d5):=pM (N:=["bed","downs","ups"]) (g:=md) F (by ext:5) W W W λm A a s H E nd l j e h=>Gp (cY (ic (fE W W (jF (aA (bA cb ay aU) a9)) bS fy (i9 (aA gF (aA ay a9)))) bS)
   (cY (ic (fE W W (jF (aA (bA cb ay aU) a9)) bS fy (i9 (aA gF (aA ay a9)))) bS)
   (by ext:1))) (ar (pA (i:=1) ["key"] [] nd W W W (gn W b (aa (cI bK (pv 0) aN (λ_ _=>W)) aw)) (λ_ _ _ _=>(bW (i:=0) (show WJ (["key"]:G Str) by left) W (a7 W))) (λ_ _ _ _=>cW) (λ_ _ _ _=>(d9 (aa gO (aa (pv 0) aw)))) trivial W)
   (ar (pA (i:=2) ["key"] [] nd W W W (gn W b (aa (cI bK (pv 0) aN (λ_ _=>W)) aw)) (λ_ _ _ _=>(bW (i:=0) (show WJ (["key"]:G Str) by left) W (a7 W))) (λ_ _ _ _=>cW) (λ_ _ _ _=>(d9 (aa gO (aa (pv 0) aw)))) trivial W)
   (aL (by ext:2))))
end
end K54
namespace K54
open PySem L2 L3 L10 STP
section
variable{P:VV}{w:Wh}{K:Ld}{Y:Str->br Vh}{base:Heap}{f:Vm}{X:WA}
theorem qL(F:YZ K "__init__" "Hand.__init__" (bu (top 18) 0) f X)(h:gI K "Hand" ["bed","acts","waiting","once","sent"])(e:Y "dict"=M):FnOk P w K Y base dX 3 f X ["self","bed","standing"] (dc K 3 eC):=mj (N:=["self","bed","standing"]) (g:=kS) F (by ext:5) W W W λm A a s H E nd l j b i=>Ck (aZ (mL h (.head _) aY (az ay))
   (aZ (by ext:1)
   (aZ (by ext:1)
   (aZ (by ext:1)
   (by ext:1))))) (ar (pP (pv 0) (pv 1) W)
   (ar (by ext:2)
   (ar (by ext:2)
   (ar (by ext:2)
   (aL (by ext:2))))))
theorem sZ(F:YZ K "stands" "Hand.stands" (bu (top 18) 1) f X)(a:gI K "Hand" ["bed","acts","waiting","once","sent"])(j:Y "tuple"=M)(h:Y "sorted"=M):FnOk P w K Y base dX 3 f X ["self"] (dc K 1 bV):=mj (N:=["self"]) (g:=nz) F (by ext:5) W W W λo A b s H E nd n m e l=>Ck (fX (mG (aD (iq gw (aD (lW W W (pi (zM (cF a (.tail _ (.head _)) aY))) bM km (mG (aD (az ay) (aD (zX (cF a (.tail _ (.head _)) aY) (az ay)) bw)))) bw)) (aD (cF a (.tail _ (.tail _ (.head _))) aY) (aD (cF a (.tail _ (.tail _ (.tail _ (.head _)))) aY) bw))))) (aL (cK (d9 (aa (di cL W j iA (aa (fC ["key"] [("self",0)] W (gj (bt (uE W) W h yB (aa (c8 (pv 0) W) aw))) (λ_ _ _ _=>(bW (i:=0) (show WJ (["key","self"]:G Str) by left) W (a7 W))) (λ_ _ _ _=>cW) (λ_ _ _ _=>(d9 (aa (pv 0) (aa (Cy e (c8 (pv 1) W) (pv 0) (λ_ _=>W)) aw)))) ⟨⟨W,W,a7 W⟩,trivial⟩ W) aw)) (aa (c8 (pv 0) W) (aa (c8 (pv 0) W) aw))))))
theorem og(F:YZ K "is_waiting" "Hand.is_waiting" (bu (top 18) 2) f X)(b:gI K "Hand" ["bed","acts","waiting","once","sent"]):FnOk P w K Y base dX 3 f X ["self","key"] (dc K 2 cH):=mj (N:=["self","key"]) (g:=jA) F (by ext:5) W W W λl A a s H E nd j i h e=>Ck (fX (rQ (ii Dc (cF b (.tail _ (.tail _ (.head _))) aY) (az uB)) (ii xY (az ay) (lz (cF b (.tail _ (.tail _ (.head _))) aY) (az aU))))) (aL (cK (nU (fF wX (c8 (pv 0) W) eO (cO _)) (tJ (fF (xA e) (pv 1) (cI bK (c8 (pv 0) W) aN (λ_ _=>W)) (by with_unfolding_all rfl))))))
theorem rD(F:YZ K "has_act" "Hand.has_act" (bu (top 18) 13) f X)(i:gI K "Hand" ["bed","acts","waiting","once","sent"])(h:Y "list"=M):FnOk P w K Y base dX 3 f X ["self","act"] (dc K 2 b6):=mj (N:=["self","act"]) (g:=lG) F (by ext:5) W W W λm A a s H E nd l j e b=>Ck (fX (ii xY (az ay) (yL (cF i (.tail _ (.head _)) aY)))) (aL (cK (fF (xA b) (pv 1) (di (tW W) W h ww (aa (IH ZZ ZS acS vV (c8 (pv 0) W)) aw)) (by with_unfolding_all rfl))))
theorem wb(F:YZ K "come" "Hand.come" (bu (top 18) 11) f X)(b:gI K "Hand" ["bed","acts","waiting","once","sent"])(a:cz P w K Y base dX 3 "Hand" "has_act" ["self","act"] (dc K 2 b6)):FnOk P w K Y base dX 4 f X ["self","key","act"] (dc K 3 bL):=mj (N:=["self","key","act"]) (g:=lx) F (by ext:5) W W W (by delta lx;ext:11)
theorem Bl(F:YZ K "go" "Hand.go" (bu (top 18) 12) f X)(b:gI K "Hand" ["bed","acts","waiting","once","sent"])(a:cz P w K Y base dX 3 "Hand" "has_act" ["self","act"] (dc K 2 b6)):FnOk P w K Y base dX 4 f X ["self","key"] (dc K 2 jV):=mj (N:=["self","key","act"]) (g:=pX) F (by ext:5) W W W (by delta pX;ext:11)
theorem tP(F:YZ K "decide" "Hand.decide" (bu (top 18) 10) f X)(j:gI K "Hand" ["bed","acts","waiting","once","sent"])(q:cz P w K Y base dX 4 "Hand" "come" ["self","key","act"] (dc K 3 bL))(i:g7 P w K Y base 1 "chord_acts" ["bed","keys"] 2 gA)(h:Y "zip"=M){b:I}(p:Y "CHORD"=R (.ref b))(o:∀O H,L3.DV O K H (.ref b) (.tuple [(.str "chord")])):FnOk P w K Y base dX 5 f X ["self"] (dc K 1 cB):=mj (N:=["self","keys","what","acts","key","act"]) (g:=nF) F (by ext:5) W W W λr A a s H E nd n m e l=>Ck (aZ (by ext:1)
   (aZ (by ext:1)
   (aZ (mL j (.tail _ (.tail _ (.head _))) aY (az uB))
   (aZ (by ext:1)
   (by ext:1))))) (ar (by ext:2)
   (ar (by ext:2)
   (ar (pP (pv 0) eO W)
   (ar (by ext:2)
   (aL (by ext:2))))))
theorem nc(F:YZ K "makes_chord" "Hand.makes_chord" (bu (top 18) 4) f X)(l:gI K "Hand" ["bed","acts","waiting","once","sent"])(i:cz P w K Y base dX 3 "Hand" "stands" ["self"] (dc K 1 bV))(b:g7 P w K Y base 1 "layer_of" ["standing"] 1 ez)(j:g7 P w K Y base 1 "chords_over" ["bed","keys"] 2 bT){a:I}(h:Y "CHORD"=R (.ref a))(e:∀O H,L3.DV O K H (.ref a) (.tuple [(.str "chord")])):FnOk P w K Y base dX 4 f X ["self","key"] (dc K 2 d7):=mj (N:=["self","key"]) (g:=gf) F (by ext:5) W W W (by delta gf;ext:11)
theorem l6(F:YZ K "put_to_chord" "Hand.put_to_chord" (bu (top 18) 5) f X)(j:gI K "Hand" ["bed","acts","waiting","once","sent"])(n:cz P w K Y base dX 5 "Hand" "decide" ["self"] (dc K 1 cB))(o:g7 P w K Y base 1 "chords_over" ["bed","keys"] 2 bT)(e:Y "len"=M){h:I}(r:Y "CHORD"=R (.ref h))(q:∀O H,L3.DV O K H (.ref h) (.tuple [(.str "chord")])):FnOk P w K Y base dX 6 f X ["self","key"] (dc K 2 dM):=mj (N:=["self","key","keys"]) (g:=iw) F (by ext:5) W W W λt A a s H E nd b m l p=>Ck (aZ (by ext:1)
   (aZ (by ext:1)
   (nM (jf (ii jM (lW W W (pi (Dz (aD (cF j (.head _) aY) (aD (az ay) bw)))) bM km (az (gZ gb (aA (bA cb ay aU) a9)))) (az (kK (aA (gZ gb (aA ay a9)) a9))))) (i4 (xX j aY bw)) ja))) (ar (by ext:2)
   (ar (by ext:2)
   (aL (jC (c9 (jG m) (fC ["chord"] [] W (gj (eA o b (aa (c8 (pv 0) W) (aa (pv 2) aw)))) (λ_ _ _ _=>(bW (i:=0) (show WJ (["chord"]:G Str) by left) W (a7 W))) (λ_ _ _ _=>cW) (λ_ _ _ _=>(bt c7 W e iX (aa (cI bK (pv 0) aN (λ_ _=>W)) aw))) trivial W) (ip (aa (bt c7 W e iX (aa (pv 2) aw)) aw)) (cO _)) (aL (eX (Kn n CP b (pv 0)))) eV))))
theorem uV(F:YZ K "begin" "Hand.begin" (bu (top 18) 6) f X)(q:gI K "Hand" ["bed","acts","waiting","once","sent"])(n:cz P w K Y base dX 3 "Hand" "stands" ["self"] (dc K 1 bV))(o:cz P w K Y base dX 4 "Hand" "come" ["self","key","act"] (dc K 3 bL))(j:g7 P w K Y base 1 "layer_of" ["standing"] 1 ez)(i:g7 P w K Y base 1 "looked_up" ["bed","layer","key"] 3 jq)(p:g7 P w K Y base 1 "chords_over" ["bed","keys"] 2 bT){b:I}(m:Y "CHORD"=R (.ref b))(l:∀O H,L3.DV O K H (.ref b) (.tuple [(.str "chord")])){a:I}(h:Y "NONE"=R (.ref a))(e:∀O H,L3.DV O K H (.ref a) (.tuple [(.str "none")])):FnOk P w K Y base dX 5 f X ["self","key"] (dc K 2 gv):=mj (N:=["self","key","layer","meaning","word"]) (g:=kr) F (by ext:5) W W W (by delta kr;ext:11)
theorem uS(F:YZ K "press" "Hand.press" (bu (top 18) 3) f X)(j:gI K "Hand" ["bed","acts","waiting","once","sent"])(h:cz P w K Y base dX 3 "Hand" "is_waiting" ["self","key"] (dc K 2 cH))(b:cz P w K Y base dX 4 "Hand" "makes_chord" ["self","key"] (dc K 2 d7))(e:cz P w K Y base dX 6 "Hand" "put_to_chord" ["self","key"] (dc K 2 dM))(i:cz P w K Y base dX 5 "Hand" "decide" ["self"] (dc K 1 cB))(a:cz P w K Y base dX 5 "Hand" "begin" ["self","key"] (dc K 2 gv)):FnOk P w K Y base dX 7 f X ["self","key"] (dc K 2 iM):=mj (N:=["self","key"]) (g:=kN) F (by ext:5) W W W (by delta kN;ext:11)
theorem sF(F:YZ K "settle" "Hand.settle" (bu (top 18) 8) f X)(j:gI K "Hand" ["bed","acts","waiting","once","sent"])(i:cz P w K Y base dX 5 "Hand" "decide" ["self"] (dc K 1 cB))(h:cz P w K Y base dX 4 "Hand" "come" ["self","key","act"] (dc K 3 bL)){a:I}(e:Y "CHORD"=R (.ref a))(b:∀O H,L3.DV O K H (.ref a) (.tuple [(.str "chord")])):FnOk P w K Y base dX 6 f X ["self","key"] (dc K 2 gX):=mj (N:=["self","key","what"]) (g:=jR) F (by ext:5) W W W (by delta jR;ext:11)
theorem yf(F:YZ K "lift" "Hand.lift" (bu (top 18) 7) f X)(h:gI K "Hand" ["bed","acts","waiting","once","sent"])(e:cz P w K Y base dX 3 "Hand" "is_waiting" ["self","key"] (dc K 2 cH))(b:cz P w K Y base dX 6 "Hand" "settle" ["self","key"] (dc K 2 gX))(a:cz P w K Y base dX 4 "Hand" "go" ["self","key"] (dc K 2 jV)):FnOk P w K Y base dX 7 f X ["self","key"] (dc K 2 jD):=mj (N:=["self","key"]) (g:=lm) F (by ext:5) W W W (by delta lm;ext:11)
theorem rB(F:YZ K "wait_on" "Hand.wait_on" (bu (top 18) 9) f X)(b:gI K "Hand" ["bed","acts","waiting","once","sent"])(a:cz P w K Y base dX 5 "Hand" "decide" ["self"] (dc K 1 cB)):FnOk P w K Y base dX 6 f X ["self"] (dc K 1 gz):=mj (N:=["self","age"]) (g:=iY) F (by ext:5) W W W (by delta iY;ext:11)
theorem Mu(F:YZ K "step" "step" (top 17) f X)(j:gI K "Hand" ["bed","acts","waiting","once","sent"])(a:vH P w K Y base dX 3 "Hand" ["self","bed","standing"] (dc K 3 eC))(e:cz P w K Y base dX 6 "Hand" "wait_on" ["self"] (dc K 1 gz))(h:cz P w K Y base dX 7 "Hand" "press" ["self","key"] (dc K 2 iM))(b:cz P w K Y base dX 7 "Hand" "lift" ["self","key"] (dc K 2 jD))(i:cz P w K Y base dX 3 "Hand" "stands" ["self"] (dc K 1 bV)):FnOk P w K Y base dX 8 f X ["bed","standing","event"] (dc K 3 STP.io):=mj (N:=["bed","standing","event","hand"]) (g:=Bj) F (by ext:5) W W W (by delta Bj;ext:11)
theorem rM(F:YZ K "enter" "Places.enter" (bu (top 26) 1) f X)(b:gI K "Places" ["most","found","numbers"]){h l a:I}{e:WA}{u:Obj}(o:L9.XC K h l a)(q:K.lookup a=R u)(r:Yw K (.ref a)=Vi)(m:FnOk P w K Y base dX 1 a e ["self","most"] (L9.wW h "most"))(t:Binds K e ["self","most"] [])(n:VH K VD "TooMany"=R (R (.ref h)))(p:Y "TooMany"=R (.ref h))(v:Y "len"=M):FnOk P w K Y base (L4.gR P w) 3 f X ["self","place","back","event"] (dc K 4 bG):=Kd (N:=["self","place","back","event"]) (g:=dU) F (by ext:5) W W W λC A i s H E nd z j y B=>Ck (aZ (nM (Oa (JS (az ay) (cF b (.tail _ (.tail _ (.head _))) aY))) (aZ (nM (jf (ii JI (iq gb (aD (cF b (.tail _ (.head _)) aY) bw)) (cF b (.head _) aY))) (BV n (cF b (.head _) aY)) ja)
   (aZ (FX (cF b (.tail _ (.tail _ (.head _))) aY) (az ay) (iq gb (aD (cF b (.tail _ (.head _)) aY) bw)))
   (i4 (rY (cF b (.tail _ (.head _)) aY) (az (i9 (aA ay (aA ay (aA ay a9))))))))) ja)
   (fX (Gm (cF b (.tail _ (.tail _ (.head _))) aY) (az ay)))) (ar (jC (Kb (LD.pc_ddnin j (pv 1) (c8 (pv 0) W)) (by with_unfolding_all rfl)) (ar (jC (c9 N8 (bt c7 W v iX (aa (c8 (pv 0) W) aw)) (c8 (pv 0) W) (cO _)) (aL (L9.Fz o q r m t (z.mono ()) W p (aa (c8 (pv 0) W) aw))) eV)
   (ar (LD.ps_ddput j (c8 (pv 0) W) (pv 1) (bt c7 W v iX (aa (c8 (pv 0) W) aw)) W)
   (aL (eX (rp WZ X2 X3 iU (c8 (pv 0) W) (aa (d9 (aa (pv 1) (aa (pv 2) (aa (pv 3) aw)))) aw)))))) eV)
   (aL (cK (LD.pe_ddget j (c8 (pv 0) W) (pv 1) (λ_ _=>W)))))
theorem nJ(F:YZ K "__init__" "Places.__init__" (bu (top 26) 0) f X)(a:gI K "Places" ["most","found","numbers"])(i:cz P w K Y base (L4.gR P w) 3 "Places" "enter" ["self","place","back","event"] (dc K 4 bG)):FnOk P w K Y base (L4.gR P w) 4 f X ["self","first","most"] (dc K 3 b4):=Kd (N:=["self","first","most"]) (g:=dr) F (by ext:5) W W W λm A b s H E nd h l e j=>Ck (aZ (mL a (.head _) aY (az ay))
   (aZ (mL a (.tail _ (.head _)) aY (az (kK a9)))
   (aZ (mL a (.tail _ (.tail _ (.head _))) aY FQ)
   (i4 (A0 a aY (aD (az ay) (aD (az uB) (aD (az uB) bw)))))))) (ar (pP (pv 0) (pv 2) W)
   (ar (pP (pv 0) (ip aw) W)
   (ar (pP (pv 0) LD.pe_ddnew W)
   (aL (eX (Ay i L4.lX h (pv 0) (aa (pv 1) (aa eO (aa eO aw)))))))))
theorem qO(F:YZ K "way_to" "Places.way_to" (bu (top 26) 2) f X)(m:gI K "Places" ["most","found","numbers"])(h:Y "list"=M)(b:Y "reversed"=M):FnOk P w K Y base dX 3 f X ["self","number"] (dc K 2 dj):=mj (N:=["self","number","row","place"]) (g:=ir) F (by ext:5) W W W λn A a s H E nd l j e i=>Ck (aZ (by ext:1)
   (aZ (by ext:1)
   (aZ (by ext:1)
   (fX (JH aY))))) (ar (by ext:2)
   (ar (by ext:2)
   (ar (by ext:2)
   (aL (cK (B2 W W h W b (pv 2)))))))
theorem wF{I:Vm}{j:Array Vh}(F:ab0 K "same" "same" (top 28) f X I j)(b:gI K "Places" ["most","found","numbers"]){o:Vm}(n:X1 K o [.type "ValueError",.type "Exception",.type "BaseException",.type "object"] "ValueError.__new__"=Vi)(l:VH K VD "NoKeys"=R (R (.ref o)))(m:Y "NoKeys"=R (.ref o))(z:vH P w K Y base (L4.gR P w) 4 "Places" ["self","first","most"] (dc K 3 b4))(C:cz P w K Y base dX 3 "Places" "way_to" ["self","number"] (dc K 2 dj))(G:cz P w K Y base (L4.gR P w) 3 "Places" "enter" ["self","place","back","event"] (dc K 4 bG))(e:GX P w K Y base 8 "step" ["bed","standing","event"] 3 STP.io)(y:g7 P w K Y base 1 "events_of" ["bed"] 1 d5)(B:Y "len"=M){q:Vm}(t:Y "AT_REST"=R (.ref q))(r:∀O H,L3.DV O K H (.ref q) (.tuple [(.tuple []),.none,.none])):FnOk P w K Y base (L4.gR P w) 9 f X ["one","other","most"] (dc K 3 cC):=Ji (N:=["one","other","most","events","pairs","number","standings","event","first","second"]) (g:=sJ) F (by ext:5) W W W λL A h s H E nd a p u J=>Ck (aZ (nM (lC (fV (bA B3 (bA cb ay aU) (bA cb ay aU)))) (AF l (aD (az gF) bw)) ja)
   (aZ (ei (mP (az (gK (aA ay a9)))) bM)
   (aZ (ei (IT b (aD (az (i9 (aA (xL r) (aA (xL r) a9)))) (aD (az ay) bw))) bM)
   (aZ (ei (az aU) bM)
   (aZ (pZ (jf (ii B0 (az ay) (iq gb (aD (cF b (.tail _ (.head _)) aY) bw)))) (aZ (ei (lz (lz (cF b (.tail _ (.head _)) aY) (az ay)) (az aU)) bM)
   (aZ (Ef (oO (jg ay)) bM (aZ (ei (mP (mr (aD (az ay) (aD (az (bA cb ay aU)) (aD (az ay) bw))))) bM)
   (aZ (ei (mP (mr (aD (az ay) (aD (az (bA cb ay aU)) (aD (az ay) bw))))) bM)
   (aZ (nM (lC (fV (bA B3 (bA cb ay aU) (bA cb ay aU)))) (fX (mG (aD (az gF) (aD (ii iz (xX b aY (aD (az ay) bw)) (az (kK (aA ay a9)))) bw)))) ja)
   (i4 (A0 b aY (aD (az (i9 (aA (bA cb ay aU) (aA (bA cb ay aU) a9)))) (aD (az ay) (aD (az ay) bw)))))))))
   (Mf FU (az aU)))))
   (fX (mG (aD (az gF) (aD (lW W W (pi (cF b (.tail _ (.head _)) aY)) bM km (az (bA cb ay aU))) bw))))))))) (ar (jC (c9 (Bq p) (cI bK (pv 0) aN (λ_ _=>W)) (cI bK (pv 1) aN (λ_ _=>W)) (cO _)) (aL (L4.JD n Xj (by left) Xj W m (aa gO aw))) eV)
   (ar (bQ (i:=3) nd W (a7 W) (eA y a (aa (pv 0) aw)))
   (ar (bQ (i:=4) nd W (a7 W) (Kp z L4.lX a (aa (d9 (aa (eT (v:=.ref _) W t W) (aa (eT (v:=.ref _) W t W) aw))) (aa (pv 2) aw))))
   (ar (bQ (i:=5) nd W (a7 W) aN)
   (ar (oz aac.leaving (c9 G1 (pv 5) (bt c7 W B iX (aa (c8 (pv 4) W) aw)) (cO _)) (ar (bQ (i:=6) nd W (a7 W) (cI bK (cI bK (c8 (pv 4) W) (pv 5) (λ_ _=>W)) aN (λ_ _=>W)))
   (ar (wo aac.leaving W (gj (pv 3)) (bW (i:=7) nd W (a7 W)) (ar (bQ (i:=8) nd W (a7 W) (eA e a (aa (pv 0) (aa (cI bK (pv 6) aN (λ_ _=>W)) (aa (pv 7) aw)))))
   (ar (bQ (i:=9) nd W (a7 W) (eA e a (aa (pv 1) (aa (cI bK (pv 6) aN (λ_ _=>W)) (aa (pv 7) aw)))))
   (ar (jC (c9 (Bq p) (cI bK (pv 8) aN (λ_ _=>W)) (cI bK (pv 9) aN (λ_ _=>W)) (cO _)) (aL (cK (d9 (aa gO (aa (gD iK (Ay C CP a (pv 4) (aa (pv 5) aw)) (ip (aa (pv 7) aw))) aw))))) eV)
   (aL (eX (Ay G L4.lX a (pv 4) (aa (d9 (aa (cI bK (pv 8) aN (λ_ _=>W)) (aa (cI bK (pv 9) aN (λ_ _=>W)) aw))) (aa (pv 5) (aa (pv 7) aw))))))))))
   (aL (QH (i:=5) nd W (a7 W) aN MX)))))
   (aL (cK (d9 (aa gO (aa (fC ["pair"] [] W (gj (c8 (pv 4) W)) (λ_ _ _ _=>(bW (i:=0) (show WJ (["pair"]:bg Str) by left) W (a7 W))) (λ_ _ _ _=>cW) (λ_ _ _ _=>(cI bK (pv 0) aN (λ_ _=>W))) trivial W) aw))))))))))
theorem FZ(F:YZ K "walked" "walked" (top 25) f X)(a:gI K "Places" ["most","found","numbers"])(q:vH P w K Y base (L4.gR P w) 4 "Places" ["self","first","most"] (dc K 3 b4))(u:cz P w K Y base (L4.gR P w) 3 "Places" "enter" ["self","place","back","event"] (dc K 4 bG))(j:GX P w K Y base 8 "step" ["bed","standing","event"] 3 STP.io)(p:g7 P w K Y base 1 "events_of" ["bed"] 1 d5)(l:Y "len"=M)(m:Y "tuple"=M)(h:Y "zip"=M){n:I}(t:Y "AT_REST"=R (.ref n))(r:∀O H,L3.DV O K H (.ref n) (.tuple [(.tuple []),.none,.none])):FnOk P w K Y base (L4.gR P w) 9 f X ["bed","most"] (dc K 2 lU):=Kd (N:=["bed","most","events","places","steps","sends","room","standing","answers"]) (g:=uJ) F (by ext:5) W W W λB A e s H E nd b z o y=>Ck (aZ (ei (mP (az (gK (aA ay a9)))) bM)
   (aZ (ei (IT a (aD (az (xL r)) (aD (az ay) bw))) bM)
   (aZ (ei (az (kK a9)) bM)
   (aZ (ei (az (kK a9)) bM)
   (aZ (pZ (jf (ii B0 (iq gb (aD aY bw)) (iq gb (aD (cF a (.tail _ (.head _)) aY) bw)))) (aZ (ei (iq gb (aD aY bw)) bM)
   (aZ (ei (lz (lz (cF a (.tail _ (.head _)) aY) (az ay)) (az aU)) bM)
   (aZ (ei (mP (lW W W (oO (jg ay)) bM km (mr (aD (az ay) (aD (az ay) (aD (az ay) bw)))))) bM)
   (aZ (i4 (rY aY (iq gw (aD (Fk W W (oO (Hv (aA ay (aA ay a9)))) (wz (lB bM (lB bM yg))) km (A0 a aY (aD (az (bA cb ay aU)) (aD (az ay) (aD (az ay) bw))))) bw))))
   (i4 (rY aY (az (gZ gw (aA (fE W W (jg ay) bS fy (gZ gw (aA (bA cb ay aU) a9))) a9))))))))))
   (fX (mG (aD (cF a (.tail _ (.head _)) aY) (aD aY (aD aY bw)))))))))) (ar (bQ (i:=2) nd W (a7 W) (eA p b (aa (pv 0) aw)))
   (ar (bQ (i:=3) nd W (bb W) (Kp q L4.lX b (aa (eT (v:=.ref _) W t W) (aa (pv 1) aw))))
   (ar (bQ (i:=4) nd W (a7 W) (ip aw))
   (ar (bQ (i:=5) nd W (a7 W) (ip aw))
   (ar (oz aac.leaving (c9 G1 (bt c7 W l iX (aa (pv 4) aw)) (bt c7 W l iX (aa (c8 (pv 3) W) aw)) (cO _)) (ar (bQ (i:=6) nd W (bb W) (bt c7 W l iX (aa (pv 4) aw)))
   (ar (bQ (i:=7) nd W (bb W) (cI bK (cI bK (c8 (pv 3) W) (pv 6) (λ_ _=>W)) aN (λ_ _=>W)))
   (ar (pA (i:=8) ["event"] [("bed",0),("standing",7)] nd W W W (gj (pv 2)) (λ_ _ _ _=>(bW (i:=0) (show WJ (["event","bed","standing"]:G Str) by left) W (a7 W))) (λ_ _ _ _=>cW) (λ_ _ _ _=>(eA j b (aa (pv 1) (aa (pv 2) (aa (pv 0) aw))))) ⟨⟨W,W,a7 W⟩,⟨⟨W,W,a7 W⟩,trivial⟩⟩ W)
   (ar (eX (rp WZ X2 X3 iU (pv 4) (aa (di cL W m iA (aa (J8 ["event","answer"] [("places",3),("room",6)] ⟨W,W⟩ W W L4.Me W (Ii W h (aa (pv 2) (aa (pv 8) aw))) (λ_ _ _ _=>(yi W (jb (bW (i:=0) (show WJ (["event","answer","places","room"]:G Str) by left) W (a7 W)) (jb (bW (i:=1) (show WJ (["event","answer","places","room"]:G Str) by left) W (a7 W)) sA)))) (λ_ _ _ _=>cW) (λ_ _ _ _=>(Ay u L4.KA b (pv 2) (aa (cI bK (pv 1) aN (λ_ _=>W)) (aa (pv 3) (aa (pv 0) aw))))) ⟨⟨W,W,a7 W⟩,⟨⟨W,W,a7 W⟩,trivial⟩⟩ W) aw)) aw)))
   (aL (eX (rp WZ X2 X3 iU (pv 5) (aa (di cL W m iA (aa (fC ["answer"] [] W (gj (pv 8)) (λ_ _ _ _=>(bW (i:=0) (show WJ (["answer"]:G Str) by left) W (a7 W))) (λ_ _ _ _=>cW) (λ_ _ _ _=>(di cL W m iA (aa (cI bK (pv 0) aN (λ_ _=>W)) aw))) trivial W) aw)) aw)))))))))
   (aL (cK (d9 (aa (c8 (pv 3) W) (aa (pv 4) (aa (pv 5) aw)))))))))))
theorem IU{j:I}{b:Array B}(F:ab0 K "rooms" "rooms" (top 24) f X j b)(e:qC P w K Y base (L4.gR P w) 9 "walked" ["bed","most"] [] (dc K 2 lU)):FnOk P w K Y base (L4.gR P w) 10 f X ["bed","most"] (dc K 2 eU):=Ji (N:=["bed","most"]) (g:=wY) F (by ext:5) W W W λn A a s H E nd i m h l=>Ck (fX (lz (vN (λ_ _=>.nil) (aD (az ay) (aD (az ay) bw))) (az aU))) (aL (cK (cI bK (kH e i L4.lX (aa (pv 0) (aa (pv 1) aw))) aN (λ_ _=>W))))
theorem Q6(F:YZ K "law" "law" (top 42) f X)(b:qC P w K Y base (L4.gR P w) 9 "same" ["one","other","most"] [.int 400] (dc K 3 cC))(l:GX P w K Y base 11 "_law_great" ["_law_bed_here","_law_cell_here"] 2 dA)(m:GX P w K Y base 11 "_law_class" ["_law_one","_law_other","_law_limit"] 3 bF)(o:GX P w K Y base 12 "_law_many" ["_law_bed_here"] 1 dw)(r:g7 P w K Y base 1 "_law_cell" ["_law_script","_law_k"] 2 bz)(t:g7 P w K Y base 1 "_law_take" ["_law_cell_here","_law_salt","_law_many_here"] 3 aF)(q:g7 P w K Y base 2 "_law_great_bed" ["_law_cell_here"] 1 fD)(n:g7 P w K Y base 2 "_law_keys" ["_law_script"] 1 jz)(j:g7 P w K Y base 4 "_law_bed" ["_law_script","_law_at","_law_keys_here"] 3 gL):FnOk P w K Y base dX 13 f X ["_law_script"] (dc K 1 F_law):=mj (N:=["_law_script","_law_one","_law_other","_law_limit","_law_many_here"]) (g:=Ow) F (by ext:5) W W W λu A a s H E nd i h e p=>Ck (aZ (by ext:1)
   (aZ (by ext:1)
   (aZ (by ext:1)
   (aZ (by ext:1)
   (aZ (by ext:1)
   (aZ (by ext:1)
   (aZ (by ext:1)
   (fX (ii jM (lz (Bv (λ_ _=>(.cons (.int _) .nil)) (aD (az ay) (aD (az ay) bw))) (az aU)) (az gF)))))))))) (ar (by ext:2)
   (ar (by ext:2)
   (ar (by ext:2)
   (ar (by ext:2)
   (ar (by ext:2)
   (ar (by ext:2)
   (ar (by ext:2)
   (aL (cK (fF (jG h) (cI bK (kH b i JK (aa (pv 1) (aa (pv 1) aw))) aN (λ_ _=>W)) gO (cO _)))))))))))
end
end K54
namespace L2
open PySem PySem.Spec PyProof.Rows
section
variable{Z:St}{H:Hp}{Q:VK}{D:Ends}
theorem MG{K:Ld}{e b:TE}{f:Str}(h:b Z H λy H1=>e Z H1 λx d=>∃a C c fs,x=.ref a/\d a=R (.ins C c fs)/\Cls K C/\ZV K C f/\fs.length<1000/\D.nx Z (bE d a (.ins C c (jP f y fs)))):Pm K e b f D Z H:=h
theorem Qx{c:TT}{t u:TE}(h:c Z H λb H1=>if b=P then t Z H1 Q else u Z H1 Q):Uj c t u Z H Q:=h
theorem Pi{K:Ld}{b:TE}{f:Str}(h:b Z H λx H1=>∃a C c fs v,x=.ref a/\H1 a=R (.ins C c fs)/\Cls K C/\ZV K C f/\fs.lookup f=R v/\Q v H1):QG K b f Z H Q:=h
theorem M9{C:I}{m:Str}{sp:Sp}{E:XK}{b:TE}{t:TA}(h:b Z H λx H1=>∃a d fs,x=.ref a/\H1 a=R (.ins C d fs)/\fs.lookup m=M/\t Z H1 λc e=>sp (x::(c++[])) e Q E):vK C m sp [] E b t Z H Q:=h
theorem NA{C:I}{sp:Sp}{E:XK}{t:TA}(h:t Z H λb H1=>∀x a,H1 x=M->H1 a=M->a≠x->sp (.ref x::(b++[])) (bE (bE H1 a (.own x)) x (.ins C a [])) (λv c=>v=.Xo/\Q (.ref x) c) E):zj C sp [] E t Z H Q:=h
end
end L2
local macro_rules| `(tactic|ext:3)=> `(tactic|repeat (first
 |specialize L2.P0 ?_
 |specialize L2.Rc ?_
 |specialize L2.MG ?_
 |specialize L2.Qx ?_
 |specialize L2.Pi ?_
 |specialize L2.M9 ?_
 |specialize L2.NA ?_
 |specialize L2.MD ?_
 |((with_reducible show L2.qG _ _ _ _);refine⟨_,rfl,?_⟩)
 |specialize L2.Uc ?_
 |specialize L2.SG ?_
 |specialize L2.an8 ?_
 |specialize L2.aog ?_
 |specialize L2.asB ?_
 |((specialize L2.apE ?_ ?_);first|exact⟨by decide,by decide⟩|exact⟨by decide,by decide,by decide⟩|exact(show(0:Int)<_ by decide)|exact⟨by decide,by left⟩)
 |((specialize L2.Tj ?_ ?_);exact rfl)
 |((specialize L2.SS ?_ ?_);exact rfl)
 |specialize L2.RD ?_
 |specialize L2.LN ?_
 |specialize L2.Po ?_
 |specialize L2.MY ?_
 |specialize L2.akb ?_
 |specialize L2.akK ?_
 |specialize L2.Md ?_
 |specialize L2.Ua ?_
 |specialize L2.S7 ?_
 |specialize L2.ana ?_
 |specialize L2.RZ ?_
 |specialize L2.PH ?_
 |specialize L2.LV ?_
 |specialize L2.anc ?_
 |specialize L2.alu ?_
 |specialize L2.Rt ?_
 |specialize L2.NK ?_
 |specialize L2.Se ?_
 |specialize L2.Np ?_
 |specialize L2.QT ?_
 |specialize L2.Ph ?_
 |specialize L2.S1 ?_
 |specialize L2.aoa ?_
 |specialize L2.ai0 ?_
 |specialize L2.ak7 ?_
 |specialize L2.amz ?_
 |specialize L2.aj7 ?_
 |specialize L2.ako ?_
 |specialize L2.alm ?_
 |specialize L2.ak3 ?_
 |specialize L2.anI ?_
 |specialize L2.ak1 ?_
 |specialize L2.aln ?_
 |specialize L2.aj1 ?_
 |specialize L2.akR ?_
 |specialize L2.ajP ?_
 |specialize L2.alj ?_
 |specialize L2.akS ?_))
namespace K54
open PySem L2
section
open L3 L4
variable{P:VV}{w:Wh}{K:Ld}{mg:Str->br Vh}{base:Heap}{f:Vm}{Y:WA}
theorem mZ:XX ["self","most"] ["self","most"] (aH (bu (top 7) 0)):=⟨W,W,W,by left,W,by left,by left⟩
def Ft{C B fI:I}(F:YZ K "__init__" "TooMany.__init__" (bu (top 7) 0) f Y)(o:L9.XC K C B fI)(l:mg "BedError"=R (.ref B))(g:acd K B (.type "type")=Vi)(m:ace K (.ref B) (.type "type") "__init__"=R (.val (.builtin "ValueError.__init__")))
  (b:Y0 K (.ref B) "__getattribute__"=R (R (.builtin "type.__getattribute__"))) (j:V3 K (.ref C) "most"=R M):FnOk P w K mg base dX 1 f Y ["self","most"] (L9.wW C "most"):=by
 show F.ok mZ (λJ H Q E h=>?_) (λu A a s H J Q E t h=>?_)
 .let(_,_,rfl,_):=h;rfl
 let(e,v,rfl,r,n,q):=h;show⟨_,(ar (eX (L9.Ju W l g m b o (aa (pv 0) (aa (L9.Lb (L9.Q1 () (L9.Pv (pv 1) L9.QX)) ()) aw)))) (aL (L9.LG o j (pv 0) (pv 1) W))),?_⟩;ext:3;show⟨V.ref e,W,v,W,r,λy=>⟨e,y,W,n,?_⟩⟩;show⟨v,W,V.ref e,W,e,W,n,λp j i=>q p j i⟩
end
end K54
namespace K54
open PySem L2
theorem Sh{n:Nat}(h:n<=10000):n<VF:=abT h (by left)
theorem lQ{n:Nat}(h:n<=10000):n<=VF:=Zg (Sh h)
section
variable{P:VV}{w:Wh}{K:Ld}{mg:Str->br Vh}{base:Heap}{f:Vm}{fd:WA}
def Cgt(CR:I)(H:Hp)(e:I):Prop:=∃a,H e=R (.frz a (.own e))/\a.cls=.ref CR/\(∀p,a.dict=R p->∃fs,H p=R (.xd fs))/\acw a=Vi
def Cgt.same{CR:I}{H H':Hp}{e:I}(h:Cgt CR H e)(s:Xl H H'):Cgt CR H' e:=by let(a,l,j,i,g):=h;show⟨a,s _ _ l,j,λp b=>let⟨fs,z⟩:=i p b;⟨fs,s _ _ z⟩,g⟩
def eK{K:Ld}{CR C:I}{m:G B}{H:Hp}{e:I}{b:Bool}{Q:VK}(h:Cgt CR H e)(L:L4.ZT K CR m)(k:Ws K (.ref CR) (.ref C)=R b)(q:Q (.bl b) H):L4.JA K [.ref e,.ref C] H Q:=by let(a,l,j,i,g):=h;show⟨_,.inl ⟨C,W,e,a,CR,m,b,W,l,j,i,g,L,k,q⟩⟩
def JN{K:Ld}{CR:I}{n:String}{m:G B}{H:Hp}{e:I}{b:Bool}{Q:VK}(h:Cgt CR H e)(L:L4.ZT K CR m)(k:Ws K (.ref CR) (.type n)=R b)(q:Q (.bl b) H):L4.JA K [.ref e,.ty n] H Q:=by let(a,l,j,i,g):=h;show⟨_,.inr ⟨n,W,e,a,CR,m,b,W,l,j,i,g,L,k,q⟩⟩
def zV{K:Ld}(C:I):Ws K (.ref C) (.ref C)=R Vi:=by ext Ws;rw[ag (beq_iff_eq.mpr W)]
def eP{K:Ld}{CR C:I}(b:V9 K (.ref CR) (.ref CR)=R Vi)(h:W8 K C=Vi)(g:WO K (.ref C)=R (.type "type"))(a:V9 K (.ref CR) (.ref C)=R Vq):Ws K (.ref CR) (.ref C)=R Vq:=by
 let ne:(Vh.ref CR==Vh.ref C)=Vq:=by
  cases e:(Vh.ref CR==Vh.ref C)with
  |false=>rfl
  |true=>obtain rfl:=Vh.ref.inj (beq_iff_eq.mp e);rw[b]at a;ext a
 ext Ws;rw[ne,av Vu];show(if((aaX K C).isSome&&WO K (.ref C)==R (.type "type"))=Vi then V9 K (.ref CR) (.ref C)else M)=_;rw[show(aaX K C).isSome=Vi from h,g,ag (by rw[aag];show beq_iff_eq.mpr W)];show a
def BE{K:Ld}{CR:I}(h:V9 K (.ref CR) (.type "ValueError")=R Vi):Ws K (.ref CR) (.type "ValueError")=R Vi:=by ext Ws;rw[av (by intro z;cases beq_iff_eq.mp z)];show(if PySem.W.kitMeta "ValueError"=Vi then V9 K (.ref CR) (.type "ValueError")else M)=_;rw[ag (by left)];show h
def pE(C:I)(j:Nat):Sp:=λa H Q _=>∃e,a=[.ref e]/\Cgt C H e/\∀H',Xl H H'->Q (.int (j:Int)) H'
theorem fY:XX ["_law_e","_law_found"] ["_law_e"] (aH (top 37)):=⟨W,W,W,by left,W,by left,by left⟩
def UC:∀j,j<10->([decide (j=0),decide (j=1),decide (j=2),decide (j=3),decide (j=4),decide (j=5),decide (j=6),decide (j=7),decide (j=8),decide (j=9)]:G Bool).count Vi=1:=by decide
def Uu:∀j,j<10->([decide (j=0),decide (j=1),decide (j=2),decide (j=3),decide (j=4),decide (j=5),decide (j=6),decide (j=7),decide (j=8),decide (j=9)]:G Bool)[j]?=R Vi:=by decide
def Up:∀j,j<10->∀m,m<j->([decide (j=0),decide (j=1),decide (j=2),decide (j=3),decide (j=4),decide (j=5),decide (j=6),decide (j=7),decide (j=8),decide (j=9)]:G Bool)[m]?≠R Vi:=by decide
def DR{C YD XW ZA Yz Y7 Wd Wv Y6 Y3 ZD:Vm}{mR:bg Vh}{j:Nat}(N:j<10)(F:YZ K "_law_classes" "_law_classes" (top 37) f fd)(L:L4.ZT K C mR)(aaP:mg "NoFrame"=lD (.ref YD))(ZR:mg "NoReading"=lD (.ref XW))(V:mg "NoBed"=lD (.ref ZA))(aaQ:mg "NoChord"=lD (.ref Yz))(abx:mg "NoText"=lD (.ref Y7))(X9:mg "TooMany"=lD (.ref Wd))(ZJ:mg "NoKeys"=lD (.ref Wv))(abG:mg "NoBook"=lD (.ref Y6))(abN:mg "NoWord"=lD (.ref Y3))(D:mg "NoRow"=lD (.ref ZD))(k:Ws K (.ref C) (.ref YD)=lD (decide (j=0)))(x:Ws K (.ref C) (.ref XW)=lD (decide (j=1)))(Z:Ws K (.ref C) (.ref ZA)=lD (decide (j=2)))(d:Ws K (.ref C) (.ref Yz)=lD (decide (j=3)))(X:Ws K (.ref C) (.ref Y7)=lD (decide (j=4)))(c:Ws K (.ref C) (.ref Wd)=lD (decide (j=5)))(Y:Ws K (.ref C) (.ref Wv)=lD (decide (j=6)))(T:Ws K (.ref C) (.ref Y6)=lD (decide (j=7)))(U:Ws K (.ref C) (.ref Y3)=lD (decide (j=8)))(S:Ws K (.ref C) (.ref ZD)=lD (decide (j=9)))(kV:Ws K (.ref C) (.type "ValueError")=lD Vi)(a:mg "isinstance"=Vg)(Yh:mg "ValueError"=Vg):
  FnOk P w K mg base dX 1 f fd ["_law_e"] (pE C j):=by
 show F.ok fY (λvs H Q E h=>?_) (λW6 A I s H vs Q E hr h=>?_)
 .let(_,rfl,_):=h;rfl
 let(e,rfl,n,q):=h;show⟨_,(ar (bQ (i:=1) fY.nd W (a7 W) (ip (aa (bt L4.eF W a bX (aa (pv 0) (aa (eT (v:=.ref YD) W aaP W) aw))) (aa (bt L4.eF W a bX (aa (pv 0) (aa (eT (v:=.ref XW) W ZR W) aw))) (aa (bt L4.eF W a bX (aa (pv 0) (aa (eT (v:=.ref ZA) W V W) aw))) (aa (bt L4.eF W a bX (aa (pv 0) (aa (eT (v:=.ref Yz) W aaQ W) aw))) aw))))))
   (ar (bQ (i:=1) fY.nd W (a7 W) (gD L3.yl (pv 1) (ip (aa (bt L4.eF W a bX (aa (pv 0) (aa (eT (v:=.ref Y7) W abx W) aw))) (aa (bt L4.eF W a bX (aa (pv 0) (aa (eT (v:=.ref Wd) W X9 W) aw))) (aa (bt L4.eF W a bX (aa (pv 0) (aa (eT (v:=.ref Wv) W ZJ W) aw))) (aa (bt L4.eF W a bX (aa (pv 0) (aa (eT (v:=.ref Y6) W abG W) aw))) aw)))))))
   (ar (bQ (i:=1) fY.nd W (a7 W) (gD L3.yl (pv 1) (ip (aa (bt L4.eF W a bX (aa (pv 0) (aa (eT (v:=.ref Y3) W abN W) aw))) (aa (bt L4.eF W a bX (aa (pv 0) (aa (eT (v:=.ref ZD) W D W) aw))) aw)))))
   (ar (jC (PW.pt (OM (JQ (Cn (bt L4.eF W a bX (aa (pv 0) (aa (yk (v:=.ty "ValueError") W Yh (show WC "ValueError"=lD (.type "ValueError")from rfl) W) aw))))) (JE (c9 Sq (rp WZ ac1 PySem.F.type_list_count L4.E3 (pv 1) (aa Hu aw)) aN (cO _))))) (aL (cK (Oo Gs aN))) eV)
   (aL (cK (rp WZ ac2 PySem.F.type_list_index L4.EI (pv 1) (aa Hu aw)))))))),?_⟩
 ext:3;show eK n L k ?_;ext:3;show eK n L x ?_;ext:3;show eK n L Z ?_;ext:3;show eK n L d ?_;ext:3;show⟨lQ (Vl W),λp hp=>?_⟩;let s1:Xl H (bE H p (.lst [.bl (decide (j=0)),.bl (decide (j=1)),.bl (decide (j=2)),.bl (decide (j=3))])):=bq hp _;let b:=n.same s1;ext:3;show eK b L X ?_;ext:3;show eK b L c ?_;ext:3;show eK b L Y ?_;ext:3;show eK b L T ?_;ext:3;show⟨lQ (Vl W),λy l=>?_⟩;let n2:p≠y:=λz=>by rw[<-z,aJ]at l;ext l
 show⟨p,y,[.bl (decide (j=0)),.bl (decide (j=1)),.bl (decide (j=2)),.bl (decide (j=3))],[.bl (decide (j=4)),.bl (decide (j=5)),.bl (decide (j=6)),.bl (decide (j=7))],W,W,.inl (Rd.of ((aG n2).trans aJ)),.inl (Rd.of aJ),lQ (Vl W),λr M=>?_⟩;let s2:=s1.trans (bq l (.lst [.bl (decide (j=4)),.bl (decide (j=5)),.bl (decide (j=6)),.bl (decide (j=7))]));let G:=s2.trans (bq M (.lst ([.bl (decide (j=0)),.bl (decide (j=1)),.bl (decide (j=2)),.bl (decide (j=3))]++[.bl (decide (j=4)),.bl (decide (j=5)),.bl (decide (j=6)),.bl (decide (j=7))])));let m:=n.same G;ext:3;let R:(bE (bE (bE H p (.lst [.bl (decide (j=0)),.bl (decide (j=1)),.bl (decide (j=2)),.bl (decide (j=3))])) y (.lst [.bl (decide (j=4)),.bl (decide (j=5)),.bl (decide (j=6)),.bl (decide (j=7))])) r (.lst ([.bl (decide (j=0)),.bl (decide (j=1)),.bl (decide (j=2)),.bl (decide (j=3))]++[.bl (decide (j=4)),.bl (decide (j=5)),.bl (decide (j=6)),.bl (decide (j=7))]))) r=lD (.lst ([.bl (decide (j=0)),.bl (decide (j=1)),.bl (decide (j=2)),.bl (decide (j=3))]++[.bl (decide (j=4)),.bl (decide (j=5)),.bl (decide (j=6)),.bl (decide (j=7))])):=aJ;generalize bE (bE (bE H p (.lst [.bl (decide (j=0)),.bl (decide (j=1)),.bl (decide (j=2)),.bl (decide (j=3))])) y (.lst [.bl (decide (j=4)),.bl (decide (j=5)),.bl (decide (j=6)),.bl (decide (j=7))])) r (.lst ([.bl (decide (j=0)),.bl (decide (j=1)),.bl (decide (j=2)),.bl (decide (j=3))]++[.bl (decide (j=4)),.bl (decide (j=5)),.bl (decide (j=6)),.bl (decide (j=7))]))=H3 at G m R;show eK m L U ?_;ext:3;show eK m L S ?_;ext:3;show⟨lQ (Vl W),λu g=>?_⟩;let n4:r≠u:=λz=>by rw[<-z,R]at g;ext g
 show⟨r,u,_,[.bl (decide (j=8)),.bl (decide (j=9))],W,W,.inl (Rd.of ((aG n4).trans R)),.inl (Rd.of aJ),lQ (show 10<=10000 by decide),λo J=>?_⟩;let B:=(G.trans (bq g (.lst [.bl (decide (j=8)),.bl (decide (j=9))]))).trans (bq J (.lst (([.bl (decide (j=0)),.bl (decide (j=1)),.bl (decide (j=2)),.bl (decide (j=3))]++[.bl (decide (j=4)),.bl (decide (j=5)),.bl (decide (j=6)),.bl (decide (j=7))])++[.bl (decide (j=8)),.bl (decide (j=9))])));let t:(bE (bE H3 u (.lst [.bl (decide (j=8)),.bl (decide (j=9))])) o (.lst (([.bl (decide (j=0)),.bl (decide (j=1)),.bl (decide (j=2)),.bl (decide (j=3))]++[.bl (decide (j=4)),.bl (decide (j=5)),.bl (decide (j=6)),.bl (decide (j=7))])++[.bl (decide (j=8)),.bl (decide (j=9))]))) o=lD (.lst (([.bl (decide (j=0)),.bl (decide (j=1)),.bl (decide (j=2)),.bl (decide (j=3))]++[.bl (decide (j=4)),.bl (decide (j=5)),.bl (decide (j=6)),.bl (decide (j=7))])++[.bl (decide (j=8)),.bl (decide (j=9))])):=aJ;generalize bE (bE H3 u (.lst [.bl (decide (j=8)),.bl (decide (j=9))])) o (.lst (([.bl (decide (j=0)),.bl (decide (j=1)),.bl (decide (j=2)),.bl (decide (j=3))]++[.bl (decide (j=4)),.bl (decide (j=5)),.bl (decide (j=6)),.bl (decide (j=7))])++[.bl (decide (j=8)),.bl (decide (j=9))]))=H5 at B t;let O:=n.same B;ext:3;show JN O L kV ?_;ext:3;rw[av ()];ext:3;show⟨.inl ⟨W,_,SqL.of t⟩,?_⟩;ext:3;show⟨o,[decide (j=0),decide (j=1),decide (j=2),decide (j=3),decide (j=4),decide (j=5),decide (j=6),decide (j=7),decide (j=8),decide (j=9)],Vi,W,t,W,?_⟩;rw[UC j N];ext:3;rw[av ()];ext:3;show⟨.inl ⟨W,_,SqL.of t⟩,?_⟩;ext:3;show⟨o,[decide (j=0),decide (j=1),decide (j=2),decide (j=3),decide (j=4),decide (j=5),decide (j=6),decide (j=7),decide (j=8),decide (j=9)],Vi,j,W,t,W,Uu j N,Up j N,by ext,q _ B⟩
end
section
variable{P:VV}{w:Wh}{K:Ld}{mg:Str->br Vh}{base:Heap}{f:Vm}{fd:WA}
def P3{B:L3.cJ}{H H':Hp}{α:G I}{Z:L10.bh}{t:I}{u v:V}{d e:L3.D}(s:L10.We B K H α Z)(a:H t=M)(h:H'=bE H t (.tup [u,v]))(g:L3.DV (L10.ow B α Z) K H' u d)(b:L3.DV (L10.ow B α Z) K H' v e):L3.DV (L10.ow B α Z) K H' (.ref t) (.tuple [d,e]):=by subst h;show .tup ⟨.inl (.inl aJ),λz=>a6 z (s.noO t a)⟩ (.cons g (.cons b .nil))
theorem bU:XX ["_law_one","_law_other","_law_limit","_law_caught","_law_e","_law_kind"] ["_law_one","_law_other","_law_limit"] (aH (top 38)):=⟨W,W,W,by left,W,by left,by left⟩
def u0{u D CB:Vm}{mT mN mB:bg Vh}(F:YZ K "_law_class" "_law_class" (top 38) f fd)(d:L3.qC P w K mg base (L4.gR P w) 9 "same" ["one","other","most"] [] (L10.dc K 3 cC))
  (ah4:oM P w K mg base 1 "_law_classes" ["_law_e"] (pE u 5)) (aiI:oM P w K mg base 1 "_law_classes" ["_law_e"] (pE D 6))
  (hB:mg "BedError"=lD (.ref CB)) (xB:L4.jW K CB mB) (bB:mB.contains (.type "BaseException")=Vi)
  (xT:L4.jW K u mT) (upT:(Vh.ref u::mT).contains (.ref CB)=Vi) (nT:VH K VD "TooMany"=lD (lD (.ref u))) (LT:L4.ZT K u mT) (hhT:XT K u=Vi) (hpT:V3 K (.ref u) "most"=lD Vg)
  (xN:L4.jW K D mN) (upN:(Vh.ref D::mN).contains (.ref CB)=Vi) (nN:VH K VD "NoKeys"=lD (lD (.ref D))):
  FnOk P w K mg base dX 11 f fd ["_law_one","_law_other","_law_limit"] (L10.dc K 3 bF):=by
 show F.ok bU (λvs H Q E h=>h.1) (λW6 A outer s H vs Q E hr h=>?_);let hu:=hr.units;let(hl,B,α,Z,xs,so,hv,j):=h;obtain⟨b,c,m,rfl⟩:∃b c m,xs=[.fz b,.fz c,.fz (.int m)]:=by
  unfold bF at j;split at j
  .show⟨_,_,_,W⟩
  .show j.elim
 obtain⟨v0,v1,v2,rfl,d0,d1,d2⟩:∃v0 v1 v2,vs=[v0,v1,v2]/\L3.DV (L10.ow B α Z) K H v0 b/\L3.DV (L10.ow B α Z) K H v1 c/\L3.DV (L10.ow B α Z) K H v2 (.int m):=by
  cases hv with
  |cons d0 r0=>cases r0 with
   |cons d1 r1=>cases r1 with
    |cons d2 r2=>ext r2;show⟨_,_,_,W,d0,d1,d2⟩
 let sl:L10.YE (L10.ow B α Z) K H α [lD v0,lD v1,lD v2,lD .Xo,Vg,Vg] [-(b),-(c),-(.int m),-(.none),Vg,Vg]:=⟨W,λi x h=>by
  match i,h with
  |0,h=>ext h;show⟨v0,W,d0⟩
  |1,h=>ext h;show⟨v1,W,d1⟩
  |2,h=>ext h;show⟨v2,W,d2⟩
  |3,h=>ext h;show⟨.Xo,W,.Xo⟩
  |4,h=>ext h
  |5,h=>ext h
  |i+6,h=>ext h⟩
 let ev:∀{E2:XK},L10.dg K E2 (jt (L10.dc K 3 cC) [] E2 (fU (qG 0) (fU (qG 1) (fU (qG 2) kQ)))) (L10.Gd cC 3 (L10.aq (L10.aC 0) (L10.aq (L10.aC 1) (L10.aq (L10.aC 2) L10.aV)))):=L10.zc (L10.aD L10.aY (L10.aD L10.aY (L10.aD L10.aY L10.bw)));let ce:L10.Gd cC 3 (L10.aq (L10.aC 0) (L10.aq (L10.aC 1) (L10.aq (L10.aC 2) L10.aV))) [-(b),-(c),-(.int m),-(.none),Vg,Vg] Z=cC [.fz b,.fz c,.fz (.int m)] Z:=W;unfold bF at j;dsimp only at j;cases h1:cC [.fz b,.fz c,.fz (.int m)] Z with
 |bad=>rw[h1]at j;show j.elim
 |ok x Z'=>
  rw[h1]at j;dsimp only at j;show⟨_,(ar (bQ (i:=3) bU.nd W (a7 W) eO)
   (ar (L4.xC (i:=4) (E2:=λ_ _ _=>False) W bU.nd W W W hB xB bB W W
    (λl=>aL (eX (L3.kH d hr (L4.iZ W) (aa (pv 0) (aa (pv 1) (aa (pv 2) aw))))))
    (λl e=>aL (bQ (i:=3) bU.nd W (a7 W) (pv 4)))
    (λc dx g h=>h.elim))
   (ar (jC (c9 v9 (pv 3) eO (cO _)) (aL (cK (d9 (aa eO (aa eO aw))))) eV)
   (ar dS (ar dS (aL dS)))))),?_⟩
  ext:3;ext L4.JG;show⟨?_,λc dx g h2=>h2.elim⟩;show ev B _ H α Z _ _ so sl ?_;rw[ce,h1];intro α1 g R s1 v hv1;ext:3;show⟨W,Vi,?_,?_⟩
  .show V.bl (decide (V.Xo=V.Xo))=V.bl Vi;rw[ax W]
  rw[ag W];ext:3;show⟨lQ (show 2<=10000 by decide),λt T=>?_⟩;let S:Xl g (bE g t (.tup [.Xo,.Xo])):=bq T _;show j α1 _ (R.trans (L10.Xt.same S)) (s1.grow S) _ (P3 s1 T W .Xo .Xo)
 |er x Z'=>
  rw[h1]at j;dsimp only at j;split at j
  .rename_i cl f k
   by_cases q:cl=("TooMany":Str)/\f=("most":Str)
   .rw[ag q]at j
    let(rfl,rfl):=q;show⟨_,(ar (bQ (i:=3) bU.nd W (a7 W) eO)
     (ar (L4.xC (i:=4) (E2:=λc dx g=>∃a,L10.Xt α Z H a Z' g/\L10.We B K g a Z'/\c=.ref u/\∃p fs,dx=lD p/\g p=lD (.xd fs)/\fs.lookup ("most":Str)=lD (.int k)) W bU.nd W W W hB xB bB W W
      (λl=>aL (eX (L3.kH d hr (L4.iZ W) (aa (pv 0) (aa (pv 1) (aa (pv 2) aw))))))
      (λl e=>aL (bQ (i:=3) bU.nd W (a7 W) (pv 4)))
      (λc dx g ⟨_,_,_,h,_⟩=>⟨u,mT,h,xT,upT⟩))
     (ar (jC (c9 v9 (pv 3) eO (cO _)) (aL dS) eV)
     (ar (bQ (i:=5) bU.nd W (a7 W) (eA ah4 hr (aa (pv 3) aw)))
     (ar (jC (c9 Ie (pv 5) aN (cO _)) (aL (cK (d9 (aa aN (aa (L9.DD (pv 3) W) aw))))) eV)
     (aL dS)))))),?_⟩
    ext:3;ext L4.JG;show⟨?_,λc dx g h2 r e o hs he q hd hn=>?_⟩
    .show ev B _ H α Z _ _ so sl ?_
     rw[ce,h1];rintro c dx a H' ev' U ⟨⟨a',R,O⟩,fs,g2,g3⟩;let(nn,v,k1,k2):=g3 "most" (.int k) W;let e3:=nT.symm.trans O;ext e3;ext k2;cases dx with
     |none=>show a6 W nn
     |some p=>show⟨a,ev',U,R,p,fs,W,g2 p W,k1⟩
    .obtain⟨L,J,I0,G,C,y,rfl⟩:∃L J I0 G C y,r=[L,J,I0,G,C,y]:=by
      match r,hs with
      |[L,J,I0,G,C,y],_=>show⟨L,J,I0,G,C,y,W⟩
     let(a,R,s1,rfl,p,fs,rfl,g1,g2):=h2;let n:Xl g (bE g e (.frz o (.own e))):=bq he _;let O:=R.trans (L10.Xt.same (α:=a) (Z:=Z') n);let X:=s1.grow n;let Y:=n _ _ g1;let eE:(bE g e (.frz o (.own e))) e=lD (.frz o (.own e)):=aJ;let cg:Cgt u (bE g e (.frz o (.own e))) e:=⟨o,aJ,q,λp' N=>by rw[hd]at N;ext N;show⟨fs,Y⟩,hn⟩;generalize bE g e (.frz o (.own e))=H2 at O X Y eE cg;ext:3;show⟨W,Vq,?_,?_⟩
     .show V.bl (decide (V.ref e=V.Xo))=V.bl Vq;rw[aP (λz=>nomatch z)]
     rw[av Vu];ext:3;show⟨e,W,cg,λH3 M=>?_⟩;ext:3;rw[ag ()];ext:3;show⟨V.ref e,W,e,o,u,mT,p,fs,.int k,W,M _ _ eE,q,hd,hn,LT,hhT,hpT,M _ _ Y,g2,?_⟩;ext:3;show⟨lQ (show 2<=10000 by decide),λt T=>?_⟩;let S:Xl H3 (bE H3 t (.tup [.int 5,.int k])):=bq T _;show j a _ ((O.trans (L10.Xt.same M)).trans (L10.Xt.same S)) ((X.grow M).grow S) _ (P3 (X.grow M) T W (.int _) (.int _))
   .rw[av q]at j;show j.elim
  .rename_i cl
   by_cases q:cl=("NoKeys":Str)
   .rw[ag q]at j
    subst q;show⟨_,(ar (bQ (i:=3) bU.nd W (a7 W) eO)
     (ar (L4.xC (i:=4) (E2:=λc dx g=>∃a,L10.Xt α Z H a Z' g/\L10.We B K g a Z'/\c=.ref D/\∀p,dx=lD p->∃fs,g p=lD (.xd fs)) W bU.nd W W W hB xB bB W W
      (λl=>aL (eX (L3.kH d hr (L4.iZ W) (aa (pv 0) (aa (pv 1) (aa (pv 2) aw))))))
      (λl e=>aL (bQ (i:=3) bU.nd W (a7 W) (pv 4)))
      (λc dx g ⟨_,_,_,h,_⟩=>⟨D,mN,h,xN,upN⟩))
     (ar (jC (c9 v9 (pv 3) eO (cO _)) (aL dS) eV)
     (ar (bQ (i:=5) bU.nd W (a7 W) (eA aiI hr (aa (pv 3) aw)))
     (ar (jC (c9 Ie (pv 5) aN (cO _)) (aL dS) eV)
     (aL (cK (d9 (aa (pv 5) (aa eO aw)))))))))),?_⟩
    ext:3;ext L4.JG;show⟨?_,λc dx g h2 r e o hs he q hd hn=>?_⟩
    .show ev B _ H α Z _ _ so sl ?_;rw[ce,h1];rintro c dx a H' ev' U ⟨⟨a',R,O⟩,fs,g2,g3⟩;let e3:=nN.symm.trans O;ext e3;show⟨a,ev',U,R,λp hp=>⟨fs,g2 p hp⟩⟩
    .obtain⟨L,J,I0,G,C,y,rfl⟩:∃L J I0 G C y,r=[L,J,I0,G,C,y]:=by
      match r,hs with
      |[L,J,I0,G,C,y],_=>show⟨L,J,I0,G,C,y,W⟩
     let(a,R,s1,rfl,g1):=h2;let n:Xl g (bE g e (.frz o (.own e))):=bq he _;let O:=R.trans (L10.Xt.same (α:=a) (Z:=Z') n);let X:=s1.grow n;let cg:Cgt D (bE g e (.frz o (.own e))) e:=⟨o,aJ,q,λp' N=>by let(fs,z):=g1 p' (hd.symm.trans N);show⟨fs,n _ _ z⟩,hn⟩;generalize bE g e (.frz o (.own e))=H2 at O X cg;ext:3;show⟨W,Vq,?_,?_⟩
     .show V.bl (decide (V.ref e=V.Xo))=V.bl Vq;rw[aP (λz=>nomatch z)]
     rw[av Vu];ext:3;show⟨e,W,cg,λH3 M=>?_⟩;ext:3;rw[av ()];ext:3;show⟨lQ (show 2<=10000 by decide),λt T=>?_⟩;let S:Xl H3 (bE H3 t (.tup [.int 6,.Xo])):=bq T _;show j a _ ((O.trans (L10.Xt.same M)).trans (L10.Xt.same S)) ((X.grow M).grow S) _ (P3 (X.grow M) T W (.int _) .Xo)
   .rw[av q]at j;show j.elim
  .show j.elim
end
section
variable{P:VV}{w:Wh}{K:Ld}{mg:Str->br Vh}{base:Heap}{f:Vm}{fd:WA}
theorem iC:XX ["_law_bed_here","_law_many_here"] ["_law_bed_here"] (aH (top 41)):=⟨W,W,W,by left,W,by left,by left⟩
def wM{C:Vm}{m:bg Vh}(F:YZ K "_law_many" "_law_many" (top 41) f fd)(O:L3.qC P w K mg base (L4.gR P w) 10 "rooms" ["bed","most"] [] (L10.dc K 2 eU))
  (X9:mg "TooMany"=lD (.ref C)) (R:L4.jW K C m) (D:m.contains (.type "BaseException")=Vi) (k:VH K VD "TooMany"=lD (lD (.ref C))) (V:mg "len"=Vg):
  FnOk P w K mg base dX 12 f fd ["_law_bed_here"] (L10.dc K 1 dw):=by
 show F.ok iC (λvs H Q E h=>h.1) (λW6 A I s H vs Q E T h=>?_);let hu:=T.units;let(hl,B,α,Z,xs,so,J,g):=h;let ev:∀{E2:XK},L10.dg K E2 (Gb (λxs H Q=>∃x n,xs=[x]/\MW K x H n/\Q (.int n) H) (fU (jt (L10.dc K 2 eU) [] E2 (fU (qG 0) (fU (tC (.int 90)) kQ))) kQ)) (L10.rR L3.cT (L10.aq (L10.Gd eU 2 (L10.aq (L10.aC 0) (L10.aq (L10.ah (L3.pC (.int 90))) L10.aV))) L10.aV)):=L10.iq L3.gb (L10.aD (L10.zc (L10.aD L10.aY (L10.aD (L10.az (L3.xL λ_ _=>.int _)) L10.bw))) L10.bw);obtain⟨b,rfl⟩:∃b,xs=[.fz b]:=by
  unfold dw at g;split at g
  .show⟨_,W⟩
  .show g.elim
 obtain⟨r,rfl,N⟩:∃r,vs=[r]/\L3.DV (L10.ow B α Z) K H r b:=by
  cases J with
  |cons N r0=>ext r0;show⟨_,W,N⟩
 let sl:L10.YE (L10.ow B α Z) K H α [lD r,lD .Xo] [-(b),-(.none)]:=⟨W,λi x h=>by
  match i,h with
  |0,h=>ext h;show⟨r,W,N⟩
  |1,h=>ext h;show⟨.Xo,W,.Xo⟩
  |i+2,h=>ext h⟩
 suffices key:∃E2:XK,(∀c dx j,E2 c dx j->c=Vh.ref C)/\L10.WS K E2 B H α Z (L10.PQ B K Q) (L10.rR L3.cT (L10.aq (L10.Gd eU 2 (L10.aq (L10.aC 0) (L10.aq (L10.ah (L3.pC (.int 90))) L10.aV))) L10.aV) [-(b),-(.none)] Z)/\∀c dx j,E2 c dx j->Q .Xo j by
  let(E2,k1,k2,k3):=key;show⟨_,(ar (bQ (i:=1) iC.nd W (a7 W) eO)
   (ar (L4.LY (E2:=E2) W W W W X9 R D
    (λl=>aL (bQ (i:=1) iC.nd W (a7 W) (bt (show YG _ (.builtin "len") (λxs H Q=>∃x n,xs=[x]/\MW K x H n/\Q (.int n) H)from c7) W V iX (aa (L3.kH O T (L4.iZ W) (aa (pv 0) (aa aN aw))) aw))))
    (λl e=>aL (bQ (i:=1) iC.nd W (a7 W) eO))
    (λc dx j h=>⟨C,m,k1 c dx j h,R,by rw[Xd,eW,XD]⟩))
   (aL (cK (pv 1))))),?_⟩
  ext:3;ext L4.Oh;show⟨?_,λc dx j u q hs=>?_⟩
  .show ev B _ H α Z _ _ so sl (k2.imp λx X Z1 j z t Y v J=>⟨v,W,Y v J⟩)
  .obtain⟨S,t,rfl⟩:∃S t,q=[S,t]:=by
    match q,hs with
    |[a,c],_=>show⟨a,c,W⟩
   show⟨.Xo,W,k3 c dx j u⟩
 unfold dw at g;dsimp only at g;let ce:L10.rR L3.cT (L10.aq (L10.Gd eU 2 (L10.aq (L10.aC 0) (L10.aq (L10.ah (L3.pC (.int 90))) L10.aV))) L10.aV) [-(b),-(.none)] Z=(eU [.fz b,.fz (.int 90)] Z).bind λx y=>L10.uT L3.cT [x] y:=by show(((eU [.fz b,.fz (.int 90)] Z).bind λx y=>(L10.RS.ok [] y).bind λxs Z3=>L10.RS.ok (x::xs) Z3).bind λxs y=>L10.uT L3.cT xs y)=_;cases eU [.fz b,.fz (.int 90)] Z<;>rfl
 rw[ce];cases h1:eU [.fz b,.fz (.int 90)] Z with
 |bad=>rw[h1]at g;show g.elim
 |er x p=>
  rw[h1]at g;dsimp only at g;by_cases L:x.cls=("TooMany":Str)
  .rw[ag L]at g;show⟨λc dx j=>∃o,L10.Xt α Z H o p j/\L10.We B K j o p/\c=.ref C,λc dx j ⟨_,_,_,h⟩=>h,?_,λc dx j ⟨o,z,t,_⟩=>g o j z t .Xo .Xo⟩;rintro c dx o H' M G ⟨⟨a',z,U⟩,_⟩;rw[L]at U;let e3:=k.symm.trans U;ext e3;show⟨o,M,G,z⟩
  .rw[av L]at g;show g.elim
 |ok x p=>
  rw[h1]at g;dsimp only at g;cases u:L10.sh p x with
  |none=>rw[u]at g;show g.elim
  |some d=>
   rw[u]at g;cases d with
   |list ds=>
    show⟨λ_ _ _=>False,λ_ _ _ h=>h.elim,?_,λ_ _ _ h=>h.elim⟩;let e4:L10.uT L3.cT [x] p=.ok (.fz (L3.nd ds.length)) p:=by unfold L10.uT L10.a8 L10.a8;rw[u];rfl
    show L10.WS K _ B H α Z _ (L10.uT L3.cT [x] p);rw[e4];show g
   |_=>show g.elim
end
section
variable{P:VV}{w:Wh}{K:Ld}{mg:Str->br Vh}{base:Heap}{f:Vm}{fd:WA}
theorem eN:XX ["_law_bed_here","_law_cell_here","_law_word","_law_pairs","_law_caught","_law_e"] ["_law_bed_here","_law_cell_here"] (aH (top 40)):=⟨W,W,W,by left,W,by left,by left⟩
open L3 L10 in
theorem vh{C:Vm}{m:bg Vh}(F:YZ K "_law_great" "_law_great" (top 40) f fd)(Wu:g7 P w K mg base 1 "_law_take" ["_law_cell_here","_law_salt","_law_many_here"] 3 aF)(aaa:qC P w K mg base (L4.gR P w) 9 "same" ["one","other","most"] [.int 400] (dc K 3 cC))(adA:Nr P w K mg base (L4.gR P w) 9 "same" ["one","other","most"] ["most"] 2 1 (dc K 3 cC))
  (X9:mg "TooMany"=lD (.ref C)) (xR:L4.jW K C m) (lR:L4.ZT K C m) (hdR:XT K C=Vi) (hpR:V3 K (.ref C) "most"=lD Vg) (bR:m.contains (.type "BaseException")=Vi) (nR:VH K VD "TooMany"=lD (lD (.ref C))) (kV:Ws K (.ref C) (.type "ValueError")=lD Vi)
  (Xp:mg "len"=Vg) (aby:mg "all"=Vg) (WG:mg "isinstance"=Vg) (Yh:mg "ValueError"=Vg):
  FnOk P w K mg base dX 11 f fd ["_law_bed_here","_law_cell_here"] (dc K 2 dA):=by
 refine F.ok eN (λvs H Q E h=>h.1) (λW6 A G s H vs Q E N h=>?_);have hu:=N.units;obtain⟨hl,B,α,Z,xs,so,hv,a⟩:=h;obtain⟨b,x,rfl⟩:∃b x,xs=[.fz b,.fz (.int x)]:=by
  unfold dA at a;split at a
  .exact⟨_,_,rfl⟩
  .exact a.elim
 obtain⟨t,et,a⟩:∃t:Int,aF [.int x,.int 88,.int 2]=.ok (.fz (.int t))/\WS K E B H α Z (PQ B K Q) (if t=0 then de 6 Ip [.fz b,.fz (.int x)] Z else(match cC [.fz b,.fz b,.fz (.int 400)] Z with
   |.er e R1=>(match e with
    |⟨cl,[(f,.int k)]⟩=>if cl=("TooMany":Str)/\f=("most":Str)then .ok (.fz (.bool (decide (k=400)))) R1 else .bad
    |_=>.bad)
   |_=>.bad)):=by
  unfold dA at a;dsimp only at a;split at a
  .exact⟨_,by assumption,a⟩
  .exact a.elim
 by_cases t0:t=0
 .rw[ag t0]at a
  obtain⟨tt,ht,hs⟩:∃t,PSs (eB dX P w K mg base ["_law_bed_here","_law_cell_here","_law_word","_law_pairs","_law_caught","_law_e"] "_law_great" (aH (top 40)) f W6 A G s H E).nox (cw (top 40)) t/\om K E t Ip:=Ck (g:=Ip) (aZ (nM (lC (fV (bA jM (gK (aA ay (aA aU (aA aU a9)))) aU))) (aZ (ei (E4 rfl (aD (az ay) (aD (az ay) bw)) (aD (az aU) bw)) (wz (lB bM (lB bM yg))))
   (fX (rQ (az (bA jM ay gF)) (rQ (ii w6 (iq gb (aD aY bw)) (az aU)) (iq xG (aD (lW rfl rfl (pi aY) bM km (az (bA jM (bA cb ay aU) (bA cb ay aU)))) bw)))))) ja) (λB σ H α Z ρ D s sl w=>w.elim)) (ar (jC (c9 (jG hu) (eA Wu N (aa (pv 1) (aa aN (aa aN aw)))) aN (cO _)) (ar (J5 (MO adA N JK (aa (pv 0) (aa (pv 0) aw)) (Mg aN Qg)) (yi rfl (jb (bW (i:=2) eN.nd rfl (a7 rfl)) (jb (bW (i:=3) eN.nd rfl (a7 rfl)) sA))))
   (aL (cK (nU (fF (jG hu) (pv 2) gO (cO _)) (nU (fF D6 (bt c7 rfl Xp iX (aa (pv 3) aw)) aN (cO _)) (tJ (bt (ou rfl) rfl aby Ex (aa (fC ["_law_pair"] [] rfl (gj (pv 3)) (λ_ _ _ _=>(bW (i:=0) (show WJ (["_law_pair"]:bg Str) by left) rfl (a7 rfl))) (λ_ _ _ _=>cW) (λ_ _ _ _=>(fF (jG hu) (cI bK (pv 0) aN (λ_ _=>rfl)) (cI bK (pv 0) aN (λ_ _=>rfl)) (cO _))) trivial rfl) aw)))))))) eV) (ar dS (ar dS (aL dS))))
  exact⟨tt,ht,wU (xs:=[]) hs ⟨hl,B,α,Z,_,so,hv,a⟩⟩
 rw[av t0]at a;obtain⟨r,q,rfl,d0,d1⟩:∃r q,vs=[r,q]/\L3.DV (ow B α Z) K H r b/\L3.DV (ow B α Z) K H q (.int x):=by
  cases hv with
  |cons d0 r0=>cases r0 with
   |cons d1 r1=>cases r1;exact⟨_,_,rfl,d0,d1⟩
 have sl:YE (ow B α Z) K H α [lD r,lD q,Vg,Vg,Vg,Vg] [-(b),-(.int x),Vg,Vg,Vg,Vg]:=⟨rfl,λi x h=>by
  match i,h with
  |0,h=>cases h;exact⟨r,rfl,d0⟩
  |1,h=>cases h;exact⟨q,rfl,d1⟩
  |2,h=>cases h
  |3,h=>cases h
  |4,h=>cases h
  |5,h=>cases h
  |i+6,h=>cases h⟩
 have tv:bN (aW (aO dJ (cZ aF 3 {af 1,~~~88,~~~2}) (~~~0))) [-(b),-(.int x),Vg,Vg,Vg,Vg] Z=.ok Vq Z:=bJ (bO (aK (rv:=.fz (.bool Vq)) (cA (rv:=.fz (.int t)) (ds:=[.int x,.int 88,.int 2]) (ao (aj rfl) (ao aI (ao aI aM))) rfl rfl et) aI rfl rfl ((gY _ _).trans (by rw[aP t0]))) rfl);have ev:∀{E2:XK},dg K E2 (jt (dc K 3 cC) [.int 400] E2 (fU (qG 0) (fU (qG 0) kQ))) (yM cC 3 [.int 400] (aq (aC 0) (aq (aC 0) aV))):=vN (λ_ _=>.cons (.int _) .nil) (aD aY (aD aY bw));cases h1:cC [.fz b,.fz b,.fz (.int 400)] Z with
 |bad=>rw[h1]at a;exact a.elim
 |ok _ _=>rw[h1]at a;exact a.elim
 |er y R1=>
  rw[h1]at a;dsimp only at a;split at a
  .rename_i cl fn k
   by_cases L:cl=("TooMany":Str)/\fn=("most":Str)
   .rw[ag L]at a
    obtain⟨rfl,rfl⟩:=L;refine⟨_,(ar (jC (c9 (jG hu) (eA Wu N (aa (pv 1) (aa aN (aa aN aw)))) aN (cO _)) (ar dS (aL dS)) eV)
     (ar (bQ (i:=4) eN.nd rfl (a7 rfl) eO)
     (ar (L4.xC (i:=5) (E2:=λc dx o=>∃j,Xt α Z H j R1 o/\We B K o j R1/\c=.ref C/\∃p fs,dx=lD p/\o p=lD (.xd fs)/\fs.lookup ("most":Str)=lD (.int k)) rfl eN.nd rfl rfl rfl X9 xR bR rfl rfl
      (λl=>aL (eX (kH aaa N (L4.iZ rfl) (aa (pv 0) (aa (pv 0) aw)))))
      (λl e=>aL (bQ (i:=4) eN.nd rfl (a7 rfl) (pv 5)))
      (λc dx o ⟨_,_,_,h,_⟩=>⟨C,m,h,xR,by rw[Xd,eW,XD]⟩))
     (aL (cK (nU (fF wX (pv 4) eO (cO _)) (nU (bt L4.eF rfl WG bX (aa (pv 4) (aa (yk (v:=.ty "ValueError") rfl Yh (show WC "ValueError"=lD (.type "ValueError")from rfl) rfl) aw))) (tJ (fF Ie (L9.DD (pv 4) rfl) aN (cO _)))))))))),?_⟩
    refine(lC (fV (bA jM (gK (aA ay (aA aU (aA aU a9)))) aU)):u6 K E _ _) B _ H α Z _ _ so sl ?_;rw[tv];intro n o e1 s1;dsimp only;rw[av Vu];ext:3;unfold L4.JG;refine⟨?_,λc dx S h2 M e I hs he L hd hn=>?_⟩
    .have sl1:YE (ow B n Z) K o n [lD r,lD q,Vg,Vg,lD .Xo,Vg] [-(b),-(.int x),Vg,Vg,-(.none),Vg]:=⟨rfl,λi x h=>by
      match i,h with
      |0,h=>cases h;exact⟨r,rfl,(Y5.Ym (x:=.fz b) e1 d0)⟩
      |1,h=>cases h;exact⟨q,rfl,(Y5.Ym (x:=.fz (.int _)) e1 d1)⟩
      |2,h=>cases h
      |3,h=>cases h
      |4,h=>cases h;exact⟨.Xo,rfl,.Xo⟩
      |5,h=>cases h
      |i+6,h=>cases h⟩
     refine ev B _ o n Z _ _ s1 sl1 ?_;show WS K _ B o n Z _ (cC [.fz b,.fz b,.fz (.int 400)] Z);rw[h1];rintro c dx j H' ev' so' ⟨⟨a',e1',e2⟩,fs,g2,g3⟩;obtain⟨nn,v,k1,k2⟩:=g3 "most" (.int k) rfl;have e3:=nR.symm.trans e2;cases e3;cases k2;cases dx with
     |none=>exact a6 rfl nn
     |some p=>exact⟨j,e1.trans ev',so',e1',p,fs,rfl,g2 p rfl,k1⟩
    .obtain⟨x0,x1,Y,X,U,T,rfl⟩:∃x0 x1 Y X U T,M=[x0,x1,Y,X,U,T]:=by
      match M,hs with
      |[x0,x1,Y,X,U,T],_=>exact⟨x0,x1,Y,X,U,T,rfl⟩
     obtain⟨j,e2,s2,rfl,p,fs,rfl,g1,g2⟩:=h2;have u:Xl S (bE S e (.frz I (.own e))):=bq he _;have e3:=e2.trans (Xt.same (α:=j) (Z:=R1) u);have s3:=s2.grow u;have J:=u _ _ g1;have eE:(bE S e (.frz I (.own e))) e=lD (.frz I (.own e)):=aJ;have cg:Cgt C (bE S e (.frz I (.own e))) e:=⟨I,aJ,L,λp' O=>by rw[hd]at O;cases O;exact⟨fs,J⟩,hn⟩;generalize bE S e (.frz I (.own e))=H3 at e3 s3 J eE cg;ext:3;refine⟨rfl,Vi,?_,?_⟩
     .show V.bl (!decide (V.ref e=V.Xo))=V.bl Vi;rw[aP (λz=>nomatch z)];rfl
     rw[ag rfl];ext:3;refine JN cg lR kV ?_;refine⟨Vi,rfl,?_⟩;rw[ag rfl];ext:3;refine⟨V.ref e,rfl,e,I,C,m,p,fs,.int k,rfl,eE,L,hd,hn,lR,hdR,hpR,J,g2,?_⟩;ext:3;rw[show decide (V.int k=V.int 400)=decide (k=400)from decide_eq_decide.mpr ⟨λz=>by cases z;rfl,λz=>eH V.int z⟩];exact a j _ e3 s3 _ (.bl _)
   .rw[av L]at a;exact a.elim
  .exact a.elim
end
end K54
theorem Ux{α:Type}:∀{l:G α},l.length=1->∃a,l=[a]
 |[a],_=>⟨a,W⟩
theorem UD{α:Type}:∀{l:G α},l.length=2->∃a b,l=[a,b]
 |[a,b],_=>⟨a,b,W⟩
theorem UL{α:Type}:∀{l:G α},l.length=3->∃a b c,l=[a,b,c]
 |[a,b,c],_=>⟨a,b,c,W⟩
theorem UX{α:Type}:∀{l:G α},l.length=4->∃a b c d,l=[a,b,c,d]
 |[a,b,c,d],_=>⟨a,b,c,d,W⟩
local macro_rules| `(tactic|ext:18)=> `(tactic|(intro _ _ _ _ _ _ us hl;first|(obtain⟨_,h⟩:=Ux hl;subst h;rfl)|(obtain⟨_,_,h⟩:=UD hl;subst h;rfl)|(obtain⟨_,_,_,h⟩:=UL hl;subst h;rfl)|(obtain⟨_,_,_,_,h⟩:=UX hl;subst h;rfl)|(match us,hl with|[_,_,_,_,_],_=>rfl)|(match us,hl with|[],_=>rfl)))| `(tactic|ext:33)=> `(tactic|(intro _ _ _ _ _ _ us ws h1 h2;obtain⟨_,_,h⟩:=UD h1;subst h;obtain⟨_,h⟩:=Ux h2;subst h;exact⟨_,rfl,rfl⟩))| `(tactic|ext:32)=> `(tactic|(intro _ _ _ _ _ _ us hl;first|((have h1:us.length=1:=by simpa using hl);obtain⟨_,h⟩:=Ux h1;subst h;exact⟨_,rfl,rfl⟩)|((have h1:us.length=2:=by simpa using hl);obtain⟨_,_,h⟩:=UD h1;subst h;exact⟨_,rfl,rfl⟩)|((have h1:us.length=3:=by simpa using hl);obtain⟨_,_,_,h⟩:=UL h1;subst h;exact⟨_,rfl,rfl⟩)|((have h1:us.length=4:=by simpa using hl);(match us,h1 with|[_,_,_,_],_=>exact⟨_,rfl,rfl⟩))))| `(tactic|ext:31)=> `(tactic|first|exact List.forall_mem_nil _|(refine List.forall_mem_cons.mpr ⟨?_,?_⟩;(·(show V3 _ _ _=_;k_is));ext:31))| `(tactic|ext:36)=> `(tactic|first|(refine' L3.NI.mk ?a' ⟨_,L2.Gy ?b' ?c' ?d'⟩;(case a'=>k_is);(case b'=>k_is);(case c'=>k_is);(case d'=>k_is))|(refine' L3.MI.mk ?a' ?e' ⟨_,L2.Gy ?b' ?c' ?d'⟩;(case a'=>k_is);(case e'=>k_is);(case b'=>k_is);(case c'=>k_is);(case d'=>k_is))|(refine' L3.CI.mk ?a' ?b' ?c' ?d' ?e' ?f' ?g' ?i';(case a'=>k_is);(case b'=>k_is);(case c'=>k_is);(case d'=>k_is);(case e'=>k_is);(case f'=>k_is);(case g'=>k_is);(case i'=>ext:31))|(refine' L3.DI.mk ?a' ⟨_,L3.Mc ?b' ?c' ?d' ?e'⟩;(case a'=>k_is);(case b'=>k_is);(case c'=>k_is);(case d'=>k_is);(case e'=>k_is))|k_is|k_exc|rfl|left|(rw[<-Array.all_toList];rfl))
namespace K54
open PySem L2 L3
def F_lawH:FN:=L10.SB F_law
def all_mk{l:afM}{w:Wh}{K:Ld}{h:Heap}{c:Str->br Vh}{fa:Vm}
  {ago:Tok}
  {aaH:Vm} {ag8:Nat} {ag9:Array (br Vh)}
  {afF:Tok}
  {XY:Vm} {agD:Nat} {agh:Array (br Vh)}
  {L:Vm} {adm:Nat} {ads:Array (br Vh)}
  {YW:Vm} {aez:Nat} {aeV:Array (br Vh)}
  {ait:Vm} {ac5:Tok}
  {ahj:Vm} {aeI:Tok}
  {f0 f1 f2 f3 f4 f5 f6 f7 f8 f9 f10 f11 f12 f13 f14 f15 f16 f17 f18 f19 f20 f21 b f23 f24 f25 f26 f27 f28 f29 f30 f31 f32 f33 f34 f35 f36 u f38 f39 f40 E:Vm}
  {YD XW ZA Yz Y7 f g Y6 Y3 ZD o:Vm} {mB:bg Vh}
  {nmR qR:Str} {NR:Vm} {bsR:bg Vh} {snR:bg Str} {al3:bg Vh} {abR:Bool} {anJ:br Bool} {ddR:br Vm} {k0R k1R k2R k3R k5R:br Vh}
  {nmB qB:Str} {NB:Vm} {bsB:bg Vh} {hdB:Bool} {snB:bg Str} {N:bg Vh} {abB:Bool} {anw:br Bool} {ddB:br Vm} {k0B k1B k2B k3B k5B:br Vh} {idB:String}
  {ocN:Vh} {odN:br Vm} {U:Array Zm} {nN:Nat} {slN:Array (br Vh)}
  {nmS qS:Str} {NS:Vm} {bsS:bg Vh} {hdS:Bool} {snS:bg Str} {anA:bg Vh} {abS:Bool} {amX:br Bool} {ddS:br Vm} {k0S k1S k2S k3S k5S:br Vh} (X:K.In h) (G:h.Ns VD c) (hfa:c "law"=lD (.ref fa))
  (h0:NI K f0 "layer_of" (top 16))
  (h1:NI K f1 "looked_up" (top 19))
  (h2:NI K f2 "chords_over" (top 20))
  (h3:NI K f3 "chord_acts" (top 21))
  (h4:NI K f4 "_law_cell" (top 30))
  (h5:NI K f5 "_law_take" (top 31))
  (h6:NI K f6 "_law_letter" (top 32))
  (h7:NI K f7 "_law_meaning" (top 33))
  (h8:NI K f8 "_law_chords" (top 34))
  (h9:NI K f9 "_law_bed" (top 35))
  (h10:NI K f10 "_law_keys" (top 36))
  (h11:NI K f11 "_law_great_bed" (top 39))
  (h12:NI K f12 "events_of" (top 23))
  (h13:NI K f13 "step" (top 17))
  (C:DI K f14 ait "same" (top 28) #v[.int 400 ac5])
  (h15:NI K f15 "walked" (top 25))
  (h16:DI K f16 ahj "rooms" (top 24) #v[.int 400 aeI])
  (h17:NI K f17 "_law_class" (top 38))
  (h18:NI K f18 "_law_great" (top 40))
  (h19:NI K f19 "_law_many" (top 41))
  (T:NI K f20 "_law_classes" (top 37))
  (h21:NI K f21 "law" (top 42))
  (a:CI K b "Hand" ["bed","acts","waiting","once","sent"])
  (h23:MI K b f23 "__init__" "Hand.__init__" (bu (top 18) 0))
  (h24:MI K b f24 "stands" "Hand.stands" (bu (top 18) 1))
  (h25:MI K b f25 "is_waiting" "Hand.is_waiting" (bu (top 18) 2))
  (h26:MI K b f26 "has_act" "Hand.has_act" (bu (top 18) 13))
  (h27:MI K b f27 "come" "Hand.come" (bu (top 18) 11))
  (h28:MI K b f28 "go" "Hand.go" (bu (top 18) 12))
  (h29:MI K b f29 "decide" "Hand.decide" (bu (top 18) 10))
  (h30:MI K b f30 "makes_chord" "Hand.makes_chord" (bu (top 18) 4))
  (h31:MI K b f31 "put_to_chord" "Hand.put_to_chord" (bu (top 18) 5))
  (h32:MI K b f32 "begin" "Hand.begin" (bu (top 18) 6))
  (h33:MI K b f33 "press" "Hand.press" (bu (top 18) 3))
  (h34:MI K b f34 "settle" "Hand.settle" (bu (top 18) 8))
  (h35:MI K b f35 "lift" "Hand.lift" (bu (top 18) 7))
  (h36:MI K b f36 "wait_on" "Hand.wait_on" (bu (top 18) 9))
  (t:CI K u "Places" ["most","found","numbers"])
  (h38:MI K u f38 "enter" "Places.enter" (bu (top 26) 1))
  (h39:MI K u f39 "__init__" "Places.__init__" (bu (top 26) 0))
  (h40:MI K u f40 "way_to" "Places.way_to" (bu (top 26) 2))
  (ae1:VH K VD "NoFrame"=lD (lD (.ref YD)))
  (adx:VH K VD "NoReading"=lD (lD (.ref XW)))
  (agx:VH K VD "NoBed"=lD (lD (.ref ZA)))
  (aeD:VH K VD "NoChord"=lD (lD (.ref Yz)))
  (afB:VH K VD "NoText"=lD (lD (.ref Y7)))
  (ZH:VH K VD "TooMany"=lD (lD (.ref f)))
  (r:VH K VD "NoKeys"=lD (lD (.ref g)))
  (afu:VH K VD "NoBook"=lD (lD (.ref Y6)))
  (afE:VH K VD "NoWord"=lD (lD (.ref Y3)))
  (agm:VH K VD "NoRow"=lD (lD (.ref ZD)))
  (ad4:VH K VD "BedError"=lD (lD (.ref o)))
  (xR:K.lookup f=lD (excClassObj nmR qR f NR bsR (.ref o::[.type "ValueError",.type "Exception",.type "BaseException",.type "object"]) Vi snR al3 abR anJ ddR k0R k1R k2R k3R k5R "ValueError.__new__"))
  (xB:K.lookup o=lD (excClassObj nmB qB o NB bsB mB hdB snB N abB anw ddB k0B k1B k2B k3B k5B idB))
  (eI:X1 K o [.type "ValueError",.type "Exception",.type "BaseException",.type "object"] "ValueError.__new__"=Vi)
  (beB:mB.contains (.type "BaseException")=Vi)
  (gaR:V3 K (.ref f) "__getattribute__"=lD (lD (.builtin "BaseException.__getattribute__")))
  (gtR:V3 K (.ref f) "__getattr__"=lD Vg)
  (csR:V3 K (.ref f) "__class__"=lD (lD (.builtin "object.__class__")))
  (obR:acM K f (.type "object")=lD Vi)
  (n:V9 K (.ref f) (.ref f)=lD Vi)
  (Q:V9 K (.ref f) (.type "ValueError")=lD Vi)
  (xS:K.lookup g=lD (excClassObj nmS qS g NS bsS (.ref o::[.type "ValueError",.type "Exception",.type "BaseException",.type "object"]) hdS snS anA abS amX ddS k0S k1S k2S k3S k5S "ValueError.__new__"))
  (J:X1 K g [.type "ValueError",.type "Exception",.type "BaseException",.type "object"] "ValueError.__new__"=Vi)
  (gaS:V3 K (.ref g) "__getattribute__"=lD (lD (.builtin "BaseException.__getattribute__")))
  (MH:V3 K (.ref g) "__getattr__"=lD Vg)
  (csS:V3 K (.ref g) "__class__"=lD (lD (.builtin "object.__class__")))
  (obS:acM K g (.type "object")=lD Vi)
  (m:V9 K (.ref g) (.ref g)=lD Vi)
  (am7:V9 K (.ref g) (.type "ValueError")=lD Vi)
  (F:W8 K YD=Vi)
  (acJ:WO K (.ref YD)=lD (.type "type"))
  (aei:V9 K (.ref f) (.ref YD)=lD Vq)
  (aee:V9 K (.ref g) (.ref YD)=lD Vq)
  (abz:W8 K XW=Vi)
  (abM:WO K (.ref XW)=lD (.type "type"))
  (acT:V9 K (.ref f) (.ref XW)=lD Vq)
  (acW:V9 K (.ref g) (.ref XW)=lD Vq)
  (Y:W8 K ZA=Vi)
  (Z:WO K (.ref ZA)=lD (.type "type"))
  (afI:V9 K (.ref f) (.ref ZA)=lD Vq)
  (afq:V9 K (.ref g) (.ref ZA)=lD Vq)
  (acI:W8 K Yz=Vi)
  (V:WO K (.ref Yz)=lD (.type "type"))
  (adY:V9 K (.ref f) (.ref Yz)=lD Vq)
  (ad6:V9 K (.ref g) (.ref Yz)=lD Vq)
  (ac6:W8 K Y7=Vi)
  (ac9:WO K (.ref Y7)=lD (.type "type"))
  (aeS:V9 K (.ref f) (.ref Y7)=lD Vq)
  (aeC:V9 K (.ref g) (.ref Y7)=lD Vq)
  (aeG:W8 K f=Vi)
  (aeF:WO K (.ref f)=lD (.type "type"))
  (ad5:V9 K (.ref g) (.ref f)=lD Vq)
  (afn:W8 K g=Vi)
  (afk:WO K (.ref g)=lD (.type "type"))
  (aeU:V9 K (.ref f) (.ref g)=lD Vq)
  (d:W8 K Y6=Vi)
  (ac7:WO K (.ref Y6)=lD (.type "type"))
  (aeE:V9 K (.ref f) (.ref Y6)=lD Vq)
  (aeJ:V9 K (.ref g) (.ref Y6)=lD Vq)
  (k:W8 K Y3=Vi)
  (ac8:WO K (.ref Y3)=lD (.type "type"))
  (aew:V9 K (.ref f) (.ref Y3)=lD Vq)
  (aeN:V9 K (.ref g) (.ref Y3)=lD Vq)
  (D:W8 K ZD=Vi)
  (x:WO K (.ref ZD)=lD (.type "type"))
  (afl:V9 K (.ref f) (.ref ZD)=lD Vq)
  (afG:V9 K (.ref g) (.ref ZD)=lD Vq)
  (lN:K.lookup NR=lD ⟨ocN,odN,.dict U nN,slN⟩)
  (B:(U.all λe=>match e.key with|.str _ _=>Vi|_=>Vq)=Vi)
  (inN:VH K NR "__init__"=lD (lD (.ref E)))
  (saR:V3 K (.ref f) "__setattr__"=lD (lD (.builtin "object.__setattr__")))
  (R:XT K f=Vi)
  (lH:V3 K (.ref f) "most"=lD Vg)
  (rdB:acd K o (.type "type")=Vi)
  (fcB:ace K (.ref o) (.type "type") "__init__"=lD (.val (.builtin "ValueError.__init__")))
  (spB:Y0 K (.ref o) "__getattribute__"=lD (lD (.builtin "type.__getattribute__")))
  (S:MI K f E "__init__" "TooMany.__init__" (bu (top 7) 0))
  (ahi:VH K VD "NONE"=lD (lD (.ref aaH)))
  (agF:VH K VD "CHORD"=lD (lD (.ref XY)))
  (aeZ:VH K VD "AT_REST"=lD (lD (.ref YW)))
  (aeO:K.lookup YW=lD ⟨.type "tuple",Vg,.seq #v[.ref L,.none,.none] aez,aeV⟩)
  (adu:K.lookup L=lD ⟨.type "tuple",Vg,.seq #v[] adm,ads⟩)
  (aga:K.lookup XY=lD ⟨.type "tuple",Vg,.seq #v[.str "chord" afF] agD,agh⟩)
  (ag4:K.lookup aaH=lD ⟨.type "tuple",Vg,.seq #v[.str "none" ago] ag8,ag9⟩)
  (y0:VH K VD "max"=lD Vg)
  (y1:VH K VD "all"=lD Vg)
  (y2:VH K VD "list"=lD Vg)
  (y3:VH K VD "sorted"=lD Vg)
  (y4:VH K VD "len"=lD Vg)
  (y5:VH K VD "range"=lD Vg)
  (y6:VH K VD "tuple"=lD Vg)
  (y7:VH K VD "dict"=lD Vg)
  (y8:VH K VD "zip"=lD Vg)
  (y9:VH K VD "reversed"=lD Vg)
  (y10:VH K VD "isinstance"=lD Vg)
  (y11:VH K VD "ValueError"=lD Vg):
  ∃fd:WA,(∀(s:Vp) (v:Vh),aat s fd ⟨[v],[]⟩ [("_law_script",v)])/\∀base:Heap,K.In base->base.Ns VD c->FnOk l.prog w K c base dX 13 fa fd ["_law_script"] (L3.rC K 1 F_lawH):=by
 let ad3:=WI X G y0;let I:=WI X G y1;let ZK:=WI X G y2;let aaF:=WI X G y3;let q:=WI X G y4;let XH:=WI X G y5;let XG:=WI X G y6;let af5:=WI X G y7;let i:=WI X G y8;let abk:=WI X G y9;let WG:=WI X G y10;let Yh:=WI X G y11;let adt:=MS (xs:=[.str "none"]) (ds:=[(.str "none")]) ag4 (by show 1<=VF;decide) (.cons ⟨_,rfl⟩ .nil) λO H=>(.cons (.str _) .nil);let Zo:=MS (xs:=[.str "chord"]) (ds:=[(.str "chord")]) aga (by show 1<=VF;decide) (.cons ⟨_,rfl⟩ .nil) λO H=>(.cons (.str _) .nil);let adZ:=MS (xs:=[]) (ds:=[]) adu (by show 0<=VF;decide) .nil λO H=>.nil;let YC:=MS (xs:=[.ref L,.Xo,.Xo]) (ds:=[(.tuple []),.none,.none]) aeO (by show 3<=VF;decide) (.cons rfl (.cons rfl (.cons rfl .nil))) λO H=>(.cons (adZ O H) (.cons .Xo (.cons .Xo .nil)));let adp:=Wx X G ahi;let Zn:=Wx X G agF;let YB:=Wx X G aeZ;show h21.law X G hfa (by ext:18) λbase fd aio=>?_;let W:Tp l.prog w K c base h:=⟨X,G⟩;let aam:=h0.c W λ_ z=>zu z ad3;let ab3:=h1.c W λ_ z=>yr z;let X4:=h2.c W λ_ z=>uM z I;let abI:=h3.c W λ_ z=>u9 z ZK aaF q adp adt;let Yf:=h4.c W λ_ z=>wA z q;let A:=h5.c W λ_ z=>xm z XH;let aaY:=h6.c W λ_ z=>ut z A;let ZI:=h7.c W λ_ z=>rO z A aaY ad3;let aa1:=h8.c W λ_ z=>t8 z A XH XG q I;let acH:=h9.c W λ_ z=>zP z Yf A ZI aa1 XH XG;let ab5:=h10.c W λ_ z=>xW z Yf A;let Z9:=h11.c W λ_ z=>pf z A XH ZK q XG;let Ye:=h12.c W λ_ z=>yq z XH;let p:=a.cf;let M:=t.cf;let B:acx K NR=Vi:=by ext acx;rw[lN];show B
 let XR:L4.jW K f (.ref o::[.type "ValueError",.type "Exception",.type "BaseException",.type "object"]):=⟨_,_,_,_,_,_,_,_,_,_,_,_,_,_,_,_,xR⟩;let XB:L4.jW K o mB:=⟨_,_,_,_,_,_,_,_,_,_,_,_,_,_,_,_,xB⟩;let LR:L4.ZT K f (.ref o::[.type "ValueError",.type "Exception",.type "BaseException",.type "object"]):=⟨XR,rfl,gaR,gtR,csR,obR⟩;let XS:L4.jW K g (.ref o::[.type "ValueError",.type "Exception",.type "BaseException",.type "object"]):=⟨_,_,_,_,_,_,_,_,_,_,_,_,_,_,_,_,xS⟩;let LS:L4.ZT K g (.ref o::[.type "ValueError",.type "Exception",.type "BaseException",.type "object"]):=⟨XS,rfl,gaS,MH,csS,obS⟩;let aaP:=Wx X G ae1;let ZR:=Wx X G adx;let acn:=Wx X G agx;let aaQ:=Wx X G aeD;let abx:=Wx X G afB;let X9:=Wx X G ZH;let ZJ:=Wx X G r;let abG:=Wx X G afu;let abN:=Wx X G afE;let aco:=Wx X G agm;let acE:=Wx X G ad4;let acG:L9.XC K f o E:=⟨⟨_,_,_,_,_,_,_,_,_,_,_,_,_,_,xR,B,inN⟩,eI,saR⟩;let(fdI,zI):=S.F;let(_,_,_,_,_,_,_,_,_,rfl,abg,_):=zI.ex;let abf:=S.i;let aba:=Ft (P:=l.prog) (w:=w) (mg:=c) (base:=base) zI acG acE rdB fcB spB lH;let abe:=zI.binds (ps:=["self","most"]) (by ext:18);let afg:=h23.k a W λ_ z=>qL z p af5;let Ya:=h24.mt a W λ_ z=>sZ z p XG aaF;let Yg:=h25.mt a W λ_ z=>og z p;let YS:=h26.mt a W λ_ z=>rD z p ZK;let YA:=h27.mt a W λ_ z=>wb z p YS;let acF:=h28.mt a W λ_ z=>Bl z p YS;let Xk:=h29.mt a W λ_ z=>tP z p YA abI i Zn Zo;let Zw:=h30.mt a W λ_ z=>nc z p Ya aam X4 Zn Zo;let Zr:=h31.mt a W λ_ z=>l6 z p Xk X4 q Zn Zo;let aa0:=h32.mt a W λ_ z=>uV z p Ya YA aam ab3 X4 Zn Zo adp adt;let aaZ:=h33.mt a W λ_ z=>uS z p Yg Zw Zr Xk aa0;let aaK:=h34.mt a W λ_ z=>sF z p Xk YA Zn Zo;let abF:=h35.mt a W λ_ z=>yf z p Yg aaK acF;let aap:=h36.mt a W λ_ z=>rB z p Xk;let y:=h13.c W λ_ z=>Mu z p afg aap aaZ abF Ya;let WQ:=h38.mt t W λ_ z=>rM z M acG abg abf aba abe ZH X9 q;let YX:=h39.k t W λ_ z=>nJ z M WQ;let X8:=h40.mt t W λ_ z=>qO z M ZK abk;let aaa:L3.qC l.prog w K c base (L4.gR l.prog w) 9 "same" ["one","other","most"] [.int 400] (L10.dc K 3 cC):=C.c (ds:=[.int 400 ac5]) (dvs:=[.int 400]) W (.cons ⟨_,rfl⟩ .nil) λ_ z=>wF z M J r ZJ YX X8 WQ y Ye q YB YC;let aaI:L3.qC l.prog w K c base (L4.gR l.prog w) 9 "same" ["one","other","most"] [] (L10.dc K 3 cC):=C.c (ds:=[]) (dvs:=[]) W .nil λ_ z=>wF z M J r ZJ YX X8 WQ y Ye q YB YC;let adA:L3.Nr l.prog w K c base (L4.gR l.prog w) 9 "same" ["one","other","most"] ["most"] 2 1 (L10.dc K 3 cC):=C.ck W () λ_ z=>wF z M J r ZJ YX X8 WQ y Ye q YB YC;let abi:=h15.d W λ_ z=>FZ z M YX WQ y Ye q XG i YB YC;let abZ:L3.qC l.prog w K c base (L4.gR l.prog w) 10 "rooms" ["bed","most"] [] (L10.dc K 2 eU):=h16.c (ds:=[]) (dvs:=[]) W .nil λ_ z=>IU z abi;let ah4:oM l.prog w K c base 1 "_law_classes" ["_law_e"] (pE f 5):=T.c W λ_ z=>DR (j:=5) () z LR aaP ZR acn aaQ abx X9 ZJ abG abN aco (eP n F acJ aei) (eP n abz abM acT) (eP n Y Z afI) (eP n acI V adY) (eP n ac6 ac9 aeS) (zV _) (eP n afn afk aeU) (eP n d ac7 aeE) (eP n k ac8 aew) (eP n D x afl) (BE Q) WG Yh;let aiI:oM l.prog w K c base 1 "_law_classes" ["_law_e"] (pE g 6):=T.c W λ_ z=>DR (j:=6) () z LS aaP ZR acn aaQ abx X9 ZJ abG abN aco (eP m F acJ aee) (eP m abz abM acW) (eP m Y Z afq) (eP m acI V ad6) (eP m ac6 ac9 aeC) (eP m aeG aeF ad5) (zV _) (eP m d ac7 aeJ) (eP m k ac8 aeN) (eP m D x afG) (BE am7) WG Yh;let abE:=h17.c W λ_ z=>u0 z aaI ah4 aiI acE XB beB XR (by rw[Xd,Xd,eW,XD,YI]) ZH LR R lH XS (by rw[Xd,Xd,eW,XD,YI]) r;let abL:=h18.c W λ_ z=>vh z A aaa adA X9 XR LR R lH rfl ZH (BE Q) q I WG Yh;let ab2:=h19.c W λ_ z=>wM z abZ X9 XR rfl ZH q;show(Q6 aio aaa abL abE ab2 Yf A Z9 ab5 acH).imp (λ_ _ _ _ h=>L10.Py h)
end K54
local macro_rules|`(universe $i*)=>do
 let t:=fun (c:Lean.Name)=>`(theorem $(Lean.mkIdent ((`PySem.W.Fast).str ("tw"++toString c.hash))):ident:True:=trivial)
 let b:=`PySem.Challenge.cw_chordbed_k54_beds_of_other_keys_holds
 let o←(List.range 638).mapM fun n=>t (b.str ("o_"++toString n))
 let l←i.mapM fun j=>t (b++j.getId)
 return Lean.mkNullNode (((o.toArray++l).push (←t `PySem.Challenge.pw_chordbed_k54_beds_of_other_keys)))
universe heap_638 heap_39 tree_637 tree_559 tree_509 view_39 tree_388 tree_469 tree_278 sts_560 tree_247 tree_225 sts_279 tree_203 tree_188 tree_166 sts_473 sts_510 tree_144 tree_122 sts_248 tree_100 tree_85 sts_101 sts_226 sts_123 sts_145 sts_64 sts_204 sts_167 tree_63 sts_49 sts_86 heap_46 sts_189 tree_47 env_41
open PySem PySem.W PyProof.Rows
set_option maxRecDepth 100000 in
set_option maxHeartbeats 0 in
theorem PySem.Challenge.cw_chordbed_k54_beds_of_other_keys_holds : PySem.Challenge.rw_chordbed_k54_beds_of_other_keys.Holds := by
 w_on;o_law;k_head;(case hw=>w_witness2)
 k_fill
 refine L3.R8 (l:=PySem.Challenge.rw_chordbed_k54_beds_of_other_keys) (n:=63) (k:=13) (x:= "_law_script") (F:=K54.F_lawH) rfl (by decide) rfl ⟨rfl,by decide,by decide⟩ (λw h Y=>PySem.W.kIn_of Y) ?F K54.main
 case F=>
  intro w e f h b G a
  apply K54.all_mk b G a
  all_goals ext:36
